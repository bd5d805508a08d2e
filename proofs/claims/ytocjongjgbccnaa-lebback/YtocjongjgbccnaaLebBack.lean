/- Proved: for all lists of numbers the law LebBack returns true and leaves its arguments as they were: numbers that are put one behind the other are taken as they were; no conditions. -/
import Derived.Test.YtocjongjgbccnaaRows
import Derived.WalkKit
import Derived.ProofKit
import Derived.OpenShut
import Derived.ShutString
import Derived.ChangeOld
import Derived.Below
import Derived.Test.YtocjongjgbccnaaAwake
import Derived.Test.YtocjongjgbccnaaInt
namespace Go.Proofs.Ytocjongjgbccnaa.lebBack
open Go.ChangeShapes Go.WideShapes Go.ChangeAt Go.RowKit
open Go.ChangeMaps (open_string shut_string)
set_option linter.unusedVariables false

theorem own : ownKnob Try.prog.godebug = none := by kernel_rfl
theorem laidOut : laidOutB Try.prog = true := by kernel_rfl

theorem take_snoc {l : List Int} {k : Nat} (h : k < l.length) : l.take (k + 1) = l.take k ++ [l.getD k 0] := by
  rw [List.take_succ_eq_append_getElem h]; simp [List.getElem?_eq_getElem h]
theorem drop_cons {l : List Int} {k : Nat} (h : k < l.length) : l.drop k = l.getD k 0 :: l.drop (k + 1) := by
  rw [List.drop_eq_getElem_cons h]; simp [List.getElem?_eq_getElem h]

set_option maxHeartbeats 1000000 in
set_option maxRecDepth 100000 in
theorem walk_few (a0 : Option Addr) (cap0 : Nat) (l : List Int) (a1 : Option Addr) (cap1 : Nat) (m : List Int) (w : World) (w0 : Ints .u64 w a0 l) (w1 : Ints .i64 w a1 m)
    (hl : l.length ≤ 100) (hm : m.length ≤ 100) (bl : ∀ n ∈ l, 0 ≤ n ∧ n ≤ 18446744073709551615) (bm : ∀ n ∈ m, -9223372036854775808 ≤ n ∧ n ≤ 9223372036854775807) :
    Calls Try.prog 5 #[.slice a0 l.length cap0, .slice a1 m.length cap1] w fun e w' => e = .returned (.bool true) ∧ Below w.heap.size w w' := by
  have BL := hide bl
  have BM := hide bm
  clear bl bm
  go_enter Try.func5, Try.ntmps5
  go_wp2_with fail
  refine (awake_any _).mono ?_
  rintro e wa ⟨rfl, hBa⟩
  go_wp2_with fail
  go_loopw [5, 7, 27] (fun v _ iv wr => ∃ k : Nat, k ≤ l.length ∧ iv = .int .i64 k ∧ Byt wr v (Leb.encs (l.take k)) ∧ Below w.heap.size w wr) (fun _ _ iv _ => l.length - (intOf iv).toNat)
  case atStart => exact ⟨0, by omega, rfl, Byt.nil _, hBa⟩
  case round =>
    obtain ⟨k, hk, rfl, hv, hB⟩ := hrel
    by_cases hlt : k < l.length
    · obtain ⟨b, off, rfl, hb, hc⟩ := w0 (by omega)
      have hck := (hB.cell (p := ⟨b, off + k, none⟩) hb).trans (hc k hlt)
      obtain ⟨z, hz⟩ : ∃ z, z = l.getD k 0 := ⟨_, rfl⟩
      rw [← hz] at hck
      have hzb := BL.out z (by rw [hz]; simp [List.getElem?_eq_getElem hlt])
      obtain ⟨n, rfl⟩ := Int.eq_ofNat_of_zero_le hzb.1
      have hf : Leb.Fits n := by unfold Leb.Fits; omega
      have HT : Hid (Leb.encs (l.take (k + 1)) = Leb.encs (l.take k) ++ Leb.enc n) := by show _ = _; rw [take_snoc hlt, Leb.encs_snoc, ← hz]; rfl
      have hlen : (Leb.encs (l.take k)).length ≤ 1000000000 := by
        have := Leb.encs_len (l.take k) (fun n hn => BL.out n (List.mem_of_mem_take hn))
        simp at this
        omega
      clear hc hz hzb
      go_wp2_with fail
      refine (put_any _ _ n _ hv hlen hf).mono ?_
      rintro e w2 ⟨v2, rfl, hv2, hB2⟩
      have hB2' := bel_of hB hB2
      clear hB hB2 hck
      go_wp2_with fail
      go_roundw
      case rel => exact ⟨k + 1, by omega, by go_num, by rw [HT.out]; exact hv2, hB2'⟩
      case measure => simp [intOf]; omega
    · obtain rfl : k = l.length := by omega
      rw [List.take_of_length_le (Nat.le_refl _)] at hv
      clear hBa
      have hll : (Leb.encs l).length ≤ 1000 := by have := Leb.encs_len l BL.out; omega
      go_wp2_with fail
      go_loopw [5, 9, 37] (fun v _ iv wr => ∃ k : Nat, k ≤ m.length ∧ iv = .int .i64 k ∧ Byt wr v (Leb.encs l ++ Leb.encI (m.take k)) ∧ Below w.heap.size w wr) (fun _ _ iv _ => m.length - (intOf iv).toNat)
      case atStart => exact ⟨0, by omega, rfl, by simpa [Leb.encI_nil] using hv, hB⟩
      case round =>
        obtain ⟨k, hk, rfl, hv, hB⟩ := hrel
        by_cases hlt : k < m.length
        · obtain ⟨b, off, rfl, hb, hc⟩ := w1 (by omega)
          have hck := (hB.cell (p := ⟨b, off + k, none⟩) hb).trans (hc k hlt)
          obtain ⟨z, hz⟩ : ∃ z, z = m.getD k 0 := ⟨_, rfl⟩
          rw [← hz] at hck
          have hzb := hide (BM.out z (by rw [hz]; simp [List.getElem?_eq_getElem hlt]))
          have HT : Hid (Leb.encs l ++ Leb.encI (m.take (k + 1)) = Leb.encs l ++ Leb.encI (m.take k) ++ Leb.enc (Leb.zig z)) := by show _ = _; rw [take_snoc hlt, Leb.encI_snoc, ← hz, List.append_assoc]
          have hlen : (Leb.encs l ++ Leb.encI (m.take k)).length ≤ 1000000000 := by
            have := Leb.encI_len (m.take k) (fun n hn => BM.out n (List.mem_of_mem_take hn))
            simp at this ⊢
            omega
          clear hc hz
          go_wp2_with fail
          refine (putInt_any _ _ z _ hv hlen hzb.out.1 hzb.out.2).mono ?_
          rintro e w2 ⟨v2, rfl, hv2, hB2⟩
          have hB2' := bel_of hB hB2
          clear hB hB2 hck
          go_wp2_with fail
          go_roundw
          case rel => exact ⟨k + 1, by omega, by go_num, by rw [HT.out]; exact hv2, hB2'⟩
          case measure => simp [intOf]; omega
        · obtain rfl : k = m.length := by omega
          rw [List.take_of_length_le (Nat.le_refl _)] at hv
          have hlen : (Leb.encs l ++ Leb.encI m).length ≤ 1000000000 := by
            have := Leb.encI_len m BM.out
            simp
            omega
          go_wp2_with fail
          refine (new_any _ _ _ hv hlen).mono ?_
          rintro e w2 ⟨p, br, rfl, hp, hbr, hbr1, hR, hB2⟩
          have hpw : w.heap.size ≤ p := by have := hB.size; omega
          have hB2' := bel_of hB hB2
          clear hv hB hB2 hp hbr hbr1 hlen
          go_wp2_with fail
          go_loopw [12, 49] (fun _ iv wr => ∃ k : Nat, k ≤ l.length ∧ iv = .int .i64 k ∧ RdrAt wr p br (Leb.encs (l.drop k) ++ Leb.encI m) 0 ∧ Below w.heap.size w wr) (fun _ iv _ => l.length - (intOf iv).toNat)
          case atStart => exact ⟨0, by omega, rfl, hR, hB2'⟩
          case round =>
            obtain ⟨k, hk, rfl, hR, hB⟩ := hrel
            by_cases hlt : k < l.length
            · obtain ⟨b, off, rfl, hb, hc⟩ := w0 (by omega)
              have hck := (hB.cell (p := ⟨b, off + k, none⟩) hb).trans (hc k hlt)
              obtain ⟨z, hz⟩ : ∃ z, z = l.getD k 0 := ⟨_, rfl⟩
              rw [← hz] at hck
              have hzb := BL.out z (by rw [hz]; simp [List.getElem?_eq_getElem hlt])
              obtain ⟨n, rfl⟩ := Int.eq_ofNat_of_zero_le hzb.1
              have hf : Leb.Fits n := by unfold Leb.Fits; omega
              have ht : Leb.encs (l.drop k) ++ Leb.encI m = Leb.enc n ++ (Leb.encs (l.drop (k + 1)) ++ Leb.encI m) := by
                rw [drop_cons hlt, Leb.encs_cons, ← hz, List.append_assoc]; rfl
              rw [ht] at hR
              have HF := hide (Leb.front n hf (Leb.encs (l.drop (k + 1)) ++ Leb.encI m))
              clear hc hz hzb ht hB2'
              go_wp2_with fail
              refine (num_any p br _ _ _ hR).mono ?_
              rintro e w3 ⟨rfl, hR3, hG3⟩
              rw [HF.out.1]
              rw [HF.out.2.1, HF.out.2.2] at hR3
              have hB3 : Below w.heap.size w w3 := hB.grown hG3 hB.size (fun k hk => by simp at hk; omega)
              clear hR hG3 hB hck HF
              go_wp2_with fail
              go_roundw
              case rel => exact ⟨k + 1, by omega, by go_num, hR3, hB3⟩
              case measure => simp [intOf]; omega
            · obtain rfl : k = l.length := by omega
              rw [List.drop_eq_nil_of_le (Nat.le_refl _), Leb.encs_nil, List.nil_append] at hR
              clear hB2'
              go_wp2_with fail
              go_loopw [14, 60] (fun _ iv wr => ∃ k : Nat, k ≤ m.length ∧ iv = .int .i64 k ∧ RdrAt wr p br (Leb.encI (m.drop k)) 0 ∧ Below w.heap.size w wr) (fun _ iv _ => m.length - (intOf iv).toNat)
              case atStart => exact ⟨0, by omega, rfl, hR, hB⟩
              case round =>
                obtain ⟨k, hk, rfl, hR, hB⟩ := hrel
                by_cases hlt : k < m.length
                · obtain ⟨b, off, rfl, hb, hc⟩ := w1 (by omega)
                  have hck := (hB.cell (p := ⟨b, off + k, none⟩) hb).trans (hc k hlt)
                  obtain ⟨z, hz⟩ : ∃ z, z = m.getD k 0 := ⟨_, rfl⟩
                  rw [← hz] at hck
                  have hzb := BM.out z (by rw [hz]; simp [List.getElem?_eq_getElem hlt])
                  have hf : Leb.Fits (Leb.zig z) := Leb.zig_lt hzb.1 hzb.2
                  have ht : Leb.encI (m.drop k) = Leb.enc (Leb.zig z) ++ Leb.encI (m.drop (k + 1)) := by
                    rw [drop_cons hlt, Leb.encI_cons, ← hz]
                  rw [ht] at hR
                  have HF := hide (Leb.front (Leb.zig z) hf (Leb.encI (m.drop (k + 1))))
                  clear hc hz hzb ht
                  go_wp2_with fail
                  refine (int_any p br _ _ _ hR).mono ?_
                  rintro e w3 ⟨rfl, hR3, hG3⟩
                  rw [HF.out.1, Leb.zag_zig]
                  rw [HF.out.2.1, HF.out.2.2] at hR3
                  have hB3 : Below w.heap.size w w3 := hB.grown hG3 hB.size (fun k hk => by simp at hk; omega)
                  clear hR hG3 hB hck HF hf
                  go_wp2_with fail
                  go_roundw
                  case rel => exact ⟨k + 1, by omega, by go_num, hR3, hB3⟩
                  case measure => simp [intOf]; omega
                · obtain rfl : k = m.length := by omega
                  rw [List.drop_eq_nil_of_le (Nat.le_refl _), Leb.encI_nil] at hR
                  go_wp2_with fail
                  refine (end_any p br _ _ _ hR).mono ?_
                  rintro e w3 ⟨rfl, hR3, hG3⟩
                  have hB3 : Below w.heap.size w w3 := hB.grown hG3 hB.size (fun k hk => by simp at hk; omega)
                  have ee : Leb.ended [] 0 = 0 := by decide
                  rw [ee]
                  clear hR hR3 hG3 hB ee
                  go_wp2_with fail
                  go_ret
                  exact ⟨rfl, hB3⟩

theorem walk (a0 : Option Addr) (len0 cap0 : Nat) (z0 : List Int) (a1 : Option Addr) (len1 cap1 : Nat) (z1 : List Int) (w : World) (w0 : IsRow .u64 w a0 len0 cap0 z0) (w1 : IsRow .i64 w a1 len1 cap1 z1) :
    Calls Try.prog 5 #[.slice a0 len0 cap0, .slice a1 len1 cap1] w fun e w' => e = .returned (.bool true) ∧ Below w.heap.size w w' := by
  obtain ⟨h0, i0, b0⟩ := Ints.of_row w0
  obtain ⟨h1, i1, b1⟩ := Ints.of_row w1
  clear w0 w1
  generalize z0.take len0 = l at *
  generalize z1.take len1 = m at *
  subst h0
  subst h1
  by_cases hl : 100 < l.length
  · clear i0 i1 b0 b1
    go_enter Try.func5, Try.ntmps5
    go_wp2_with fail
    refine (awake_any _).mono ?_
    rintro e w1 ⟨rfl, hB1⟩
    go_wp2_with fail
    go_ret
    exact ⟨rfl, hB1⟩
  · by_cases hm : 100 < m.length
    · clear i0 i1 b0 b1
      go_enter Try.func5, Try.ntmps5
      go_wp2_with fail
      refine (awake_any _).mono ?_
      rintro e w1 ⟨rfl, hB1⟩
      go_wp2_with fail
      go_ret
      exact ⟨rfl, hB1⟩
    · exact walk_few a0 cap0 l a1 cap1 m w i0 i1 (by omega) (by omega) (fun n hn => bounds_u64 (b0 n hn)) (fun n hn => bounds_i64 (b1 n hn))

/-! ### THE ROW's STEP: WRITTEN OUT: LEAVE IT -/
set_option maxRecDepth 100000 in
theorem lifted (os : Os) (started : os.Started) (H : Type) (enc : TypeId × Value → H) :
    ReturnsInHanded {} Try.checked os 5 .any (Rows.lebBackSpec.pre6 enc Try.prog Try.f5 Rows.lebBackRow.domain false) (Rows.lebBackSpec.post enc Try.prog Try.f5 false true false false) := by
  refine returnsInHanded_of_change (C := Try.checked) own started (by kernel_rfl) Try.func5
    (ChangeSpec.witness6 (enc := enc) (C := Try.checked) false ⟨#[], #[.slice none 0 0, .slice none 0 0], []⟩ 8 (by kernel_rfl) (by kernel_rfl) (by kernel_rfl) (by kernel_rfl)) ?_
  intro W base args ds gs before hval0 hW hcnd _
  have hval : ∀ (j : Nat) t v, Try.f5.params[j]? = some t → args[j]? = some v → Value.okWide Try.prog W .any base t v := hval0
  have hW' := hW
  obtain ⟨p, q, hA0, hV, rfl, hfz, hnd⟩ := hW
  have hA : DataW.TrodAll enc Try.prog W 0 (fun _ => true) true Try.f5.params.toList args.toList ds p := hA0
  rw [Try.params5] at hA hval
  obtain ⟨v0, vs0, d0, ds0, p0, q0, hargs, rfl, rfl, h0, r0⟩ := trodAll_cons hA
  obtain ⟨v1, vs1, d1, ds1, p1, q1, rfl, rfl, rfl, h1, r1⟩ := trodAll_cons r0
  obtain ⟨rfl, rfl, rfl⟩ := trodAll_nil r1
  obtain rfl : args = #[v0, v1] := by cases args; simp_all
  obtain ⟨rfl, rfl⟩ := trodVars_none hV
  obtain ⟨a0, len0, cap0, rfl⟩ := okWide_slice Try.underlying48 (hval 0 48 v0 rfl rfl)
  have k0 := h0
  have lt0 : ∀ x ∈ p0, x.block < W.heap.size := by obtain ⟨m, hm⟩ := k0; exact DataW.trod_lt m _ _ _ hm
  obtain ⟨z0, w0⟩ : ∃ zs, IsRow .u64 W a0 len0 cap0 zs := by
    obtain ⟨fuel, hf⟩ := h0
    rcases open_ints Try.underlying48 Try.underlying23 (by kernel_rfl) hf with ⟨hcs, _⟩ | ⟨x, l, c, zs, hcs, _, hl, hm, hz, _, hcell, hwz⟩
    · simp [Value.cells] at hcs
      obtain ⟨rfl, rfl, rfl⟩ := hcs
      exact ⟨[], .inl ⟨rfl, rfl, rfl, rfl⟩⟩
    · simp [Value.cells] at hcs
      obtain ⟨rfl, rfl, rfl⟩ := hcs
      exact ⟨zs, .inr ⟨_, rfl, hl, hm, by simpa using hz, hcell, hwz⟩⟩
  obtain ⟨a1, len1, cap1, rfl⟩ := okWide_slice Try.underlying49 (hval 1 49 v1 rfl rfl)
  have k1 := h1
  have lt1 : ∀ x ∈ p1, x.block < W.heap.size := by obtain ⟨m, hm⟩ := k1; exact DataW.trod_lt m _ _ _ hm
  obtain ⟨z1, w1⟩ : ∃ zs, IsRow .i64 W a1 len1 cap1 zs := by
    obtain ⟨fuel, hf⟩ := h1
    rcases open_ints Try.underlying49 Try.underlying2 (by kernel_rfl) hf with ⟨hcs, _⟩ | ⟨x, l, c, zs, hcs, _, hl, hm, hz, _, hcell, hwz⟩
    · simp [Value.cells] at hcs
      obtain ⟨rfl, rfl, rfl⟩ := hcs
      exact ⟨[], .inl ⟨rfl, rfl, rfl, rfl⟩⟩
    · simp [Value.cells] at hcs
      obtain ⟨rfl, rfl, rfl⟩ := hcs
      exact ⟨zs, .inr ⟨_, rfl, hl, hm, by simpa using hz, hcell, hwz⟩⟩
  clear hA0 hval0
  refine (walk a0 len0 cap0 z0 a1 len1 cap1 z1 W w0 w1).mono fun e W' ⟨he, bel⟩ => ?_
  subst he
  exact ⟨_, rfl, _, _, _, [], _, [], hW', trodAll_mk1 (shut_bool Try.underlying4 _), (trodAll_cons_mk (Below.trod laidOut (by kernel_rfl) (of_decide_eq_true (by kernel_rfl)) k0 bel lt0) (trodAll_cons_mk (Below.trod laidOut (by kernel_rfl) (of_decide_eq_true (by kernel_rfl)) k1 bel lt1) trodAll_mk0)), rfl, bel.frame _, fun h => by cases h⟩

theorem over : Rows.lebBackRow.holds Try.pinned (OpenSpec.ofChange Rows.lebBackSpec) :=
  OpenClaim.holds_of_wide 5 Try.f5 rfl rfl rfl rfl rfl rfl rfl ⟨rfl, rfl, rfl, rfl, rfl⟩ rfl rfl rfl rfl rfl (by kernel_rfl) Try.func5 (by kernel_rfl)
    (of_decide_eq_true (by kernel_rfl)) (by unfold Func.isWrapper; first | (rw [if_pos (by decide +kernel)]; kernel_rfl) | (rw [if_neg (by decide +kernel)]; exact ⟨rfl, rfl⟩))
    (fun os started H enc _ => lifted os started H enc)

end Go.Proofs.Ytocjongjgbccnaa.lebBack
namespace Go.Proofs.Ytocjongjgbccnaa
theorem lebBack_holds : Rows.LebBackSaid := lebBack.over
#print axioms lebBack_holds
end Go.Proofs.Ytocjongjgbccnaa
