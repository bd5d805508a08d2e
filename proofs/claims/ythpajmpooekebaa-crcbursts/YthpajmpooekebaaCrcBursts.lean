/- Proved: for all bytes, places and words the law CrcBursts returns true and leaves its arguments as they were: bits that are turned within 32 side by side are seen by the sum; no conditions. -/
import Derived.Test.YthpajmpooekebaaRows
import Derived.WalkKit
import Derived.ProofKit
import Derived.OpenShut
import Derived.ShutString
import Derived.ChangeOld
import Derived.Below
import Derived.Test.YthpajmpooekebaaAwake
import Derived.Test.YthpajmpooekebaaTurned
namespace Go.Proofs.Ythpajmpooekebaa.crcBursts
open Go.ChangeShapes Go.WideShapes Go.ChangeAt Go.RowKit
open Go.ChangeMaps (open_string shut_string)
set_option linter.unusedVariables false

theorem own : ownKnob Try.prog.godebug = none := by kernel_rfl
theorem laidOut : laidOutB Try.prog = true := by kernel_rfl

theorem place_nat (a : Int) (L : Nat) (h0 : 0 < L) (h1 : L ≤ 3000) : ∃ k : Nat, k < 8 * L ∧ wrap64 ((IntKind.u64.wrap a).tmod (8 * (L : Int))) = (k : Int) := by
  have hp : 0 ≤ IntKind.u64.wrap a := by rw [IntKind.wrap_u64]; omega
  have e : (IntKind.u64.wrap a).tmod (8 * (L : Int)) = (IntKind.u64.wrap a) % (8 * (L : Int)) := Int.tmod_eq_emod_of_nonneg hp
  have l1 := Int.emod_nonneg (IntKind.u64.wrap a) (show (8 * (L : Int)) ≠ 0 by omega)
  have l2 := Int.emod_lt_of_pos (IntKind.u64.wrap a) (show 0 < (8 * (L : Int)) by omega)
  rw [e]
  generalize (IntKind.u64.wrap a) % (8 * (L : Int)) = r at *
  refine ⟨r.toNat, by omega, ?_⟩
  simp only [wrap64]
  omega

theorem test_bit (W i : Nat) (hW : W < 4294967296) : bits .and .u32 ((W : Int) / 2 ^ i) 1 = if W.testBit i = true then 1 else 0 := by
  have e : ((W : Int) / 2 ^ i) = ((W / 2 ^ i : Nat) : Int) := by simp
  have l : W / 2 ^ i < 4294967296 := Nat.lt_of_le_of_lt (Nat.div_le_self _ _) hW
  rw [e, and_one _ l, Nat.testBit_eq_decide_div_mod_eq]
  simp only [decide_eq_true_eq]
  split <;> omega

set_option maxHeartbeats 1000000 in
set_option maxRecDepth 100000 in
theorem walk_few (a0 : Option Addr) (cap0 : Nat) (xs : List Int) (a1 : Int) (W : Nat) (w : World) (h0 : Byt w (.slice a0 xs.length cap0) xs) (hx : xs.length ≤ 3000) (hx0 : 0 < xs.length)
    (h1 : -9223372036854775808 ≤ a1) (h1' : a1 ≤ 9223372036854775807) (hW : W < 4294967296) :
    Calls Try.prog 5 #[.slice a0 xs.length cap0, .int .i64 a1, .int .u32 W] w fun e w' => e = .returned (.bool true) ∧ Below w.heap.size w w' := by
  obtain ⟨i0, hi, hz0, hz1, hz2⟩ := info_parts info5
  have hb0 := hide h0.bytes
  have hz' : ((xs.length : Int) == 0) = false := by simp only [beq_eq_false_iff_ne]; omega
  go_enter Try.func5, Try.ntmps5
  go_wp2_with fail
  refine (awake_any _).mono ?_
  rintro e w1 ⟨rfl, hB1⟩
  have p0 := hide (h0.below hB1)
  have hE := owns_empty w1 w1.heap.size (Nat.le_refl _)
  have hBE := (Below.refl w1.heap.size w1).alloc (Nat.le_refl _) (.cells #[] 5)
  clear h0
  go_wp2_with (at_builtin; go_must (refine wpList_append_byt _ rfl (.tmp 22) (.tmp 23) 22 rfl w1.heap.size i0 Try.underlying22 hi hz0 hz1 hz2 _ _ _ rfl hE _ xs rfl (p0.out.below hBE) (by omega) (by simp) ?_))
  intro v2 w2 hown2 hg2
  have hB2 : Below w1.heap.size w1 w2 := hBE.grown hg2 (by simp) (fun k hk => (hE.lt k hk).1)
  clear hE hBE hg2 hi hz0 hz1 hz2
  have hown2' := hown2
  rcases hown2.2 with ⟨_, hn0⟩ | ⟨g, cap, cur, rfl, hgb, hgc, hnc, hcm, _, _⟩
  · omega
  clear hown2 hgc
  go_wp2_with fail
  obtain ⟨k, hk, ek⟩ := place_nat a1 xs.length hx0 hx
  rw [ek]
  clear ek
  have hT : Hid (Turned xs xs k W 0 false) := Turned.start k W hb0.out
  go_loopw [9, 10, 11, 33] (fun tv _ _ iv wr => ∃ (i : Nat) (C : List Int) (t : Bool), i ≤ 32 ∧ iv = .int .i64 i ∧ tv = .bool t ∧ Hid (Turned xs C k W i t) ∧ wr.ownsRow w1.heap.size 5 1 (.slice (some ⟨g, 0, none⟩) xs.length cap) xs.length (C.map (Value.int .u8)) ∧ Below w1.heap.size w1 wr)
    (fun _ _ _ iv _ => 32 - (intOf iv).toNat)
  case atStart => exact ⟨0, xs, false, by omega, rfl, rfl, hT, hown2', hB2⟩
  case round =>
    obtain ⟨i, C, t, hi, rfl, rfl, hTu, hown, hBr⟩ := hrel
    by_cases hlt : i < 32
    · have ht := test_bit W i hW
      by_cases hb : W.testBit i = true
      · rw [if_pos hb] at ht
        by_cases hin : k + i < 8 * xs.length
        · have hin' : (k : Int) + (i : Int) < 8 * (xs.length : Int) := by omega
          have hc := hown.cellAt ((k + i) / 8) (by omega)
          have hq : (k + i) / 8 < C.length := by rw [hTu.out.1]; omega
          rw [List.getElem?_map, List.getElem?_eq_getElem hq, Option.map_some] at hc
          have hf := hown.frozenAt ((k + i) / 8)
          have HT := hide (hTu.out.flip hb hin hq)
          have hst := (hown.stored ((k + i) / 8) (.int .u8 (bits .xor .u8 C[(k + i) / 8] (2 ^ ((k + i) % 8) % 256)))).1.drew
          rw [← List.map_set] at hst
          have hB3 := (hBr.setCell (p := ⟨g, (k + i) / 8, none⟩) hgb (.int .u8 (bits .xor .u8 C[(k + i) / 8] (2 ^ ((k + i) % 8) % 256)))).drew
          generalize C[(k + i) / 8] = z at *
          clear hTu hown hBr hq hT hown2' hB2
          go_wp2_with fail
          go_region
          go_wp2_with fail
          go_roundw
          case rel => exact ⟨i + 1, _, true, by omega, by go_num, rfl, HT, hst, hB3⟩
          case measure => simp [intOf]; omega
        · have hin' : 8 * (xs.length : Int) ≤ (k : Int) + (i : Int) := by omega
          have HT := hide (hTu.out.stay (.inr (by omega)))
          clear hTu
          go_wp2_with fail
          go_roundw
          case rel => exact ⟨i + 1, C, t, by omega, by go_num, rfl, HT, hown, hBr⟩
          case measure => simp [intOf]; omega
      · rw [if_neg hb] at ht
        have HT := hide (hTu.out.stay (.inl (by simpa using hb)))
        clear hTu
        go_wp2_with fail
        go_roundw
        case rel => exact ⟨i + 1, C, t, by omega, by go_num, rfl, HT, hown, hBr⟩
        case measure => simp [intOf]; omega
    · obtain rfl : i = 32 := by omega
      have hC : Byt wr (.slice (some ⟨g, 0, none⟩) xs.length cap) C := Byt.of_owns hown hTu.out.2.1
      have hS1 := hide (sum_one hC)
      have hBL := (Below.refl wr.heap.size wr).alloc (Nat.le_refl _) (.cells #[.slice (some ⟨g, 0, none⟩) xs.length cap] 22)
      have hX := (p0.out.below hBr).below hBL
      have hS2' := sum_one hX
      rw [show (wr.alloc (.cells #[.slice (some ⟨g, 0, none⟩) xs.length cap] 22)).heap.size = wr.heap.size + 1 from by simp] at hS2'
      have hS2 := hide hS2'
      have hBw := bel_of (bel_of hB1 hBr) hBL
      have hBw2 := hBw.alloc (by have := hBw.size; omega) (.cells #[.slice a0 xs.length cap0] 22)
      have hend := hTu.out.end hb0.out
      have hfin : Hid ((!(decide (((sumOf C : Nat) : Int) = ((sumOf xs : Nat) : Int)))) = t) := by
        show _ = _
        cases t with
        | true =>
          have := hend.2 rfl
          simp
          omega
        | false =>
          have : ¬ (sumOf C ≠ sumOf xs) := fun h => by have := hend.1 h; simp at this
          simp
          omega
      clear hS2' hTu hown hBr hC hBL hX hend hT hown2' hB2 hBw
      go_wp2_with fail
      refine hS1.out.mono ?_
      rintro e w4 ⟨rfl, rfl⟩
      clear hS1
      go_wp2_with fail
      refine hS2.out.mono ?_
      rintro e w5 ⟨rfl, rfl⟩
      clear hS2
      go_wp2_with fail
      go_ret
      exact ⟨ret_bool (by rw [← hfin.out]; simp; rfl), hBw2⟩

set_option maxHeartbeats 400000 in
set_option maxRecDepth 100000 in
theorem walk_many (a0 : Option Addr) (len0 cap0 : Nat) (a1 : Int) (W : Nat) (w : World) (h : len0 = 0 ∨ 3000 < len0) :
    Calls Try.prog 5 #[.slice a0 len0 cap0, .int .i64 a1, .int .u32 W] w fun e w' => e = .returned (.bool true) ∧ Below w.heap.size w w' := by
  rcases h with rfl | h
  · go_enter Try.func5, Try.ntmps5
    go_wp2_with fail
    refine (awake_any _).mono ?_
    rintro e w1 ⟨rfl, hB1⟩
    go_wp2_with fail
    go_ret
    exact ⟨rfl, hB1⟩
  · have hz' : ((len0 : Int) == 0) = false := by simp only [beq_eq_false_iff_ne]; omega
    go_enter Try.func5, Try.ntmps5
    go_wp2_with fail
    refine (awake_any _).mono ?_
    rintro e w1 ⟨rfl, hB1⟩
    go_wp2_with fail
    go_ret
    exact ⟨rfl, hB1⟩

theorem walk (a0 : Option Addr) (len0 cap0 : Nat) (z0 : List Int) (a1 : Int) (a2 : Int) (w : World) (w0 : IsRow .u8 w a0 len0 cap0 z0) (w1 : (Lit.int .i64 a1).wf = true) (w2 : (Lit.int .u32 a2).wf = true) :
    Calls Try.prog 5 #[.slice a0 len0 cap0, .int .i64 a1, .int .u32 a2] w fun e w' => e = .returned (.bool true) ∧ Below w.heap.size w w' := by
  obtain ⟨e0, v0⟩ := Byt.of_row w0
  have b1 := bounds_i64 w1
  have b2 : 0 ≤ a2 ∧ a2 < 4294967296 := by simp [Lit.wf, IntKind.min, IntKind.max, IntKind.signed, IntKind.bits] at w2; omega
  obtain ⟨W, rfl⟩ := Int.eq_ofNat_of_zero_le b2.1
  clear w0 w1 w2
  generalize z0.take len0 = xs at *
  subst e0
  by_cases h : xs.length = 0 ∨ 3000 < xs.length
  · exact walk_many _ _ _ _ _ _ h
  · exact walk_few a0 cap0 xs a1 W w v0 (by omega) (by omega) b1.1 b1.2 (by omega)

/-! ### THE ROW's STEP: WRITTEN OUT: LEAVE IT -/
set_option maxRecDepth 100000 in
theorem lifted (os : Os) (started : os.Started) (H : Type) (enc : TypeId × Value → H) :
    ReturnsInHanded {} Try.checked os 5 .any (Rows.crcBurstsSpec.pre6 enc Try.prog Try.f5 Rows.crcBurstsRow.domain false) (Rows.crcBurstsSpec.post enc Try.prog Try.f5 false true false false) := by
  refine returnsInHanded_of_change (C := Try.checked) own started (by kernel_rfl) Try.func5
    (ChangeSpec.witness6 (enc := enc) (C := Try.checked) false ⟨#[], #[.slice none 0 0, .int .i64 0, .int .u32 0], []⟩ 8 (by kernel_rfl) (by kernel_rfl) (by kernel_rfl) (by kernel_rfl)) ?_
  intro W base args ds gs before hval0 hW hcnd _
  have hval : ∀ (j : Nat) t v, Try.f5.params[j]? = some t → args[j]? = some v → Value.okWide Try.prog W .any base t v := hval0
  have hW' := hW
  obtain ⟨p, q, hA0, hV, rfl, hfz, hnd⟩ := hW
  have hA : DataW.TrodAll enc Try.prog W 0 (fun _ => true) true Try.f5.params.toList args.toList ds p := hA0
  rw [Try.params5] at hA hval
  obtain ⟨v0, vs0, d0, ds0, p0, q0, hargs, rfl, rfl, h0, r0⟩ := trodAll_cons hA
  obtain ⟨v1, vs1, d1, ds1, p1, q1, rfl, rfl, rfl, h1, r1⟩ := trodAll_cons r0
  obtain ⟨v2, vs2, d2, ds2, p2, q2, rfl, rfl, rfl, h2, r2⟩ := trodAll_cons r1
  obtain ⟨rfl, rfl, rfl⟩ := trodAll_nil r2
  obtain rfl : args = #[v0, v1, v2] := by cases args; simp_all
  obtain ⟨rfl, rfl⟩ := trodVars_none hV
  obtain ⟨a0, len0, cap0, rfl⟩ := okWide_slice Try.underlying22 (hval 0 22 v0 rfl rfl)
  have k0 := h0
  have lt0 : ∀ x ∈ p0, x.block < W.heap.size := by obtain ⟨m, hm⟩ := k0; exact DataW.trod_lt m _ _ _ hm
  obtain ⟨z0, w0⟩ : ∃ zs, IsRow .u8 W a0 len0 cap0 zs := by
    obtain ⟨fuel, hf⟩ := h0
    rcases open_ints Try.underlying22 Try.underlying5 (by kernel_rfl) hf with ⟨hcs, _⟩ | ⟨x, l, c, zs, hcs, _, hl, hm, hz, _, hcell, hwz⟩
    · simp [Value.cells] at hcs
      obtain ⟨rfl, rfl, rfl⟩ := hcs
      exact ⟨[], .inl ⟨rfl, rfl, rfl, rfl⟩⟩
    · simp [Value.cells] at hcs
      obtain ⟨rfl, rfl, rfl⟩ := hcs
      exact ⟨zs, .inr ⟨_, rfl, hl, hm, by simpa using hz, hcell, hwz⟩⟩
  obtain ⟨a1, rfl, rfl, rfl, w1⟩ := open_int Try.underlying3 (hval 1 3 v1 rfl rfl) h1
  obtain ⟨a2, rfl, rfl, rfl, w2⟩ := open_int Try.underlying24 (hval 2 24 v2 rfl rfl) h2
  clear hA0 hval0
  refine (walk a0 len0 cap0 z0 a1 a2 W w0 w1 w2).mono fun e W' ⟨he, bel⟩ => ?_
  subst he
  exact ⟨_, rfl, _, _, _, [], _, [], hW', trodAll_mk1 (shut_bool Try.underlying4 _), (trodAll_cons_mk (Below.trod laidOut (by kernel_rfl) (of_decide_eq_true (by kernel_rfl)) k0 bel lt0) (trodAll_cons_mk (shut_int Try.underlying3 w1) (trodAll_cons_mk (shut_int Try.underlying24 w2) trodAll_mk0))), rfl, bel.frame _, fun h => by cases h⟩

theorem over : Rows.crcBurstsRow.holds Try.pinned (OpenSpec.ofChange Rows.crcBurstsSpec) :=
  OpenClaim.holds_of_wide 5 Try.f5 rfl rfl rfl rfl rfl rfl rfl ⟨rfl, rfl, rfl, rfl, rfl⟩ rfl rfl rfl rfl rfl (by kernel_rfl) Try.func5 (by kernel_rfl)
    (of_decide_eq_true (by kernel_rfl)) (by unfold Func.isWrapper; first | (rw [if_pos (by decide +kernel)]; kernel_rfl) | (rw [if_neg (by decide +kernel)]; exact ⟨rfl, rfl⟩))
    (fun os started H enc _ => lifted os started H enc)

end Go.Proofs.Ythpajmpooekebaa.crcBursts
namespace Go.Proofs.Ythpajmpooekebaa
theorem crcBursts_holds : Rows.CrcBurstsSaid := crcBursts.over
#print axioms crcBursts_holds
end Go.Proofs.Ythpajmpooekebaa
