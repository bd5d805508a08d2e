/- Proved: for all bytes and cuts the law CrcCuts returns true and leaves its arguments as they were: how bytes are cut into parts changes nothing of their sum; no conditions. -/
import Derived.Test.YthpajmpooekebaaRows
import Derived.WalkKit
import Derived.ProofKit
import Derived.OpenShut
import Derived.ShutString
import Derived.ChangeOld
import Derived.Below
import Derived.Test.YthpajmpooekebaaAwake
import Derived.Test.YthpajmpooekebaaParts
namespace Go.Proofs.Ythpajmpooekebaa.crcCuts
open Go.ChangeShapes Go.WideShapes Go.ChangeAt Go.RowKit
open Go.ChangeMaps (open_string shut_string)
set_option linter.unusedVariables false

theorem own : ownKnob Try.prog.godebug = none := by kernel_rfl
theorem laidOut : laidOutB Try.prog = true := by kernel_rfl

theorem cut_if (a b : Nat) : (if (a : Int) < (b : Int) then (a : Int) else (b : Int)) = ((min b a : Nat) : Int) := by
  split <;> omega

set_option maxHeartbeats 1000000 in
set_option maxRecDepth 100000 in
theorem walk_few (a0 : Option Addr) (cap0 : Nat) (xs : List Int) (a1 : Option Addr) (cap1 : Nat) (cs : List Int) (w : World)
    (h0 : Byt w (.slice a0 xs.length cap0) xs) (h1 : Byt w (.slice a1 cs.length cap1) cs) (hx : xs.length ≤ 3000) (hc : cs.length ≤ 50) :
    Calls Try.prog 4 #[.slice a0 xs.length cap0, .slice a1 cs.length cap1] w fun e w' => e = .returned (.bool true) ∧ Below w.heap.size w w' := by
  obtain ⟨j0, hj, hj0, hj1, hj2⟩ := info_parts info22
  go_enter Try.func4, Try.ntmps4
  go_wp2_with fail
  refine (awake_any _).mono ?_
  rintro e w1 ⟨rfl, hB1⟩
  have p0 := hide (h0.below hB1)
  have p1 := hide (h1.below hB1)
  have hz0 : w1.heap.size ≤ w1.heap.size := Nat.le_refl _
  clear h0 h1
  go_wp2_with fail
  go_loopw [5, 6, 8, 9, 23] (fun pv rv _ _ iv wr => ∃ (k : Nat) (ps : List (List Int)) (vals : List Value) (rs : List Int) (ar : Option Addr) (capr : Nat), k ≤ cs.length ∧ iv = .int .i64 k ∧ ps.length = k ∧ rv = .slice ar rs.length capr ∧
      Hid (ps.flatten ++ rs = xs) ∧ Hid (Each w1 vals ps) ∧ Hid (Byt w1 (.slice ar rs.length capr) rs) ∧ wr.ownsRow w1.heap.size 22 1 pv k vals ∧ Below w1.heap.size w1 wr) (fun _ _ _ _ iv _ => cs.length - (intOf iv).toNat)
  case atStart => exact ⟨0, [], [], xs, a0, cap0, by omega, rfl, rfl, rfl, by show _ = _; simp, Each.nil _, p0, World.ownsRow_nil _ _ _ _, Below.refl _ _⟩
  case round =>
    obtain ⟨k, ps, vals, rs, ar, capr, hk, rfl, hpl, rfl, HF, HE, HR, hown, hBr⟩ := hrel
    have hsz := hBr.size
    by_cases hlt : k < cs.length
    · obtain ⟨b1, o1, rfl, l1, c1⟩ := p1.out.at k hlt
      have d1 := (hBr.cell (p := ⟨b1, o1 + k, none⟩) l1).trans c1
      have hcb := p1.out.bytes (cs.getD k 0) (by simp [List.getElem?_eq_getElem hlt])
      obtain ⟨c, hcc⟩ := Int.eq_ofNat_of_zero_le hcb.1
      rw [hcc] at d1 hcb
      obtain ⟨_, q1, q2, q3⟩ := HR.out.cap
      have hmin := cut_if rs.length c
      obtain ⟨n, hn⟩ : ∃ n, n = min c rs.length := ⟨_, rfl⟩
      rw [← hn] at hmin
      have hrun : ∀ ts t W, (Builtin.min_ ts t #[.int .i64 (c : Int), .int .i64 (rs.length : Int)]).run Try.prog W = .ok (.int .i64 (n : Int)) W := by
        intro ts t W
        rw [run_min_int2, hmin]
      have hown' := hown.alloc (.cells #[.slice ar n capr] 22)
      have hnr : n ≤ rs.length := by omega
      have hn0 : (0 : Int) ≤ (n : Int) := by omega
      have hn1 : (n : Int) ≤ (capr : Int) := by omega
      have hn2 : (n : Int) ≤ (rs.length : Int) := by omega
      have ht := hide (HR.out.take n hnr)
      clear c1 l1 hcc hn hmin
      go_wp2_with (at_builtin; go_must (refine wpList_append_own _ rfl (.tmp 32) (.tmp 36) 28 rfl w1.heap.size 22 j0 (.slice none 0 0) 1 24 Try.underlying28 hj hj0 hj1 hj2 rfl (by decide) _ k vals rfl hown' ⟨wr.heap.size, 0, none⟩ 1 1 [.slice ar n capr] rfl rfl ?c1 ?c2 ?c3 ?c4 ?c5 ?_))
      case c2 => rfl
      case c3 => unfold maxLen; omega
      case c4 => omega
      case c5 => omega
      intro v' w3 hown3 hgrow _
      have hB3 : Below w1.heap.size w1 w3 := (hBr.alloc (by omega) _).grown hgrow (by simp; omega) (fun k hk => (hown.lt k hk).1)
      have hE3 : Hid (Each w1 (vals ++ [.slice ar n capr]) (ps ++ [rs.take n])) := HE.out.snoc ht.out
      have hF3 : Hid ((ps ++ [rs.take n]).flatten ++ rs.drop n = xs) := by
        show _ = _
        rw [List.flatten_append, ← HF.out]
        simp
      have hdl : (rs.drop n).length = rs.length - n := by simp
      clear hrun hgrow hown hown' HE ht HF d1 hBr hsz
      by_cases hnc : n < capr
      · have hR3 := hide (HR.out.drop n hnr (ar.map (fun x => x.add n)) (fun b off ho _ => by rw [ho, Option.map_some, Addr.add_lit]) (fun hn => by cases ar <;> simp_all))
        rw [← hdl] at hR3
        clear HR
        go_wp2_with fail
        go_roundw
        case rel => exact ⟨k + 1, _, _, rs.drop n, ar.map (fun x => x.add n), capr - n, by omega, by go_num, by simp [hpl], by rw [hdl], hF3, hE3, hR3, hown3, hB3⟩
        case measure => simp [intOf]; omega
      · obtain rfl : capr = n := by omega
        have hR3 := hide (HR.out.drop capr hnr ar (fun b off ho hl => by omega) (fun hn => hn))
        rw [← hdl] at hR3
        clear HR
        go_wp2_with fail
        go_roundw
        case rel => exact ⟨k + 1, _, _, rs.drop capr, ar, capr - capr, by omega, by go_num, by simp [hpl], by rw [hdl]; simp; omega, hF3, hE3, hR3, hown3, hB3⟩
        case measure => simp [intOf]; omega
    · obtain rfl : k = cs.length := by omega
      obtain ⟨_, q1, q2, q3⟩ := HR.out.cap
      have hown' := hown.alloc (.cells #[.slice ar rs.length capr] 22)
      go_wp2_with (at_builtin; go_must (refine wpList_append_own _ rfl (.tmp 42) (.tmp 44) 28 rfl w1.heap.size 22 j0 (.slice none 0 0) 1 24 Try.underlying28 hj hj0 hj1 hj2 rfl (by decide) _ cs.length vals rfl hown' ⟨wr.heap.size, 0, none⟩ 1 1 [.slice ar rs.length capr] rfl rfl ?d1 ?d2 ?d3 ?d4 ?d5 ?_))
      case d2 => rfl
      case d3 => unfold maxLen; omega
      case d4 => omega
      case d5 => omega
      intro v' w3 hown3 hgrow _
      have hB3 : Below w1.heap.size w1 w3 := (hBr.alloc (by omega) _).grown hgrow (by simp; omega) (fun k hk => (hown.lt k hk).1)
      have hE3 : Each w1 (vals ++ [.slice ar rs.length capr]) (ps ++ [rs]) := HE.out.snoc HR.out
      have hF3 : (ps ++ [rs]).flatten = xs := by
        rw [List.flatten_append, ← HF.out]
        simp
      have hP : Parts w3 v' (ps ++ [rs]) := Parts.of_owns hown3 (hE3.below hB3) (by simp [hpl]) (by omega)
      have hS := hide (sum_any v' (ps ++ [rs]) w3 hP)
      have hx3 := p0.out.below hB3
      have hS2 := hide (sum_one hx3)
      have hBw := bel_of hB1 hB3
      have hBw2 := hBw.alloc (by have := hBw.size; omega) (.cells #[.slice a0 xs.length cap0] 22)
      rw [hF3] at hS
      clear hown3 hgrow hown hown' HE HF hBr hsz hP hx3 hB3 hE3 hF3 HR
      go_wp2_with fail
      refine hS.out.mono ?_
      rintro e w4 ⟨rfl, rfl⟩
      clear hS
      go_wp2_with fail
      refine hS2.out.mono ?_
      rintro e w5 ⟨rfl, rfl⟩
      clear hS2
      go_wp2_with fail
      go_ret
      exact ⟨rfl, hBw2⟩

set_option maxHeartbeats 400000 in
set_option maxRecDepth 100000 in
theorem walk_many (a0 : Option Addr) (len0 cap0 : Nat) (a1 : Option Addr) (len1 cap1 : Nat) (w : World) (h : 3000 < len0 ∨ 50 < len1) :
    Calls Try.prog 4 #[.slice a0 len0 cap0, .slice a1 len1 cap1] w fun e w' => e = .returned (.bool true) ∧ Below w.heap.size w w' := by
  by_cases g0 : 3000 < len0
  · clear h
    go_enter Try.func4, Try.ntmps4
    go_wp2_with fail
    refine (awake_any _).mono ?_
    rintro e w1 ⟨rfl, hB1⟩
    go_wp2_with fail
    go_ret
    exact ⟨rfl, hB1⟩
  · have g1 : 50 < len1 := by omega
    clear h
    go_enter Try.func4, Try.ntmps4
    go_wp2_with fail
    refine (awake_any _).mono ?_
    rintro e w1 ⟨rfl, hB1⟩
    go_wp2_with fail
    go_ret
    exact ⟨rfl, hB1⟩

theorem walk (a0 : Option Addr) (len0 cap0 : Nat) (z0 : List Int) (a1 : Option Addr) (len1 cap1 : Nat) (z1 : List Int) (w : World) (w0 : IsRow .u8 w a0 len0 cap0 z0) (w1 : IsRow .u8 w a1 len1 cap1 z1) :
    Calls Try.prog 4 #[.slice a0 len0 cap0, .slice a1 len1 cap1] w fun e w' => e = .returned (.bool true) ∧ Below w.heap.size w w' := by
  obtain ⟨e0, v0⟩ := Byt.of_row w0
  obtain ⟨e1, v1⟩ := Byt.of_row w1
  clear w0 w1
  generalize z0.take len0 = xs at *
  generalize z1.take len1 = ys at *
  subst e0
  subst e1
  by_cases h : 3000 < xs.length ∨ 50 < ys.length
  · exact walk_many _ _ _ _ _ _ _ h
  · exact walk_few a0 cap0 xs a1 cap1 ys w v0 v1 (by omega) (by omega)

/-! ### THE ROW's STEP: WRITTEN OUT: LEAVE IT -/
set_option maxRecDepth 100000 in
theorem lifted (os : Os) (started : os.Started) (H : Type) (enc : TypeId × Value → H) :
    ReturnsInHanded {} Try.checked os 4 .any (Rows.crcCutsSpec.pre6 enc Try.prog Try.f4 Rows.crcCutsRow.domain false) (Rows.crcCutsSpec.post enc Try.prog Try.f4 false true false false) := by
  refine returnsInHanded_of_change (C := Try.checked) own started (by kernel_rfl) Try.func4
    (ChangeSpec.witness6 (enc := enc) (C := Try.checked) false ⟨#[], #[.slice none 0 0, .slice none 0 0], []⟩ 8 (by kernel_rfl) (by kernel_rfl) (by kernel_rfl) (by kernel_rfl)) ?_
  intro W base args ds gs before hval0 hW hcnd _
  have hval : ∀ (j : Nat) t v, Try.f4.params[j]? = some t → args[j]? = some v → Value.okWide Try.prog W .any base t v := hval0
  have hW' := hW
  obtain ⟨p, q, hA0, hV, rfl, hfz, hnd⟩ := hW
  have hA : DataW.TrodAll enc Try.prog W 0 (fun _ => true) true Try.f4.params.toList args.toList ds p := hA0
  rw [Try.params4] at hA hval
  obtain ⟨v0, vs0, d0, ds0, p0, q0, hargs, rfl, rfl, h0, r0⟩ := trodAll_cons hA
  obtain ⟨v1, vs1, d1, ds1, p1, q1, rfl, rfl, rfl, h1, r1⟩ := trodAll_cons r0
  obtain ⟨rfl, rfl, rfl⟩ := trodAll_nil r1
  obtain rfl : args = #[v0, v1] := by cases args; simp_all
  obtain ⟨rfl, rfl⟩ := trodVars_none hV
  obtain ⟨a0, len0, cap0, rfl⟩ := okWide_slice Try.underlying22 (hval 0 22 v0 rfl rfl)
  have k0 := h0
  have lt0 : ∀ x ∈ p0, x.block < W.heap.size := by obtain ⟨m, hm⟩ := k0; exact DataW.trod_lt m _ _ _ hm
  obtain ⟨z0, w0⟩ : ∃ zs, IsRow .u8 W a0 len0 cap0 zs := by
    obtain ⟨fuel, hf⟩ := h0
    rcases open_ints Try.underlying22 Try.underlying5 (by kernel_rfl) hf with ⟨hcs, _⟩ | ⟨x, l, c, zs, hcs, _, hl, hm, hz, _, hcell, hwz⟩
    · simp [Value.cells] at hcs
      obtain ⟨rfl, rfl, rfl⟩ := hcs
      exact ⟨[], .inl ⟨rfl, rfl, rfl, rfl⟩⟩
    · simp [Value.cells] at hcs
      obtain ⟨rfl, rfl, rfl⟩ := hcs
      exact ⟨zs, .inr ⟨_, rfl, hl, hm, by simpa using hz, hcell, hwz⟩⟩
  obtain ⟨a1, len1, cap1, rfl⟩ := okWide_slice Try.underlying22 (hval 1 22 v1 rfl rfl)
  have k1 := h1
  have lt1 : ∀ x ∈ p1, x.block < W.heap.size := by obtain ⟨m, hm⟩ := k1; exact DataW.trod_lt m _ _ _ hm
  obtain ⟨z1, w1⟩ : ∃ zs, IsRow .u8 W a1 len1 cap1 zs := by
    obtain ⟨fuel, hf⟩ := h1
    rcases open_ints Try.underlying22 Try.underlying5 (by kernel_rfl) hf with ⟨hcs, _⟩ | ⟨x, l, c, zs, hcs, _, hl, hm, hz, _, hcell, hwz⟩
    · simp [Value.cells] at hcs
      obtain ⟨rfl, rfl, rfl⟩ := hcs
      exact ⟨[], .inl ⟨rfl, rfl, rfl, rfl⟩⟩
    · simp [Value.cells] at hcs
      obtain ⟨rfl, rfl, rfl⟩ := hcs
      exact ⟨zs, .inr ⟨_, rfl, hl, hm, by simpa using hz, hcell, hwz⟩⟩
  clear hA0 hval0
  refine (walk a0 len0 cap0 z0 a1 len1 cap1 z1 W w0 w1).mono fun e W' ⟨he, bel⟩ => ?_
  subst he
  exact ⟨_, rfl, _, _, _, [], _, [], hW', trodAll_mk1 (shut_bool Try.underlying4 _), (trodAll_cons_mk (Below.trod laidOut (by kernel_rfl) (of_decide_eq_true (by kernel_rfl)) k0 bel lt0) (trodAll_cons_mk (Below.trod laidOut (by kernel_rfl) (of_decide_eq_true (by kernel_rfl)) k1 bel lt1) trodAll_mk0)), rfl, bel.frame _, fun h => by cases h⟩

theorem over : Rows.crcCutsRow.holds Try.pinned (OpenSpec.ofChange Rows.crcCutsSpec) :=
  OpenClaim.holds_of_wide 4 Try.f4 rfl rfl rfl rfl rfl rfl rfl ⟨rfl, rfl, rfl, rfl, rfl⟩ rfl rfl rfl rfl rfl (by kernel_rfl) Try.func4 (by kernel_rfl)
    (of_decide_eq_true (by kernel_rfl)) (by unfold Func.isWrapper; first | (rw [if_pos (by decide +kernel)]; kernel_rfl) | (rw [if_neg (by decide +kernel)]; exact ⟨rfl, rfl⟩))
    (fun os started H enc _ => lifted os started H enc)

end Go.Proofs.Ythpajmpooekebaa.crcCuts
namespace Go.Proofs.Ythpajmpooekebaa
theorem crcCuts_holds : Rows.CrcCutsSaid := crcCuts.over
#print axioms crcCuts_holds
end Go.Proofs.Ythpajmpooekebaa
