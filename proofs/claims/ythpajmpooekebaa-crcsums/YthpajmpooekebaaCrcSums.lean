/- Proved: for all bytes the law CrcSums returns true and leaves its arguments as they were: the sum of parts is the document's sum of all of them, one behind the other; no conditions. -/
import Derived.Test.YthpajmpooekebaaRows
import Derived.WalkKit
import Derived.ProofKit
import Derived.OpenShut
import Derived.ShutString
import Derived.ChangeOld
import Derived.Below
import Derived.Test.YthpajmpooekebaaAwake
import Derived.Test.YthpajmpooekebaaRefSum
namespace Go.Proofs.Ythpajmpooekebaa.crcSums
open Go.ChangeShapes Go.WideShapes Go.ChangeAt Go.RowKit
open Go.ChangeMaps (open_string shut_string)
set_option linter.unusedVariables false

theorem own : ownKnob Try.prog.godebug = none := by kernel_rfl
theorem laidOut : laidOutB Try.prog = true := by kernel_rfl

set_option maxHeartbeats 400000 in
set_option maxRecDepth 100000 in
theorem walk_few (a0 : Option Addr) (cap0 : Nat) (xs : List Int) (a1 : Option Addr) (cap1 : Nat) (ys : List Int) (a2 : Option Addr) (cap2 : Nat) (zs : List Int) (w : World)
    (h0 : Byt w (.slice a0 xs.length cap0) xs) (h1 : Byt w (.slice a1 ys.length cap1) ys) (h2 : Byt w (.slice a2 zs.length cap2) zs) (hx : xs.length ≤ 3000) (hy : ys.length ≤ 3000) (hz : zs.length ≤ 3000) :
    Calls Try.prog 3 #[.slice a0 xs.length cap0, .slice a1 ys.length cap1, .slice a2 zs.length cap2] w fun e w' => e = .returned (.bool true) ∧ Below w.heap.size w w' := by
  have hb0 : Hid (∀ x ∈ xs ++ ys ++ zs, 0 ≤ x ∧ x < 256) := by
    obtain ⟨_, g0, _⟩ := h0
    obtain ⟨_, g1, _⟩ := h1
    obtain ⟨_, g2, _⟩ := h2
    intro x hx
    rcases List.mem_append.1 hx with h | h
    · rcases List.mem_append.1 h with h | h
      · exact g0 x h
      · exact g1 x h
    · exact g2 x h
  obtain ⟨i0, hi, hz0, hz1, hz2⟩ := info_parts info5
  go_enter Try.func3, Try.ntmps3
  go_wp2_with fail
  refine (awake_any _).mono ?_
  rintro e w1 ⟨rfl, hB1⟩
  have p0 := h0.below hB1
  have p1 := h1.below hB1
  have p2 := h2.below hB1
  clear h0 h1 h2
  have H1 := hide (sum_any _ _ _ (Parts.three p0 p1 p2))
  go_wp2_with fail
  refine H1.out.mono ?_
  rintro e w2 ⟨rfl, rfl⟩
  have hBL := (Below.refl w1.heap.size w1).alloc (Nat.le_refl _) (.cells #[.slice a0 xs.length cap0, .slice a1 ys.length cap1, .slice a2 zs.length cap2] 22)
  have hB2 := bel_of hB1 hBL
  have q0 := p0.below hBL
  have q1 := p1.below hBL
  have q2 := p2.below hBL
  have ef : [xs, ys, zs].flatten = xs ++ ys ++ zs := by simp
  rw [ef]
  generalize w1.alloc (.cells #[.slice a0 xs.length cap0, .slice a1 ys.length cap1, .slice a2 zs.length cap2] 22) = w2 at *
  clear H1 p0 p1 p2 hBL hB1 ef
  have hE := owns_empty w2 w2.heap.size (Nat.le_refl _)
  have hBE := (Below.refl w2.heap.size w2).alloc (Nat.le_refl _) (.cells #[] 5)
  go_wp2_with (at_builtin; go_must (refine wpList_append_byt _ rfl (.tmp 27) (.tmp 28) 22 rfl w2.heap.size i0 Try.underlying22 hi hz0 hz1 hz2 _ _ _ rfl hE _ xs rfl (q0.below hBE) (by omega) (by simp) ?_))
  intro v3 w3 hown3 hg3
  have hB3 : Below w2.heap.size w2 w3 := hBE.grown hg3 (by simp) (fun k hk => (hE.lt k hk).1)
  have hz3 : w2.heap.size < w3.heap.size := by have := hg3.size; simp at this; omega
  clear hE hBE hg3
  go_wp2_with (at_builtin; go_must (refine wpList_append_byt _ rfl (.tmp 29) (.tmp 30) 22 rfl w2.heap.size i0 Try.underlying22 hi hz0 hz1 hz2 _ xs.length (xs.map (Value.int .u8)) rfl hown3 _ ys rfl (q1.below hB3) (by omega) (by omega) ?_))
  intro v4 w4 hown4 hg4
  have hB4 : Below w2.heap.size w2 w4 := hB3.grown hg4 (by omega) (fun k hk => (hown3.lt k hk).1)
  have hz4 : w2.heap.size < w4.heap.size := by have := hg4.size; omega
  clear hown3 hB3 hz3 hg4
  go_wp2_with (at_builtin; go_must (refine wpList_append_byt _ rfl (.tmp 31) (.tmp 32) 22 rfl w2.heap.size i0 Try.underlying22 hi hz0 hz1 hz2 _ (xs.length + ys.length) (xs.map (Value.int .u8) ++ ys.map (Value.int .u8)) rfl hown4 _ zs rfl (q2.below hB4) (by omega) (by omega) ?_))
  intro v5 w5 hown5 hg5
  have hB5 : Below w2.heap.size w2 w5 := hB4.grown hg5 (by omega) (fun k hk => (hown4.lt k hk).1)
  have hR : Byt w5 v5 (xs ++ ys ++ zs) := Byt.of_owns (base := w2.heap.size) (n := xs.length + ys.length + zs.length) (by simpa using hown5) hb0.out
  have hBw := bel_of hB2 hB5
  clear hown4 hown5 hB4 hz4 hg5 hB5 hB2 q0 q1 q2 hi hz0 hz1 hz2
  go_wp2_with fail
  refine (refSum_any _ _ _ hR).mono ?_
  rintro e w6 ⟨rfl, rfl⟩
  go_wp2_with fail
  go_ret
  exact ⟨rfl, hBw⟩

set_option maxHeartbeats 400000 in
set_option maxRecDepth 100000 in
theorem walk_many (a0 : Option Addr) (len0 cap0 : Nat) (a1 : Option Addr) (len1 cap1 : Nat) (a2 : Option Addr) (len2 cap2 : Nat) (w : World) (h : 3000 < len0 ∨ 3000 < len1 ∨ 3000 < len2) :
    Calls Try.prog 3 #[.slice a0 len0 cap0, .slice a1 len1 cap1, .slice a2 len2 cap2] w fun e w' => e = .returned (.bool true) ∧ Below w.heap.size w w' := by
  by_cases g0 : 3000 < len0
  · clear h
    go_enter Try.func3, Try.ntmps3
    go_wp2_with fail
    refine (awake_any _).mono ?_
    rintro e w1 ⟨rfl, hB1⟩
    go_wp2_with fail
    go_ret
    exact ⟨rfl, hB1⟩
  · by_cases g1 : 3000 < len1
    · clear h
      go_enter Try.func3, Try.ntmps3
      go_wp2_with fail
      refine (awake_any _).mono ?_
      rintro e w1 ⟨rfl, hB1⟩
      go_wp2_with fail
      go_ret
      exact ⟨rfl, hB1⟩
    · have g2 : 3000 < len2 := by omega
      clear h
      go_enter Try.func3, Try.ntmps3
      go_wp2_with fail
      refine (awake_any _).mono ?_
      rintro e w1 ⟨rfl, hB1⟩
      go_wp2_with fail
      go_ret
      exact ⟨rfl, hB1⟩

theorem walk (a0 : Option Addr) (len0 cap0 : Nat) (z0 : List Int) (a1 : Option Addr) (len1 cap1 : Nat) (z1 : List Int) (a2 : Option Addr) (len2 cap2 : Nat) (z2 : List Int) (w : World) (w0 : IsRow .u8 w a0 len0 cap0 z0) (w1 : IsRow .u8 w a1 len1 cap1 z1) (w2 : IsRow .u8 w a2 len2 cap2 z2) :
    Calls Try.prog 3 #[.slice a0 len0 cap0, .slice a1 len1 cap1, .slice a2 len2 cap2] w fun e w' => e = .returned (.bool true) ∧ Below w.heap.size w w' := by
  obtain ⟨e0, v0⟩ := Byt.of_row w0
  obtain ⟨e1, v1⟩ := Byt.of_row w1
  obtain ⟨e2, v2⟩ := Byt.of_row w2
  clear w0 w1 w2
  generalize z0.take len0 = xs at *
  generalize z1.take len1 = ys at *
  generalize z2.take len2 = zs at *
  subst e0
  subst e1
  subst e2
  by_cases h : 3000 < xs.length ∨ 3000 < ys.length ∨ 3000 < zs.length
  · exact walk_many _ _ _ _ _ _ _ _ _ _ h
  · exact walk_few a0 cap0 xs a1 cap1 ys a2 cap2 zs w v0 v1 v2 (by omega) (by omega) (by omega)

/-! ### THE ROW's STEP: WRITTEN OUT: LEAVE IT -/
set_option maxRecDepth 100000 in
theorem lifted (os : Os) (started : os.Started) (H : Type) (enc : TypeId × Value → H) :
    ReturnsInHanded {} Try.checked os 3 .any (Rows.crcSumsSpec.pre6 enc Try.prog Try.f3 Rows.crcSumsRow.domain false) (Rows.crcSumsSpec.post enc Try.prog Try.f3 false true false false) := by
  refine returnsInHanded_of_change (C := Try.checked) own started (by kernel_rfl) Try.func3
    (ChangeSpec.witness6 (enc := enc) (C := Try.checked) false ⟨#[], #[.slice none 0 0, .slice none 0 0, .slice none 0 0], []⟩ 8 (by kernel_rfl) (by kernel_rfl) (by kernel_rfl) (by kernel_rfl)) ?_
  intro W base args ds gs before hval0 hW hcnd _
  have hval : ∀ (j : Nat) t v, Try.f3.params[j]? = some t → args[j]? = some v → Value.okWide Try.prog W .any base t v := hval0
  have hW' := hW
  obtain ⟨p, q, hA0, hV, rfl, hfz, hnd⟩ := hW
  have hA : DataW.TrodAll enc Try.prog W 0 (fun _ => true) true Try.f3.params.toList args.toList ds p := hA0
  rw [Try.params3] at hA hval
  obtain ⟨v0, vs0, d0, ds0, p0, q0, hargs, rfl, rfl, h0, r0⟩ := trodAll_cons hA
  obtain ⟨v1, vs1, d1, ds1, p1, q1, rfl, rfl, rfl, h1, r1⟩ := trodAll_cons r0
  obtain ⟨v2, vs2, d2, ds2, p2, q2, rfl, rfl, rfl, h2, r2⟩ := trodAll_cons r1
  obtain ⟨rfl, rfl, rfl⟩ := trodAll_nil r2
  obtain rfl : args = #[v0, v1, v2] := by cases args; simp_all
  obtain ⟨rfl, rfl⟩ := trodVars_none hV
  obtain ⟨a0, len0, cap0, rfl⟩ := okWide_slice Try.underlying22 (hval 0 22 v0 rfl rfl)
  have k0 := h0
  have lt0 : ∀ x ∈ p0, x.block < W.heap.size := by obtain ⟨m, hm⟩ := k0; exact DataW.trod_lt m _ _ _ hm
  obtain ⟨z0, w0⟩ : ∃ zs, IsRow .u8 W a0 len0 cap0 zs := by
    obtain ⟨fuel, hf⟩ := h0
    rcases open_ints Try.underlying22 Try.underlying5 (by kernel_rfl) hf with ⟨hcs, _⟩ | ⟨x, l, c, zs, hcs, _, hl, hm, hz, _, hcell, hwz⟩
    · simp [Value.cells] at hcs
      obtain ⟨rfl, rfl, rfl⟩ := hcs
      exact ⟨[], .inl ⟨rfl, rfl, rfl, rfl⟩⟩
    · simp [Value.cells] at hcs
      obtain ⟨rfl, rfl, rfl⟩ := hcs
      exact ⟨zs, .inr ⟨_, rfl, hl, hm, by simpa using hz, hcell, hwz⟩⟩
  obtain ⟨a1, len1, cap1, rfl⟩ := okWide_slice Try.underlying22 (hval 1 22 v1 rfl rfl)
  have k1 := h1
  have lt1 : ∀ x ∈ p1, x.block < W.heap.size := by obtain ⟨m, hm⟩ := k1; exact DataW.trod_lt m _ _ _ hm
  obtain ⟨z1, w1⟩ : ∃ zs, IsRow .u8 W a1 len1 cap1 zs := by
    obtain ⟨fuel, hf⟩ := h1
    rcases open_ints Try.underlying22 Try.underlying5 (by kernel_rfl) hf with ⟨hcs, _⟩ | ⟨x, l, c, zs, hcs, _, hl, hm, hz, _, hcell, hwz⟩
    · simp [Value.cells] at hcs
      obtain ⟨rfl, rfl, rfl⟩ := hcs
      exact ⟨[], .inl ⟨rfl, rfl, rfl, rfl⟩⟩
    · simp [Value.cells] at hcs
      obtain ⟨rfl, rfl, rfl⟩ := hcs
      exact ⟨zs, .inr ⟨_, rfl, hl, hm, by simpa using hz, hcell, hwz⟩⟩
  obtain ⟨a2, len2, cap2, rfl⟩ := okWide_slice Try.underlying22 (hval 2 22 v2 rfl rfl)
  have k2 := h2
  have lt2 : ∀ x ∈ p2, x.block < W.heap.size := by obtain ⟨m, hm⟩ := k2; exact DataW.trod_lt m _ _ _ hm
  obtain ⟨z2, w2⟩ : ∃ zs, IsRow .u8 W a2 len2 cap2 zs := by
    obtain ⟨fuel, hf⟩ := h2
    rcases open_ints Try.underlying22 Try.underlying5 (by kernel_rfl) hf with ⟨hcs, _⟩ | ⟨x, l, c, zs, hcs, _, hl, hm, hz, _, hcell, hwz⟩
    · simp [Value.cells] at hcs
      obtain ⟨rfl, rfl, rfl⟩ := hcs
      exact ⟨[], .inl ⟨rfl, rfl, rfl, rfl⟩⟩
    · simp [Value.cells] at hcs
      obtain ⟨rfl, rfl, rfl⟩ := hcs
      exact ⟨zs, .inr ⟨_, rfl, hl, hm, by simpa using hz, hcell, hwz⟩⟩
  clear hA0 hval0
  refine (walk a0 len0 cap0 z0 a1 len1 cap1 z1 a2 len2 cap2 z2 W w0 w1 w2).mono fun e W' ⟨he, bel⟩ => ?_
  subst he
  exact ⟨_, rfl, _, _, _, [], _, [], hW', trodAll_mk1 (shut_bool Try.underlying4 _), (trodAll_cons_mk (Below.trod laidOut (by kernel_rfl) (of_decide_eq_true (by kernel_rfl)) k0 bel lt0) (trodAll_cons_mk (Below.trod laidOut (by kernel_rfl) (of_decide_eq_true (by kernel_rfl)) k1 bel lt1) (trodAll_cons_mk (Below.trod laidOut (by kernel_rfl) (of_decide_eq_true (by kernel_rfl)) k2 bel lt2) trodAll_mk0))), rfl, bel.frame _, fun h => by cases h⟩

theorem over : Rows.crcSumsRow.holds Try.pinned (OpenSpec.ofChange Rows.crcSumsSpec) :=
  OpenClaim.holds_of_wide 3 Try.f3 rfl rfl rfl rfl rfl rfl rfl ⟨rfl, rfl, rfl, rfl, rfl⟩ rfl rfl rfl rfl rfl (by kernel_rfl) Try.func3 (by kernel_rfl)
    (of_decide_eq_true (by kernel_rfl)) (by unfold Func.isWrapper; first | (rw [if_pos (by decide +kernel)]; kernel_rfl) | (rw [if_neg (by decide +kernel)]; exact ⟨rfl, rfl⟩))
    (fun os started H enc _ => lifted os started H enc)

end Go.Proofs.Ythpajmpooekebaa.crcSums
namespace Go.Proofs.Ythpajmpooekebaa
theorem crcSums_holds : Rows.CrcSumsSaid := crcSums.over
#print axioms crcSums_holds
end Go.Proofs.Ythpajmpooekebaa
