/- Proved: for every two numbers of 64 bits the law LebSize returns true and leaves its arguments as they were: a greater number has no fewer bytes, none has more than ten; no conditions. -/
import Derived.Test.YtocjongjgbccnaaRows
import Derived.WalkKit
import Derived.ProofKit
import Derived.OpenShut
import Derived.ShutString
import Derived.ChangeOld
import Derived.Below
import Derived.Test.YtocjongjgbccnaaAwake
namespace Go.Proofs.Ytocjongjgbccnaa.lebSize
open Go.ChangeShapes Go.WideShapes Go.ChangeAt Go.RowKit
open Go.ChangeMaps (open_string shut_string)
set_option linter.unusedVariables false      -- a walk need not use every 'w<i>' (that an integer argument fits its kind)

theorem own : ownKnob Try.prog.godebug = none := by kernel_rfl

theorem nat_of_wf {a : Int} (h : (Lit.int .u64 a).wf = true) : ∃ n : Nat, a = (n : Int) ∧ Leb.Fits n := by
  have := bounds_u64 h
  exact ⟨a.toNat, by omega, by unfold Leb.Fits; omega⟩

set_option maxHeartbeats 400000 in
set_option maxRecDepth 100000 in
theorem walk_lt (m n : Nat) (hm : Leb.Fits m) (hn : Leb.Fits n) (hle : m < n) (w : World) :
    Calls Try.prog 7 #[.int .u64 m, .int .u64 n] w fun e w' => e = .returned (.bool true) ∧ Below w.heap.size w w' := by
  have l1 := Leb.enc_pos m
  have l2 := Leb.enc_mono n m (by omega)
  have l3 := hn.len
  have P1 := fun w => put_any (.slice none 0 0) [] m w (Byt.nil w) (by simp) hm
  have P2 := fun w => put_any (.slice none 0 0) [] n w (Byt.nil w) (by simp) hn
  simp only [List.nil_append] at P1 P2
  generalize hX : Leb.enc m = X at *
  generalize hY : Leb.enc n = Y at *
  have H1 := hide P1
  have H2 := hide P2
  clear P1 P2 hX hY
  go_enter Try.func7, Try.ntmps7
  go_wp2_with fail
  refine (awake_any _).mono ?_
  rintro e w1 ⟨rfl, hB1⟩
  go_wp2_with fail
  refine (H1.out w1).mono ?_
  rintro e w2 ⟨v2, rfl, h2, hB2⟩
  obtain ⟨a2, c2, rfl⟩ := h2.slice
  have hB2' := bel_of hB1 hB2
  clear h2 hB2 hB1
  go_wp2_with fail
  refine (H2.out w2).mono ?_
  rintro e w3 ⟨v3, rfl, h3, hB3⟩
  obtain ⟨a3, c3, rfl⟩ := h3.slice
  have hB3' := bel_of hB2' hB3
  clear h3 hB3 hB2'
  go_wp2_with fail
  go_ret
  exact ⟨ret_bool (by simp; omega), hB3'⟩

set_option maxHeartbeats 400000 in
set_option maxRecDepth 100000 in
theorem walk_gt (m n : Nat) (hm : Leb.Fits m) (hn : Leb.Fits n) (hle : n < m) (w : World) :
    Calls Try.prog 7 #[.int .u64 m, .int .u64 n] w fun e w' => e = .returned (.bool true) ∧ Below w.heap.size w w' := by
  have l1 := Leb.enc_pos n
  have l2 := Leb.enc_mono m n (by omega)
  have l3 := hm.len
  have P1 := fun w => put_any (.slice none 0 0) [] n w (Byt.nil w) (by simp) hn
  have P2 := fun w => put_any (.slice none 0 0) [] m w (Byt.nil w) (by simp) hm
  simp only [List.nil_append] at P1 P2
  generalize hX : Leb.enc n = X at *
  generalize hY : Leb.enc m = Y at *
  have H1 := hide P1
  have H2 := hide P2
  clear P1 P2 hX hY
  go_enter Try.func7, Try.ntmps7
  go_wp2_with fail
  refine (awake_any _).mono ?_
  rintro e w1 ⟨rfl, hB1⟩
  go_wp2_with fail
  refine (H1.out w1).mono ?_
  rintro e w2 ⟨v2, rfl, h2, hB2⟩
  obtain ⟨a2, c2, rfl⟩ := h2.slice
  have hB2' := bel_of hB1 hB2
  clear h2 hB2 hB1
  go_wp2_with fail
  refine (H2.out w2).mono ?_
  rintro e w3 ⟨v3, rfl, h3, hB3⟩
  obtain ⟨a3, c3, rfl⟩ := h3.slice
  have hB3' := bel_of hB2' hB3
  clear h3 hB3 hB2'
  go_wp2_with fail
  go_ret
  exact ⟨ret_bool (by simp; omega), hB3'⟩

set_option maxHeartbeats 400000 in
set_option maxRecDepth 100000 in
theorem walk_eq (m : Nat) (hm : Leb.Fits m)  (w : World) :
    Calls Try.prog 7 #[.int .u64 m, .int .u64 m] w fun e w' => e = .returned (.bool true) ∧ Below w.heap.size w w' := by
  have l1 := Leb.enc_pos m
  have l2 := Leb.enc_mono m m (by omega)
  have l3 := hm.len
  have P1 := fun w => put_any (.slice none 0 0) [] m w (Byt.nil w) (by simp) hm
  have P2 := fun w => put_any (.slice none 0 0) [] m w (Byt.nil w) (by simp) hm
  simp only [List.nil_append] at P1 P2
  generalize hX : Leb.enc m = X at *
  have H1 := hide P1
  have H2 := hide P2
  clear P1 P2 hX l2
  go_enter Try.func7, Try.ntmps7
  go_wp2_with fail
  refine (awake_any _).mono ?_
  rintro e w1 ⟨rfl, hB1⟩
  go_wp2_with fail
  refine (H1.out w1).mono ?_
  rintro e w2 ⟨v2, rfl, h2, hB2⟩
  obtain ⟨a2, c2, rfl⟩ := h2.slice
  have hB2' := bel_of hB1 hB2
  clear h2 hB2 hB1
  go_wp2_with fail
  refine (H2.out w2).mono ?_
  rintro e w3 ⟨v3, rfl, h3, hB3⟩
  obtain ⟨a3, c3, rfl⟩ := h3.slice
  have hB3' := bel_of hB2' hB3
  clear h3 hB3 hB2'
  go_wp2_with fail
  go_ret
  exact ⟨ret_bool (by simp; omega), hB3'⟩

theorem walk (a0 : Int) (a1 : Int) (w0 : (Lit.int .u64 a0).wf = true) (w1 : (Lit.int .u64 a1).wf = true) (w : World) :
    Calls Try.prog 7 #[.int .u64 a0, .int .u64 a1] w fun e w' => e = .returned (.bool true) ∧ Below w.heap.size w w' := by
  obtain ⟨m, rfl, hm⟩ := nat_of_wf w0
  obtain ⟨n, rfl, hn⟩ := nat_of_wf w1
  rcases Nat.lt_trichotomy m n with h | h | h
  · exact walk_lt m n hm hn h w
  · subst h; exact walk_eq m hm w
  · exact walk_gt m n hm hn h w

/-! ### THE ROW's STEP: WRITTEN OUT: LEAVE IT -/
set_option maxRecDepth 100000 in
theorem lifted (os : Os) (started : os.Started) (H : Type) (enc : TypeId × Value → H) :
    ReturnsInHanded {} Try.checked os 7 .any (Rows.lebSizeSpec.pre6 enc Try.prog Try.f7 Rows.lebSizeRow.domain false) (Rows.lebSizeSpec.post enc Try.prog Try.f7 false true false false) := by
  refine returnsInHanded_of_change (C := Try.checked) own started (by kernel_rfl) Try.func7
    (ChangeSpec.witness6 (enc := enc) (C := Try.checked) false ⟨#[], #[.int .u64 0, .int .u64 0], []⟩ 8 (by kernel_rfl) (by kernel_rfl) (by kernel_rfl) (by kernel_rfl)) ?_
  intro W base args ds gs before hval0 hW hcnd _
  have hval : ∀ (j : Nat) t v, Try.f7.params[j]? = some t → args[j]? = some v → Value.okWide Try.prog W .any base t v := hval0
  have hW' := hW
  obtain ⟨p, q, hA0, hV, rfl, hfz, hnd⟩ := hW
  have hA : DataW.TrodAll enc Try.prog W 0 (fun _ => true) true Try.f7.params.toList args.toList ds p := hA0
  rw [Try.params7] at hA hval
  obtain ⟨v0, vs0, d0, ds0, p0, q0, hargs, rfl, rfl, h0, r0⟩ := trodAll_cons hA
  obtain ⟨v1, vs1, d1, ds1, p1, q1, rfl, rfl, rfl, h1, r1⟩ := trodAll_cons r0
  obtain ⟨rfl, rfl, rfl⟩ := trodAll_nil r1
  obtain rfl : args = #[v0, v1] := by cases args; simp_all
  obtain ⟨rfl, rfl⟩ := trodVars_none hV
  obtain ⟨a0, rfl, rfl, rfl, w0⟩ := open_int Try.underlying23 (hval 0 23 v0 rfl rfl) h0
  obtain ⟨a1, rfl, rfl, rfl, w1⟩ := open_int Try.underlying23 (hval 1 23 v1 rfl rfl) h1
  clear hA0 hval0
  refine (walk a0 a1 w0 w1 W).mono fun e W' ⟨he, bel⟩ => ?_
  subst he
  exact ⟨_, rfl, _, _, _, [], _, [], hW', trodAll_mk1 (shut_bool Try.underlying4 _), (trodAll_cons_mk (shut_int Try.underlying23 w0) (trodAll_cons_mk (shut_int Try.underlying23 w1) trodAll_mk0)), rfl, bel.frame _, fun h => by cases h⟩

theorem over : Rows.lebSizeRow.holds Try.pinned (OpenSpec.ofChange Rows.lebSizeSpec) :=
  OpenClaim.holds_of_wide 7 Try.f7 rfl rfl rfl rfl rfl rfl rfl ⟨rfl, rfl, rfl, rfl, rfl⟩ rfl rfl rfl rfl rfl (by kernel_rfl) Try.func7 (by kernel_rfl)
    (of_decide_eq_true (by kernel_rfl)) (by unfold Func.isWrapper; first | (rw [if_pos (by decide +kernel)]; kernel_rfl) | (rw [if_neg (by decide +kernel)]; exact ⟨rfl, rfl⟩))
    (fun os started H enc _ => lifted os started H enc)

end Go.Proofs.Ytocjongjgbccnaa.lebSize
namespace Go.Proofs.Ytocjongjgbccnaa
theorem lebSize_holds : Rows.LebSizeSaid := lebSize.over
#print axioms lebSize_holds
end Go.Proofs.Ytocjongjgbccnaa
