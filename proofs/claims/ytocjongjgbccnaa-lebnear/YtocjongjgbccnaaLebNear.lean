/- Proved: for every two numbers of 64 bits that may be below 0 the law LebNear returns true and leaves its arguments as they were: a number below 0 has as many bytes as the one as far above, less one; unlike numbers have unlike bytes; no conditions. -/
import Derived.Test.YtocjongjgbccnaaRows
import Derived.WalkKit
import Derived.ProofKit
import Derived.OpenShut
import Derived.ShutString
import Derived.ChangeOld
import Derived.Below
import Derived.Test.YtocjongjgbccnaaAwake
namespace Go.Proofs.Ytocjongjgbccnaa.lebNear
open Go.ChangeShapes Go.WideShapes Go.ChangeAt Go.RowKit
open Go.ChangeMaps (open_string shut_string)
set_option linter.unusedVariables false      -- a walk need not use every 'w<i>' (that an integer argument fits its kind)

theorem own : ownKnob Try.prog.godebug = none := by kernel_rfl


set_option maxHeartbeats 400000 in
set_option maxRecDepth 100000 in
theorem walk (a0 : Int) (a1 : Int) (w0 : (Lit.int .i64 a0).wf = true) (w1 : (Lit.int .i64 a1).wf = true) (w : World) :
    Calls Try.prog 8 #[.int .i64 a0, .int .i64 a1] w fun e w' => e = .returned (.bool true) ∧ Below w.heap.size w w' := by
  have b0 := bounds_i64 w0
  have b1 := bounds_i64 w1
  have P0 := fun w => putInt_any (.slice none 0 0) [] a0 w (Byt.nil w) (by simp) b0.1 b0.2
  have P1 := fun w => putInt_any (.slice none 0 0) [] a1 w (Byt.nil w) (by simp) b1.1 b1.2
  have P2 := fun w => putInt_any (.slice none 0 0) [] (-1 - a0) w (Byt.nil w) (by simp) (by omega) (by omega)
  simp only [List.nil_append] at P0 P1 P2
  have el := Leb.zig_not a0
  have y0 := Leb.enc_byte (Leb.zig a0)
  have y1 := Leb.enc_byte (Leb.zig a1)
  have inj : Leb.enc (Leb.zig a0) = Leb.enc (Leb.zig a1) ↔ a0 = a1 := ⟨fun h => Leb.zig_inj _ _ (Leb.enc_inj _ _ h), fun h => by rw [h]⟩
  have not0 := i64_not_any a0 b0.1 b0.2
  generalize Leb.enc (Leb.zig a0) = X0 at *
  generalize Leb.enc (Leb.zig a1) = X1 at *
  generalize Leb.enc (Leb.zig (-1 - a0)) = X2 at *
  have el' : ((X0.length : Int) == (X2.length : Int)) = true := by simp; omega
  have H0 := hide P0
  have H1 := hide P1
  have H2 := hide P2
  have N0 := hide not0
  have Y0 := hide y0
  have Y1 := hide y1
  have INJ := hide inj
  clear P0 P1 P2 el b0 b1 w0 w1 not0 y0 y1 inj
  go_enter Try.func8, Try.ntmps8
  go_wp2_with fail
  refine (awake_any _).mono ?_
  rintro e w1 ⟨rfl, hB1⟩
  go_wp2_with fail
  refine (H0.out w1).mono ?_
  rintro e w2 ⟨v2, rfl, h2, hB2⟩
  have hB2' := bel_of hB1 hB2
  clear hB2 hB1
  go_wp2_with fail
  refine (H1.out w2).mono ?_
  rintro e w3 ⟨v3, rfl, h3, hB3⟩
  have h2' := h2.below hB3
  have hB3' := bel_of hB2' hB3
  clear hB3 hB2' h2
  obtain ⟨a2, c2, rfl⟩ := h2'.slice
  go_wp2_with fail
  rw [N0.out]
  refine (H2.out w3).mono ?_
  rintro e w4 ⟨v4, rfl, h4, hB4⟩
  obtain ⟨a4, c4, rfl⟩ := h4.slice
  have k2 := str_conv (h2'.below hB4)
  have k3 := str_conv (h3.below hB4)
  have hB4' := bel_of hB3' hB4
  clear h2' h3 h4 hB4 hB3' H0 H1 H2 N0
  go_wp2_with fail
  go_ret
  refine ⟨ret_bool ?_, hB4'⟩
  rw [str_beq Y0.out Y1.out]
  by_cases hh : a0 = a1
  · simp [hh, INJ.out.2 hh]
  · have hx : ¬ X0 = X1 := fun h => hh (INJ.out.1 h)
    simp [hh, hx]

/-! ### THE ROW's STEP: WRITTEN OUT: LEAVE IT -/
set_option maxRecDepth 100000 in
theorem lifted (os : Os) (started : os.Started) (H : Type) (enc : TypeId × Value → H) :
    ReturnsInHanded {} Try.checked os 8 .any (Rows.lebNearSpec.pre6 enc Try.prog Try.f8 Rows.lebNearRow.domain false) (Rows.lebNearSpec.post enc Try.prog Try.f8 false true false false) := by
  refine returnsInHanded_of_change (C := Try.checked) own started (by kernel_rfl) Try.func8
    (ChangeSpec.witness6 (enc := enc) (C := Try.checked) false ⟨#[], #[.int .i64 0, .int .i64 0], []⟩ 8 (by kernel_rfl) (by kernel_rfl) (by kernel_rfl) (by kernel_rfl)) ?_
  intro W base args ds gs before hval0 hW hcnd _
  have hval : ∀ (j : Nat) t v, Try.f8.params[j]? = some t → args[j]? = some v → Value.okWide Try.prog W .any base t v := hval0
  have hW' := hW
  obtain ⟨p, q, hA0, hV, rfl, hfz, hnd⟩ := hW
  have hA : DataW.TrodAll enc Try.prog W 0 (fun _ => true) true Try.f8.params.toList args.toList ds p := hA0
  rw [Try.params8] at hA hval
  obtain ⟨v0, vs0, d0, ds0, p0, q0, hargs, rfl, rfl, h0, r0⟩ := trodAll_cons hA
  obtain ⟨v1, vs1, d1, ds1, p1, q1, rfl, rfl, rfl, h1, r1⟩ := trodAll_cons r0
  obtain ⟨rfl, rfl, rfl⟩ := trodAll_nil r1
  obtain rfl : args = #[v0, v1] := by cases args; simp_all
  obtain ⟨rfl, rfl⟩ := trodVars_none hV
  obtain ⟨a0, rfl, rfl, rfl, w0⟩ := open_int Try.underlying2 (hval 0 2 v0 rfl rfl) h0
  obtain ⟨a1, rfl, rfl, rfl, w1⟩ := open_int Try.underlying2 (hval 1 2 v1 rfl rfl) h1
  clear hA0 hval0
  refine (walk a0 a1 w0 w1 W).mono fun e W' ⟨he, bel⟩ => ?_
  subst he
  exact ⟨_, rfl, _, _, _, [], _, [], hW', trodAll_mk1 (shut_bool Try.underlying4 _), (trodAll_cons_mk (shut_int Try.underlying2 w0) (trodAll_cons_mk (shut_int Try.underlying2 w1) trodAll_mk0)), rfl, bel.frame _, fun h => by cases h⟩

theorem over : Rows.lebNearRow.holds Try.pinned (OpenSpec.ofChange Rows.lebNearSpec) :=
  OpenClaim.holds_of_wide 8 Try.f8 rfl rfl rfl rfl rfl rfl rfl ⟨rfl, rfl, rfl, rfl, rfl⟩ rfl rfl rfl rfl rfl (by kernel_rfl) Try.func8 (by kernel_rfl)
    (of_decide_eq_true (by kernel_rfl)) (by unfold Func.isWrapper; first | (rw [if_pos (by decide +kernel)]; kernel_rfl) | (rw [if_neg (by decide +kernel)]; exact ⟨rfl, rfl⟩))
    (fun os started H enc _ => lifted os started H enc)

end Go.Proofs.Ytocjongjgbccnaa.lebNear
namespace Go.Proofs.Ytocjongjgbccnaa
theorem lebNear_holds : Rows.LebNearSaid := lebNear.over
#print axioms lebNear_holds
end Go.Proofs.Ytocjongjgbccnaa
