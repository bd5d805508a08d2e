/- Proved: for all bytes the law LebOne returns true and leaves its argument as it was: whatever bytes are a number, they are the one way to put it; no conditions. -/
import Derived.Test.YtocjongjgbccnaaRows
import Derived.WalkKit
import Derived.ProofKit
import Derived.OpenShut
import Derived.ShutString
import Derived.ChangeOld
import Derived.Below
import Derived.Test.YtocjongjgbccnaaAwake
import Derived.Deep.RegionWith
namespace Go.Proofs.Ytocjongjgbccnaa.lebOne
open Go.ChangeShapes Go.WideShapes Go.ChangeAt Go.RowKit
open Go.ChangeMaps (open_string shut_string)
set_option linter.unusedVariables false

theorem own : ownKnob Try.prog.godebug = none := by kernel_rfl
theorem laidOut : laidOutB Try.prog = true := by kernel_rfl

theorem one_math {xs : List Int} (hx : ∀ x ∈ xs, 0 ≤ x ∧ x < 256) (hc : Leb.ended (Leb.numL xs 0) (Leb.numC xs 0) = 0) : Leb.Fits (Leb.numA xs 0) ∧ Leb.enc (Leb.numA xs 0) = xs := by
  have e1 : Leb.numA xs 0 = (Leb.num 0 0 xs).1 := rfl
  have e2 : Leb.numL xs 0 = xs.drop (Leb.num 0 0 xs).2.1 := rfl
  have e3 : Leb.numC xs 0 = (Leb.num 0 0 xs).2.2 := rfl
  have hcode : (Leb.num 0 0 xs).2.2 = 0 := by
    rcases Decidable.em ((Leb.num 0 0 xs).2.2 = 0) with h | h
    · exact h
    · unfold Leb.ended at hc
      rw [e3, Leb.failed_ne h] at hc
      split at hc <;> exact hc
  have hl : (xs.drop (Leb.num 0 0 xs).2.1).length = 0 := by
    rcases Nat.eq_zero_or_pos (xs.drop (Leb.num 0 0 xs).2.1).length with h | h
    · exact h
    · unfold Leb.ended at hc
      rw [e2, if_pos h, e3, hcode] at hc
      simp [Leb.failed] at hc
  have hs := Leb.num_size xs 0 0 hcode
  simp at hl
  obtain ⟨k, h1, h2, _⟩ := Leb.num_enc xs 0 0 hx hcode
  refine ⟨Leb.num_fits xs 0 0 hx (by omega) (by simp), ?_⟩
  simp at h1
  rw [e1, h1, h2]
  exact List.take_of_length_le (by omega)

set_option maxHeartbeats 400000 in
set_option maxRecDepth 100000 in
theorem walk (a0 : Option Addr) (len0 cap0 : Nat) (z0 : List Int) (w : World) (w0 : IsRow .u8 w a0 len0 cap0 z0) :
    Calls Try.prog 6 #[.slice a0 len0 cap0] w fun e w' => e = .returned (.bool true) ∧ Below w.heap.size w w' := by
  obtain ⟨hlen, hv⟩ := Byt.of_row w0
  clear w0
  generalize z0.take len0 = xs at *
  subst hlen
  by_cases h30 : 30 < xs.length
  · clear hv
    go_enter Try.func6, Try.ntmps6
    go_wp2_with fail
    refine (awake_any _).mono ?_
    rintro e w1 ⟨rfl, hB1⟩
    go_wp2_with fail
    go_ret
    exact ⟨rfl, hB1⟩
  · have hx : Hid (∀ x ∈ xs, 0 ≤ x ∧ x < 256) := by obtain ⟨_, h, _⟩ := hv; exact h
    go_enter Try.func6, Try.ntmps6
    go_wp2_with fail
    refine (awake_any _).mono ?_
    rintro e w1 ⟨rfl, hB1⟩
    go_wp2_with fail
    refine (new_any _ xs _ (hv.below hB1) (by omega)).mono ?_
    rintro e w2 ⟨p, b, rfl, hp, hb, hb1, hR, hB2⟩
    have hpw : w.heap.size ≤ p := by have := hB1.size; omega
    have hB2' := bel_of hB1 hB2
    clear hB1 hB2 hb hb1
    go_wp2_with fail
    refine (num_any p b _ _ _ hR).mono ?_
    rintro e w3 ⟨rfl, hR3, hG3⟩
    have hB3 : Below w.heap.size w w3 := hB2'.grown hG3 hB2'.size (fun k hk => by simp at hk; omega)
    clear hR hB2' hG3
    go_wp2_with fail
    refine (end_any p b _ _ _ hR3).mono ?_
    rintro e w4 ⟨rfl, hR4, hG4⟩
    have hB4 : Below w.heap.size w w4 := hB3.grown hG4 hB3.size (fun k hk => by simp at hk; omega)
    have hm := one_math hx.out
    generalize Leb.ended (Leb.numL xs 0) (Leb.numC xs 0) = cc at *
    generalize Leb.numA xs 0 = n at *
    clear hB3 hG4 hR4 hR3
    by_cases hc : cc = 0
    · obtain ⟨hf, he⟩ := hm hc
      have HE := hide he
      subst hc
      clear hm he
      have kb := str_conv (hv.below hB4).drew
      have P1 := fun w => put_any (.slice none 0 0) [] n w (Byt.nil w) (by simp) hf
      simp only [List.nil_append] at P1
      have H1 := hide P1
      clear P1
      have hB4d := hB4.drew
      go_wp2_with fail
      go_region_with (go_at_call 10; refine (H1.out _).mono ?_; rintro e w5 ⟨v5, rfl, h5, hB5⟩; have kb5 := str_conv ((hv.below hB4d).below hB5); have k5 := str_conv h5; have hB5' := bel_of hB4d hB5; clear hB5)
      all_goals
        go_wp2
        go_ret
        refine ⟨ret_bool ?_, by assumption⟩
        rw [str_beq (Leb.enc_byte _) hx.out, HE.out]
        simp
    · have hcb : (cc == 0) = false := by simp [hc]
      clear hm hv
      go_wp2_with fail
      go_ret
      exact ⟨rfl, hB4⟩

/-! ### THE ROW's STEP: WRITTEN OUT: LEAVE IT -/
set_option maxRecDepth 100000 in
theorem lifted (os : Os) (started : os.Started) (H : Type) (enc : TypeId × Value → H) :
    ReturnsInHanded {} Try.checked os 6 .any (Rows.lebOneSpec.pre6 enc Try.prog Try.f6 Rows.lebOneRow.domain false) (Rows.lebOneSpec.post enc Try.prog Try.f6 false true false false) := by
  refine returnsInHanded_of_change (C := Try.checked) own started (by kernel_rfl) Try.func6
    (ChangeSpec.witness6 (enc := enc) (C := Try.checked) false ⟨#[], #[.slice none 0 0], []⟩ 8 (by kernel_rfl) (by kernel_rfl) (by kernel_rfl) (by kernel_rfl)) ?_
  intro W base args ds gs before hval0 hW hcnd _
  have hval : ∀ (j : Nat) t v, Try.f6.params[j]? = some t → args[j]? = some v → Value.okWide Try.prog W .any base t v := hval0
  have hW' := hW
  obtain ⟨p, q, hA0, hV, rfl, hfz, hnd⟩ := hW
  have hA : DataW.TrodAll enc Try.prog W 0 (fun _ => true) true Try.f6.params.toList args.toList ds p := hA0
  rw [Try.params6] at hA hval
  obtain ⟨v0, vs0, d0, ds0, p0, q0, hargs, rfl, rfl, h0, r0⟩ := trodAll_cons hA
  obtain ⟨rfl, rfl, rfl⟩ := trodAll_nil r0
  obtain rfl : args = #[v0] := by cases args; simp_all
  obtain ⟨rfl, rfl⟩ := trodVars_none hV
  obtain ⟨a0, len0, cap0, rfl⟩ := okWide_slice Try.underlying22 (hval 0 22 v0 rfl rfl)
  have k0 := h0
  have lt0 : ∀ x ∈ p0, x.block < W.heap.size := by obtain ⟨m, hm⟩ := k0; exact DataW.trod_lt m _ _ _ hm
  obtain ⟨z0, w0⟩ : ∃ zs, IsRow .u8 W a0 len0 cap0 zs := by
    obtain ⟨fuel, hf⟩ := h0
    rcases open_ints Try.underlying22 Try.underlying5 (by kernel_rfl) hf with ⟨hcs, _⟩ | ⟨x, l, c, zs, hcs, _, hl, hm, hz, _, hcell, hwz⟩
    · simp [Value.cells] at hcs
      obtain ⟨rfl, rfl, rfl⟩ := hcs
      exact ⟨[], .inl ⟨rfl, rfl, rfl, rfl⟩⟩
    · simp [Value.cells] at hcs
      obtain ⟨rfl, rfl, rfl⟩ := hcs
      exact ⟨zs, .inr ⟨_, rfl, hl, hm, by simpa using hz, hcell, hwz⟩⟩
  clear hA0 hval0
  refine (walk a0 len0 cap0 z0 W w0).mono fun e W' ⟨he, bel⟩ => ?_
  subst he
  exact ⟨_, rfl, _, _, _, [], _, [], hW', trodAll_mk1 (shut_bool Try.underlying4 _), (trodAll_cons_mk (Below.trod laidOut (by kernel_rfl) (of_decide_eq_true (by kernel_rfl)) k0 bel lt0) trodAll_mk0), rfl, bel.frame _, fun h => by cases h⟩

theorem over : Rows.lebOneRow.holds Try.pinned (OpenSpec.ofChange Rows.lebOneSpec) :=
  OpenClaim.holds_of_wide 6 Try.f6 rfl rfl rfl rfl rfl rfl rfl ⟨rfl, rfl, rfl, rfl, rfl⟩ rfl rfl rfl rfl rfl (by kernel_rfl) Try.func6 (by kernel_rfl)
    (of_decide_eq_true (by kernel_rfl)) (by unfold Func.isWrapper; first | (rw [if_pos (by decide +kernel)]; kernel_rfl) | (rw [if_neg (by decide +kernel)]; exact ⟨rfl, rfl⟩))
    (fun os started H enc _ => lifted os started H enc)

end Go.Proofs.Ytocjongjgbccnaa.lebOne
namespace Go.Proofs.Ytocjongjgbccnaa
theorem lebOne_holds : Rows.LebOneSaid := lebOne.over
#print axioms lebOne_holds
end Go.Proofs.Ytocjongjgbccnaa
