/- BagSets: a case of the switch. -/
import Derived.Test.YtdeebmpmfedjbaaDoorSt
import Derived.BigRegion
import Derived.Deep.Cut
import Derived.Deep.CutBlock
import Derived.Deep.DeepCutAuto
namespace Go.Proofs.YtdeebmpmfedjbaaDoor
open Go Go.RowKit Bag
set_option linter.unusedVariables false
theorem hB_6 {B gs : Nat} {w : World} {f : Nat → Bool} (h : B ≤ gs) (q : SetAt w gs f) : B ≤ w.heap.size := Nat.le_trans h (Nat.le_of_lt q.lt)
theorem same_one (f h : Nat → Bool) (i : Nat) : same f h (i + 1) = (same f h i && (f i == h i)) := by simp [same, List.range_succ, List.all_append]
set_option maxHeartbeats 16000000 in
set_option maxRecDepth 100000 in
theorem sw_6 : SwOk (fun k => k = 6) := by
  intro Q a w w0 u0 u1 u2 u19 u20 u21 u22 u23 u24 u25 gs gm go gw B f g y k b8 b9 hk H hA hgo
  obtain ⟨ρ, rfl⟩ := hA.lit
  clear hA
  obtain ⟨q1, q2, q3, q4, q5, hb8, hb9, lo, l1, l2, l3, ne⟩ := H
  have Q1 := hide q1
  have Q2 := hide q2
  have Q3 := hide q3
  have Q4 := hide q4
  have Q5 := hide q5
  have HB8 := hide hb8
  have HB9 := hide hb9
  have HL : Hid (B ≤ gs ∧ gs < gm ∧ gm < go ∧ gm < gw ∧ go ≠ gw) := hide ⟨lo, l1, l2, l3, ne⟩
  have HGO := hide hgo
  clear q1 q2 q3 q4 q5 hb8 hb9 lo l1 l2 l3 ne hgo
  subst hk
  unfold swc
  simp only [P0]
  have HNE := hide (show some gw ≠ some gm by have := HL.out; simp; omega)
  go_wp2_with fail
  go_loopw [13, 14, 88] (fun mv _ iv wr => ∃ (i : Nat) (m : Bool), i ≤ 4096 ∧ mv = .bool m ∧ iv = .int .i64 i ∧ Hid (m = !same f (fun y => f y || g y) i) ∧ Hid (ModAt wr gm (upto i (fun y => f y || g y) f)) ∧ Hid (w.grownBy wr (some gm))) (fun _ _ iv _ => 4096 - (intOf iv).toNat)
  case atStart => exact ⟨0, false, by omega, rfl, rfl, hide rfl, hide (Q2.out.congr fun x _ => by simp [upto]), hide (gb_refl _ _)⟩
  case round =>
    rename World => wq
    obtain ⟨i, m, hi, rfl, rfl, HMO, HM, HG⟩ := hrel
    by_cases hlt : i < 4096
    · obtain ⟨c1, cf⟩ := HM.out.cell i hlt
      rw [upto_no _ _ (by omega)] at c1
      obtain ⟨c2, _⟩ := (Q4.out.kept HG.out HNE.out).cell i hlt
      have c1d : wq.drew.cell? ⟨gm, i, none⟩ = some (.bool (f i)) := c1
      have c2d : wq.drew.cell? ⟨gw, i, none⟩ = some (.bool (g i)) := c2
      have cfd : wq.drew.frozen? ⟨gm, i, none⟩ = false := cf
      have hlt' : (i : Int) < 4096 := by omega
      obtain ⟨fi, hfi⟩ : ∃ b, f i = b := ⟨_, rfl⟩
      obtain ⟨gi, hgi⟩ : ∃ b, g i = b := ⟨_, rfl⟩
      rw [hfi] at c1 c1d
      rw [hgi] at c2 c2d
      have HF := hide hfi
      have HGI := hide hgi
      clear hfi hgi
      cases fi
      case true =>
        cases gi <;> cases m
        all_goals
          go_upto_region 28 with fail
          refine r28_t gm gw i _ rfl rfl rfl rfl hlt c1d cfd c2d (fun s => ?_)
          simp [overlay, dstsOf, ops_r28_t]
          go_wp2_with fail
          go_roundw
          case rel =>
            refine ⟨i + 1, _, by omega, rfl, by go_num, hide (by rw [same_one, HF.out, HGI.out]; have := HMO.out; cases hs : same f (fun y => f y || g y) i <;> rw [hs] at this <;> simp at this <;> first | rfl | simp [this] | (simp at this ⊢)), hide ((HM.out.set i _).congr fun x hx => ?_), hide (gb_drew' (HG.out.trans (gb_set _ _ _ _)))⟩
            by_cases hxi : x = i
            · subst hxi
              simp [upto, HF.out, HGI.out]
            · rw [if_neg hxi]
              exact upto_step _ _ (by omega)
          case measure => simp [intOf]; omega

      case false =>
        cases gi <;> cases m
        all_goals
          go_upto_region 28 with fail
          refine r28_f gm gw i _ rfl rfl rfl rfl hlt c1d cfd c2d (fun s => ?_)
          simp [overlay, dstsOf, ops_r28_f]
          go_wp2_with fail
          go_roundw
          case rel =>
            refine ⟨i + 1, _, by omega, rfl, by go_num, hide (by rw [same_one, HF.out, HGI.out]; have := HMO.out; cases hs : same f (fun y => f y || g y) i <;> rw [hs] at this <;> simp at this <;> first | rfl | simp [this] | (simp at this ⊢)), hide ((HM.out.set i _).congr fun x hx => ?_), hide (gb_drew' (HG.out.trans (gb_set _ _ _ _)))⟩
            by_cases hxi : x = i
            · subst hxi
              simp [upto, HF.out, HGI.out]
            · rw [if_neg hxi]
              exact upto_step _ _ (by omega)
          case measure => simp [intOf]; omega

    · obtain rfl : i = 4096 := by omega
      have hbe : (m == m) = true := beq_self_eq_true m
      have P1 := hide (Q1.out.kept HG.out (by have := HL.out; simp; omega))
      have P3 := hide (Q3.out.kept HG.out (by have := HL.out; simp; omega))
      go_wp2_with (first | (refine wpList_load_set rfl (.tmp 10) rfl go rfl g P3.out ?_; intro cs hcs) | (go_at_call 13; refine (join_any gs _ f g _ P1.out hcs.out).mono ?_; rintro e w2 ⟨rfl, hs2, hg2⟩; have HS2 := hide hs2; have HG2 := hide hg2; clear hs2 hg2; rw [← HMO.out]))
      exact HGO.out _ _ _ _ _ ⟨rfl, rfl, rfl, rfl, rfl, rfl, rfl, rfl, rfl, rfl, rfl, rfl, rfl, rfl, rfl, rfl, rfl, rfl, rfl, rfl, rfl, rfl⟩ ⟨fun y => f y || g y, HS2.out, (HM.out.congr (fun x hx => upto_yes _ _ hx)).kept HG2.out (by have := HL.out; simp; omega), P3.out.kept HG2.out (by have := HL.out; simp; omega), (Q4.out.kept HG.out HNE.out).kept HG2.out (by have := HL.out; simp; omega), bel_gb (bel_gb Q5.out HG.out (hB_6 HL.out.1 Q1.out) (fun k hk => by cases hk; exact Nat.le_trans HL.out.1 (Nat.le_of_lt HL.out.2.1))) HG2.out (hB_6 HL.out.1 P1.out) (fun k hk => by cases hk; exact HL.out.1)⟩
end Go.Proofs.YtdeebmpmfedjbaaDoor
