/- BagSets: a case of the switch. -/
import Derived.Test.YtdeebmpmfedjbaaDoorSt
import Derived.BigRegion
import Derived.Deep.Cut
import Derived.Deep.CutBlock
import Derived.Deep.DeepCutAuto
namespace Go.Proofs.YtdeebmpmfedjbaaDoor
open Go Go.RowKit Bag
set_option linter.unusedVariables false
theorem hB_8 {B gs : Nat} {w : World} {f : Nat → Bool} (h : B ≤ gs) (q : SetAt w gs f) : B ≤ w.heap.size := Nat.le_trans h (Nat.le_of_lt q.lt)
set_option maxHeartbeats 16000000 in
set_option maxRecDepth 100000 in
theorem sw_8 : SwOk (fun k => k = 8) := by
  intro Q a w w0 u0 u1 u2 u19 u20 u21 u22 u23 u24 u25 gs gm go gw B f g y k b8 b9 hk H hA hgo
  obtain ⟨ρ, rfl⟩ := hA.lit
  clear hA
  obtain ⟨q1, q2, q3, q4, q5, hb8, hb9, lo, l1, l2, l3, ne⟩ := H
  have Q1 := hide q1
  have Q2 := hide q2
  have Q3 := hide q3
  have Q4 := hide q4
  have Q5 := hide q5
  have HB8 := hide hb8
  have HB9 := hide hb9
  have HL : Hid (B ≤ gs ∧ gs < gm ∧ gm < go ∧ gm < gw ∧ go ≠ gw) := hide ⟨lo, l1, l2, l3, ne⟩
  have HGO := hide hgo
  clear q1 q2 q3 q4 q5 hb8 hb9 lo l1 l2 l3 ne hgo
  subst hk
  unfold swc
  simp only [P0]
  go_wp2_with (first | (refine wpList_load_set rfl (.tmp 10) rfl go rfl g Q3.out ?_; intro cs hcs) | (go_at_call 15; refine (meet_any gs _ f g _ Q1.out hcs.out).mono ?_; rintro e w2 ⟨rfl, hs2, hg2⟩; have HS2 := hide hs2; have HG2 := hide hg2; clear hs2 hg2))
  have M2 := hide (Q2.out.kept HG2.out (by have := HL.out; simp; omega))
  have O2 := hide (Q3.out.kept HG2.out (by have := HL.out; simp; omega))
  have W2 := hide (Q4.out.kept HG2.out (by have := HL.out; simp; omega))
  have B2 := hide (bel_gb Q5.out HG2.out (hB_8 HL.out.1 Q1.out) (fun k hk => by cases hk; exact HL.out.1))
  have HNE := hide (show some gw ≠ some gm by have := HL.out; simp; omega)
  clear Q1 Q2 Q3 Q4 Q5 hcs HG2
  go_loopw [16, 157] (fun _ iv wr => ∃ i : Nat, i ≤ 4096 ∧ iv = .int .i64 i ∧ Hid (ModAt wr gm (upto i (fun y => f y && g y) f)) ∧ Hid (w2.grownBy wr (some gm))) (fun _ iv _ => 4096 - (intOf iv).toNat)
  case atStart => exact ⟨0, by omega, rfl, hide (M2.out.congr fun x _ => by simp [upto]), hide (gb_refl _ _)⟩
  case round =>
    rename World => wq
    obtain ⟨i, hi, rfl, HM, HG⟩ := hrel
    by_cases hlt : i < 4096
    · obtain ⟨c1, cf⟩ := HM.out.cell i hlt
      rw [upto_no _ _ (by omega)] at c1
      obtain ⟨c2, _⟩ := (W2.out.kept HG.out HNE.out).cell i hlt
      have c1d : wq.drew.cell? ⟨gm, i, none⟩ = some (.bool (f i)) := c1
      have c2d : wq.drew.cell? ⟨gw, i, none⟩ = some (.bool (g i)) := c2
      have cfd : wq.drew.frozen? ⟨gm, i, none⟩ = false := cf
      have hlt' : (i : Int) < 4096 := by omega
      obtain ⟨fi, hfi⟩ : ∃ b, f i = b := ⟨_, rfl⟩
      obtain ⟨gi, hgi⟩ : ∃ b, g i = b := ⟨_, rfl⟩
      rw [hfi] at c1 c1d
      rw [hgi] at c2 c2d
      have HF := hide hfi
      have HGI := hide hgi
      clear hfi hgi
      cases fi
      case true =>
        go_upto_region 43 with fail
        refine r43_t gm gw i gi rfl rfl rfl rfl hlt c1d cfd c2d (fun s => ?_)
        simp [overlay, dstsOf, ops_r43_t]
        go_wp2_with fail
        go_roundw
        case rel =>
          refine ⟨i + 1, by omega, by go_num, hide ((HM.out.set i _).congr fun x hx => ?_), hide (gb_drew' (HG.out.trans (gb_set _ _ _ _)))⟩
          by_cases hxi : x = i
          · subst hxi
            simp [upto, HF.out, HGI.out]
          · rw [if_neg hxi]
            exact upto_step _ _ (by omega)
        case measure => simp [intOf]; omega
      case false =>
        go_upto_region 43 with fail
        refine r43_f gm gw i gi rfl rfl rfl rfl hlt c1d cfd c2d (fun s => ?_)
        simp [overlay, dstsOf, ops_r43_f]
        go_wp2_with fail
        go_roundw
        case rel =>
          refine ⟨i + 1, by omega, by go_num, hide ((HM.out.set i _).congr fun x hx => ?_), hide (gb_drew' (HG.out.trans (gb_set _ _ _ _)))⟩
          by_cases hxi : x = i
          · subst hxi
            simp [upto, HF.out, HGI.out]
          · rw [if_neg hxi]
            exact upto_step _ _ (by omega)
        case measure => simp [intOf]; omega
    · obtain rfl : i = 4096 := by omega
      go_wp2_with fail
      exact HGO.out _ _ _ _ _ ⟨rfl, rfl, rfl, rfl, rfl, rfl, rfl, rfl, rfl, rfl, rfl, rfl, rfl, rfl, rfl, rfl, rfl, rfl, rfl, rfl, rfl, rfl⟩ ⟨(fun y => f y && g y), HS2.out.kept HG.out (by have := HL.out; simp; omega), HM.out.congr (fun x hx => upto_yes _ _ hx), O2.out.kept HG.out (by have := HL.out; simp; omega), W2.out.kept HG.out HNE.out, bel_gb B2.out HG.out (hB_8 HL.out.1 HS2.out) (fun k hk => by cases hk; exact Nat.le_trans HL.out.1 (Nat.le_of_lt HL.out.2.1))⟩
end Go.Proofs.YtdeebmpmfedjbaaDoor
