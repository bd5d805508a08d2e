/- BagSets: a case of the switch. -/
import Derived.Test.YtdeebmpmfedjbaaDoorSx
import Derived.BigRegion
import Derived.Deep.Cut
import Derived.Deep.CutBlock
import Derived.Deep.DeepCutAuto
namespace Go.Proofs.YtdeebmpmfedjbaaDoor
open Go Go.RowKit Bag
set_option linter.unusedVariables false
theorem hB_9 {B gs : Nat} {w : World} {f : Nat → Bool} (h : B ≤ gs) (q : SetAt w gs f) : B ≤ w.heap.size := Nat.le_trans h (Nat.le_of_lt q.lt)
set_option maxHeartbeats 16000000 in
set_option maxRecDepth 100000 in
theorem sw_9 : SwOk (fun k => k = 9) := by
  intro Q a w w0 u0 u1 u2 u19 u20 u21 u22 u23 u24 u25 gs gm go gw B f g y k b8 b9 hk H hA hgo
  obtain ⟨ρ, rfl⟩ := hA.lit
  clear hA
  obtain ⟨q1, q2, q3, q4, q5, hb8, hb9, lo, l1, l2, l3, ne⟩ := H
  have Q1 := hide q1
  have Q2 := hide q2
  have Q3 := hide q3
  have Q4 := hide q4
  have Q5 := hide q5
  have HB8 := hide hb8
  have HB9 := hide hb9
  have HL : Hid (B ≤ gs ∧ gs < gm ∧ gm < go ∧ gm < gw ∧ go ≠ gw) := hide ⟨lo, l1, l2, l3, ne⟩
  have HGO := hide hgo
  clear q1 q2 q3 q4 q5 hb8 hb9 lo l1 l2 l3 ne hgo
  subst hk
  unfold swc
  simp only [P0]
  go_wp2_with (first | (refine wpList_load_set rfl (.tmp 3) rfl gs rfl f Q1.out ?_; intro cs hcs) | (go_at_call 16; refine (copy_any _ f _ hcs.out).mono ?_; rintro e w2 ⟨u, rfl, hu, hg2⟩; have HU := hide hu; have HG2 := hide hg2; clear hu hg2) | (refine wpList_var_set 17 rfl rfl rfl rfl (.tmp 180) rfl rfl (by simp) _ _ HU.out rfl ?_; intro gc w3 h3) | (go_at_call 17; refine (put_any gc 7 f _ h3.out.2.1).mono ?_; rintro e w4 ⟨rfl, hs4, hg4⟩; have HS4 := hide hs4; have HG4 := hide hg4; clear hs4 hg4) | (go_at_call 12; refine (cut_any gc y _ _ HS4.out).mono ?_; rintro e w5 ⟨rfl, hs5, hg5⟩; have HS5 := hide hs5; have HG5 := hide hg5; clear hs5 hg5))
  have G : w.grownBy w5 none := (HG2.out.trans h3.out.2.2).andThen (HG4.out.trans HG5.out) (fun j e => by cases e; exact .inl (by rw [h3.out.1]; exact HG2.out.size))
  exact HGO.out _ _ _ _ _ ⟨rfl, rfl, rfl, rfl, rfl, rfl, rfl, rfl, rfl, rfl, rfl, rfl, rfl, rfl, rfl, rfl, rfl, rfl, rfl, rfl, rfl, rfl⟩ ⟨f, Q1.out.kept G (by simp), Q2.out.kept G (by simp), Q3.out.kept G (by simp), Q4.out.kept G (by simp), Q5.out.trans ((gb_to G).mono (hB_9 HL.out.1 Q1.out))⟩
end Go.Proofs.YtdeebmpmfedjbaaDoor
