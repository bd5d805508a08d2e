/- BagSets: a case of the switch. -/
import Derived.Test.YtdeebmpmfedjbaaDoorSx
import Derived.BigRegion
import Derived.Deep.Cut
import Derived.Deep.CutBlock
import Derived.Deep.DeepCutAuto
namespace Go.Proofs.YtdeebmpmfedjbaaDoor
open Go Go.RowKit Bag
set_option linter.unusedVariables false
theorem hB_of {B gs : Nat} {w : World} {f : Nat → Bool} (h : B ≤ gs) (q : SetAt w gs f) : B ≤ w.heap.size := Nat.le_trans h (Nat.le_of_lt q.lt)
set_option maxHeartbeats 16000000 in
set_option maxRecDepth 100000 in
theorem sw_4 : SwOk (fun k => k = 4) := by
  intro Q a w w0 u0 u1 u2 u19 u20 u21 u22 u23 u24 u25 gs gm go gw B f g y k b8 b9 hk H hA hgo
  obtain ⟨ρ, rfl⟩ := hA.lit
  clear hA
  obtain ⟨q1, q2, q3, q4, q5, hb8, hb9, lo, l1, l2, l3, ne⟩ := H
  have Q1 := hide q1
  have Q2 := hide q2
  have Q3 := hide q3
  have Q4 := hide q4
  have Q5 := hide q5
  have HB8 := hide hb8
  have HB9 := hide hb9
  have HL : Hid (B ≤ gs ∧ gs < gm ∧ gm < go ∧ gm < gw ∧ go ≠ gw) := hide ⟨lo, l1, l2, l3, ne⟩
  have HGO := hide hgo
  clear q1 q2 q3 q4 q5 hb8 hb9 lo l1 l2 l3 ne hgo
  subst hk
  have hb9 : (inS y && f y.toNat) = b9 := HB9.out
  have hbe : (b9 == b9) = true := beq_self_eq_true b9
  cases b9 with
  | false =>
    unfold swc
    simp only [P0]
    go_wp2_with (first | (go_at_call 12; refine (cut_any gs y f _ Q1.out).mono ?_; rintro e w2 ⟨rfl, hs2, hg2⟩; have HS2 := hide hs2; have HG2 := hide hg2; clear hs2 hg2; rw [hb9]))
    exact HGO.out _ _ _ _ _ ⟨rfl, rfl, rfl, rfl, rfl, rfl, rfl, rfl, rfl, rfl, rfl, rfl, rfl, rfl, rfl, rfl, rfl, rfl, rfl, rfl, rfl, rfl⟩ ⟨del f y, HS2.out, (Q2.out.kept HG2.out (by have := HL.out; simp; omega)).congr (fun x hx => by
      unfold del
      cases hy : inS y with
      | false => simp
      | true =>
        have h2 : f y.toNat = false := by rw [hy] at hb9; simpa using hb9
        by_cases hxy : x = y.toNat
        · subst hxy; simp [h2]
        · have : (x == y.toNat) = false := by simpa using hxy
          simp [this]), Q3.out.kept HG2.out (by have := HL.out; simp; omega), Q4.out.kept HG2.out (by have := HL.out; simp; omega), bel_gb Q5.out HG2.out (hB_of HL.out.1 Q1.out) (fun k hk => by cases hk; exact HL.out.1)⟩
  | true =>
    have hy := inS_dec (y := y) (by cases h : inS y with | true => rfl | false => rw [h] at hb9; simp at hb9)
    obtain ⟨n, rfl⟩ : ∃ n : Nat, y = (n : Int) := ⟨y.toNat, by omega⟩
    have hn : n < 4096 := by omega
    have hn2 : (n : Int) < 4096 := by omega
    unfold swc
    simp only [P0]
    go_upto_region 22 with (first | (go_at_call 12; refine (cut_any gs (n : Int) f _ Q1.out).mono ?_; rintro e w2 ⟨rfl, hs2, hg2⟩; have HS2 := hide hs2; have HG2 := hide hg2; clear hs2 hg2; rw [hb9]))
    have P2 := hide (Q2.out.kept HG2.out (by have := HL.out; simp; omega))
    obtain ⟨cm, cf⟩ := P2.out.cell n hn
    go_wp2_with fail
    exact HGO.out _ _ _ _ _ ⟨rfl, rfl, rfl, rfl, rfl, rfl, rfl, rfl, rfl, rfl, rfl, rfl, rfl, rfl, rfl, rfl, rfl, rfl, rfl, rfl, rfl, rfl⟩ ⟨del f (n : Int), HS2.out.kept (gb_set _ _ _ _) (by have := HL.out; simp; omega), (P2.out.set n false).congr (fun x hx => by
      unfold del
      rw [inS_nat hn]
      by_cases hxy : x = n
      · subst hxy; simp
      · have : (x == n) = false := by simpa using hxy
        simp [hxy, this]), (Q3.out.kept HG2.out (by have := HL.out; simp; omega)).kept (gb_set _ _ _ _) (by have := HL.out; simp; omega), (Q4.out.kept HG2.out (by have := HL.out; simp; omega)).kept (gb_set _ _ _ _) (by have := HL.out; simp; omega), bel_gb (bel_gb Q5.out HG2.out (hB_of HL.out.1 Q1.out) (fun k hk => by cases hk; exact HL.out.1)) (gb_set _ _ _ _) (hB_of HL.out.1 HS2.out) (fun k hk => by cases hk; exact Nat.le_trans HL.out.1 (Nat.le_of_lt HL.out.2.1))⟩
set_option maxHeartbeats 16000000 in
set_option maxRecDepth 100000 in
theorem sw_5 : SwOk (fun k => k = 5) := by
  intro Q a w w0 u0 u1 u2 u19 u20 u21 u22 u23 u24 u25 gs gm go gw B f g y k b8 b9 hk H hA hgo
  obtain ⟨ρ, rfl⟩ := hA.lit
  clear hA
  obtain ⟨q1, q2, q3, q4, q5, hb8, hb9, lo, l1, l2, l3, ne⟩ := H
  have Q1 := hide q1
  have Q2 := hide q2
  have Q3 := hide q3
  have Q4 := hide q4
  have Q5 := hide q5
  have HB8 := hide hb8
  have HB9 := hide hb9
  have HL : Hid (B ≤ gs ∧ gs < gm ∧ gm < go ∧ gm < gw ∧ go ≠ gw) := hide ⟨lo, l1, l2, l3, ne⟩
  have HGO := hide hgo
  clear q1 q2 q3 q4 q5 hb8 hb9 lo l1 l2 l3 ne hgo
  subst hk
  have hb9 : (inS y && f y.toNat) = b9 := HB9.out
  have hbe : (b9 == b9) = true := beq_self_eq_true b9
  cases b9 with
  | false =>
    unfold swc
    simp only [P0]
    go_wp2_with (first | (go_at_call 12; refine (cut_any gs y f _ Q1.out).mono ?_; rintro e w2 ⟨rfl, hs2, hg2⟩; have HS2 := hide hs2; have HG2 := hide hg2; clear hs2 hg2; rw [hb9]))
    exact HGO.out _ _ _ _ _ ⟨rfl, rfl, rfl, rfl, rfl, rfl, rfl, rfl, rfl, rfl, rfl, rfl, rfl, rfl, rfl, rfl, rfl, rfl, rfl, rfl, rfl, rfl⟩ ⟨del f y, HS2.out, (Q2.out.kept HG2.out (by have := HL.out; simp; omega)).congr (fun x hx => by
      unfold del
      cases hy : inS y with
      | false => simp
      | true =>
        have h2 : f y.toNat = false := by rw [hy] at hb9; simpa using hb9
        by_cases hxy : x = y.toNat
        · subst hxy; simp [h2]
        · have : (x == y.toNat) = false := by simpa using hxy
          simp [this]), Q3.out.kept HG2.out (by have := HL.out; simp; omega), Q4.out.kept HG2.out (by have := HL.out; simp; omega), bel_gb Q5.out HG2.out (hB_of HL.out.1 Q1.out) (fun k hk => by cases hk; exact HL.out.1)⟩
  | true =>
    have hy := inS_dec (y := y) (by cases h : inS y with | true => rfl | false => rw [h] at hb9; simp at hb9)
    obtain ⟨n, rfl⟩ : ∃ n : Nat, y = (n : Int) := ⟨y.toNat, by omega⟩
    have hn : n < 4096 := by omega
    have hn2 : (n : Int) < 4096 := by omega
    unfold swc
    simp only [P0]
    go_upto_region 22 with (first | (go_at_call 12; refine (cut_any gs (n : Int) f _ Q1.out).mono ?_; rintro e w2 ⟨rfl, hs2, hg2⟩; have HS2 := hide hs2; have HG2 := hide hg2; clear hs2 hg2; rw [hb9]))
    have P2 := hide (Q2.out.kept HG2.out (by have := HL.out; simp; omega))
    obtain ⟨cm, cf⟩ := P2.out.cell n hn
    go_wp2_with fail
    exact HGO.out _ _ _ _ _ ⟨rfl, rfl, rfl, rfl, rfl, rfl, rfl, rfl, rfl, rfl, rfl, rfl, rfl, rfl, rfl, rfl, rfl, rfl, rfl, rfl, rfl, rfl⟩ ⟨del f (n : Int), HS2.out.kept (gb_set _ _ _ _) (by have := HL.out; simp; omega), (P2.out.set n false).congr (fun x hx => by
      unfold del
      rw [inS_nat hn]
      by_cases hxy : x = n
      · subst hxy; simp
      · have : (x == n) = false := by simpa using hxy
        simp [hxy, this]), (Q3.out.kept HG2.out (by have := HL.out; simp; omega)).kept (gb_set _ _ _ _) (by have := HL.out; simp; omega), (Q4.out.kept HG2.out (by have := HL.out; simp; omega)).kept (gb_set _ _ _ _) (by have := HL.out; simp; omega), bel_gb (bel_gb Q5.out HG2.out (hB_of HL.out.1 Q1.out) (fun k hk => by cases hk; exact HL.out.1)) (gb_set _ _ _ _) (hB_of HL.out.1 HS2.out) (fun k hk => by cases hk; exact Nat.le_trans HL.out.1 (Nat.le_of_lt HL.out.2.1))⟩
end Go.Proofs.YtdeebmpmfedjbaaDoor
