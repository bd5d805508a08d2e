/- What a row of instructions holds, with the value of each one's arguments. -/
import Derived.Test.YtljnngblhfhhaaaMade1
import Derived.Test.YtljnngblhfhhaaaInts
namespace Go.Proofs.Ytljnngblhfhhaaa
open Go.RowKit Ir
theorem each_val {P : Nat → Value → Prop} : ∀ n : Nat, (∀ j, j < n → ∃ u, P j u) → ∃ us : List Value, us.length = n ∧ ∀ j (h : j < us.length), P j us[j]
  | 0, _ => ⟨[], rfl, fun j h => by simp at h⟩
  | n + 1, h => by
    obtain ⟨us, h1, h2⟩ := each_val n fun j hj => h j (by omega)
    obtain ⟨u, hu⟩ := h n (by omega)
    refine ⟨us ++ [u], by simp [h1], fun j hj => ?_⟩
    simp only [List.length_append, List.length_cons, List.length_nil] at hj
    by_cases hjn : j < us.length
    · rw [List.getElem_append_left hjn]
      exact h2 j hjn
    · obtain rfl : j = us.length := by omega
      simp only [List.getElem_append_right (Nat.le_refl _), Nat.sub_self, List.getElem_cons_zero]
      rw [h1]
      exact hu
/-- What a row of instructions holds, with the value of each one's arguments. -/
theorem InssV.pairs {w : World} {ad : Addr} {n c : Nat} {is : List Ins} (h : InssV w (.slice (some ad) n c) is) : ∃ ps : List (Ins × Value), ps.map (·.1) = is ∧ (∀ k u, (cellsI ps)[k]? = some u → w.cell? (ad.add k) = some u) ∧ ∀ p ∈ ps, IntsV w p.2 p.1.args := by
  obtain ⟨us, h1, h2⟩ := each_val (P := fun j u => InsCells w ad.block (ad.off + j * 7) (is.getD j Ins.zero) u ∧ IntsV w u (is.getD j Ins.zero).args ∧ ad.spot = none) is.length (fun j hj => by
    obtain ⟨b, off, e, u, hc, hi⟩ := SlV.at h j hj
    simp only [Option.some.injEq] at e
    subst e
    exact ⟨u, hc, hi, rfl⟩)
  refine ⟨is.zip us, List.map_fst_zip (by omega), fun k u hk => ?_, fun p hp => ?_⟩
  · have hkl : k < (cellsI (is.zip us)).length := by
      rcases Nat.lt_or_ge k (cellsI (is.zip us)).length with h | h
      · exact h
      · rw [List.getElem?_eq_none h] at hk
        cases hk
    rw [cellsI_len] at hkl
    have hz : (is.zip us).length = is.length := by simp [h1]
    obtain ⟨j, r, hkj, hr⟩ : ∃ j r, k = j * 7 + r ∧ r < 7 := ⟨k / 7, k % 7, by omega, by omega⟩
    have hj : j < is.length := by omega
    have hju : j < us.length := by omega
    have hp : (is.zip us)[j]? = some (is[j], us[j]) := by rw [List.getElem?_eq_getElem (by omega), List.getElem_zip]
    obtain ⟨⟨c0, c1, c2, c3, c4, c5, c6⟩, _, hs⟩ := h2 j hju
    have hd : is.getD j Ins.zero = is[j] := by simp [hj]
    rw [hd] at c0 c1 c2 c3 c4 c5
    obtain ⟨g0, g1, g2, g3, g4, g5, g6⟩ := cellsI_get _ j _ hp
    obtain ⟨blk, off, sub⟩ := ad
    simp only at hs c0 c1 c2 c3 c4 c5 c6
    subst hs
    rw [Addr.add_lit]
    subst hkj
    rcases (by omega : r = 0 ∨ r = 1 ∨ r = 2 ∨ r = 3 ∨ r = 4 ∨ r = 5 ∨ r = 6) with rfl | rfl | rfl | rfl | rfl | rfl | rfl
    · rw [Nat.add_zero, g0] at hk
      cases hk
      exact c0
    · rw [g1] at hk
      cases hk
      exact c1
    · rw [g2] at hk
      cases hk
      exact c2
    · rw [g3] at hk
      cases hk
      exact c3
    · rw [g4] at hk
      cases hk
      exact c4
    · rw [g5] at hk
      cases hk
      exact c5
    · rw [g6] at hk
      cases hk
      exact c6
  · obtain ⟨j, hj, he⟩ := List.mem_iff_getElem.1 hp
    have hji : j < is.length := by simp at hj; omega
    have hju : j < us.length := by simp at hj; omega
    rw [List.getElem_zip] at he
    subst he
    have := (h2 j hju).2.1
    rw [show is.getD j Ins.zero = is[j] by simp [hji]] at this
    exact this
theorem cellsI_one {ps : List (Ins × Value)} (h : ∀ p ∈ ps, ∃ a n c, p.2 = .slice a n c) : ∀ u ∈ cellsI ps, u.oneCell' = true := by
  intro u hu
  unfold cellsI at hu
  obtain ⟨p, hp, hu⟩ := List.mem_flatMap.1 hu
  obtain ⟨a, n, c, e⟩ := h p hp
  simp only [List.mem_cons, List.not_mem_nil, or_false, e] at hu
  rcases hu with rfl | rfl | rfl | rfl | rfl | rfl | rfl <;> rfl
end Go.Proofs.Ytljnngblhfhhaaa
