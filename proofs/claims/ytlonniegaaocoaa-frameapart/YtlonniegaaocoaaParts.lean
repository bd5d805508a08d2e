/- Parts that a call gathers itself: a row of slices, each of which leads to bytes. -/
import Derived.Test.YtlonniegaaocoaaMore
namespace Go.Proofs.Ytlonniegaaocoaa
open Go.RowKit

theorem info22 : (Try.prog.info? 22).map (fun i => (i.zero, i.size, i.bytes)) = some (some (.slice none 0 0), 1, 24) := by kernel_rfl

/-- Values that lead to bytes, one by one. -/
def Each (w : World) (vals : List Value) (ps : List (List Int)) : Prop :=
  vals.length = ps.length ∧ ∀ j, j < ps.length → ∃ u, vals[j]? = some u ∧ Byt w u (ps.getD j [])

theorem Each.nil (w : World) : Each w [] [] := ⟨rfl, fun j hj => by simp at hj⟩

theorem Each.below {w w' : World} {vals : List Value} {ps : List (List Int)} (h : Each w vals ps) (hb : Below w.heap.size w w') : Each w' vals ps :=
  ⟨h.1, fun j hj => by obtain ⟨u, h1, h2⟩ := h.2 j hj; exact ⟨u, h1, h2.below hb⟩⟩

theorem Each.snoc {w : World} {vals : List Value} {ps : List (List Int)} {u : Value} {xs : List Int} (h : Each w vals ps) (hu : Byt w u xs) : Each w (vals ++ [u]) (ps ++ [xs]) := by
  refine ⟨by simp [h.1], fun j hj => ?_⟩
  simp at hj
  by_cases hl : j < ps.length
  · obtain ⟨z, h1, h2⟩ := h.2 j hl
    refine ⟨z, ?_, ?_⟩
    · rw [List.getElem?_append_left (by rw [h.1]; exact hl)]; exact h1
    · rw [List.getD_eq_getElem?_getD, List.getElem?_append_left hl, ← List.getD_eq_getElem?_getD]; exact h2
  · obtain rfl : j = ps.length := by omega
    refine ⟨u, ?_, ?_⟩
    · rw [List.getElem?_append_right (by rw [h.1]; exact Nat.le_refl _), h.1]; simp
    · rw [List.getD_eq_getElem?_getD, List.getElem?_append_right (Nat.le_refl _)]; simpa using hu

theorem Parts.of_owns {w : World} {base : Nat} {v : Value} {n : Nat} {vals : List Value} {ps : List (List Int)} (h : w.ownsRow base 22 1 v n vals) (he : Each w vals ps) (hn : n = ps.length) (hs : n ≤ 1000000000) : Parts w v ps := by
  subst hn
  rcases h.2 with ⟨rfl, h0⟩ | ⟨g, cap, cur, rfl, _, hg, hnc, hcm, _, _⟩
  · have : ps = [] := List.eq_nil_of_length_eq_zero h0
    subst this
    exact Parts.nil w
  · refine ⟨_, cap, rfl, hs, fun _ => ⟨g, 0, rfl, fun j hj => ?_⟩⟩
    obtain ⟨u, h1, h2⟩ := he.2 j hj
    refine ⟨u, ?_, h2⟩
    have := h.cellAt j (by omega)
    rw [Nat.zero_add, this, h1]

/-- What a slice leads to, cut at its front. -/
theorem Byt.drop {w : World} {ao : Option Addr} {cap : Nat} {xs : List Int} (h : Byt w (.slice ao xs.length cap) xs) (k : Nat) (hk : k ≤ xs.length) (ao' : Option Addr)
    (hao : ∀ b off, ao = some ⟨b, off, none⟩ → k < xs.length → ao' = some ⟨b, off + k, none⟩) (hno : ao' = none → ao = none) : Byt w (.slice ao' (xs.length - k) (cap - k)) (xs.drop k) := by
  obtain ⟨b, h⟩ := h
  exact ⟨b, h.drop k hk ao' (fun off => hao b off) hno⟩

theorem Byt.oneCell {w : World} {v : Value} {xs : List Int} (h : Byt w v xs) : v.oneCell' = true := by
  obtain ⟨ao, cap, rfl⟩ := h.slice
  rfl
end Go.Proofs.Ytlonniegaaocoaa
