/- The code's Ahead: rows of rows. -/
import Derived.Test.YtblcbccchlljhaaR3
namespace Go.Proofs.Ytblcbccchlljhaa
open Go.RowKit Ir Wy

def upV {α : Type} (V : Nat → α) (x : Nat) (v : α) : Nat → α := fun b => if b = x then v else V b
theorem upV_same {α : Type} (V : Nat → α) (x : Nat) (v : α) : upV V x v x = v := if_pos rfl
theorem upV_ne {α : Type} (V : Nat → α) {x b : Nat} (v : α) (h : b ≠ x) : upV V x v b = V b := if_neg h
/-- n rows of numbers, each in a block of its own. -/
structure RowsO (B g n : Nat) (w : World) (V : Nat → Value) (R : Nat → List Int) : Prop where
  cell : ∃ cs, w.heap[g]? = some (.cells cs 48 (0, 0)) ∧ cs.size = n ∧ ∀ b, b < n → cs[b]? = some (V b)
  row : ∀ b, b < n → ArgsO B w (V b) (R b)
  apart : ∀ a b, a < n → b < n → a ≠ b → ∀ k, (V a).ownBlock = some k → (V b).ownBlock ≠ some k
theorem heap_lt' {w : World} {g : Nat} {o : Obj} (h : w.heap[g]? = some o) : g < w.heap.size := (Array.getElem?_eq_some_iff.1 h).1
theorem RowsO.lt {B g n : Nat} {w : World} {V : Nat → Value} {R : Nat → List Int} (h : RowsO B g n w V R) : g < w.heap.size := by
  obtain ⟨cs, h1, _⟩ := h.cell
  exact heap_lt' h1
theorem RowsO.away {B g n : Nat} {w : World} {V : Nat → Value} {R : Nat → List Int} (h : RowsO B g n w V R) (b : Nat) (hb : b < n) : (V b).ownBlock ≠ some g := by
  intro e
  obtain ⟨_, _, cur, hc⟩ := (h.row b hb).block g e
  obtain ⟨cs, h1, _⟩ := h.cell
  rw [hc] at h1
  simp at h1
theorem RowsO.below {B g n : Nat} {w w1 : World} {V : Nat → Value} {R : Nat → List Int} (h : RowsO B g n w V R) (hB : Below w.heap.size w w1) : RowsO B g n w1 V R := by
  obtain ⟨cs, h1, h2⟩ := h.cell
  exact ⟨⟨cs, (hB.block _ (heap_lt' h1)).trans h1, h2⟩, fun b hb => (h.row b hb).below hB, h.apart⟩
theorem RowsO.at {B g n : Nat} {w : World} {V : Nat → Value} {R : Nat → List Int} (h : RowsO B g n w V R) (b : Nat) (hb : b < n) : w.cell? ⟨g, b, none⟩ = some (V b) ∧ w.frozen? ⟨g, b, none⟩ = false := by
  obtain ⟨cs, h1, _, h2⟩ := h.cell
  exact ⟨by rw [cell_of_row w g b cs 48 _ h1, h2 b hb], frozen_of_row _ _ _ _ _ h1⟩
/-- A number more in row x: appended, stored. -/
theorem RowsO.snoc {B g n : Nat} {w w1 : World} {V : Nat → Value} {R : Nat → List Int} {x : Nat} {v' : Value} {L' : List Int} (h : RowsO B g n w V R) (hx : x < n) (hg : w.grownBy w1 (V x).ownBlock) (ho : ArgsO B w1 v' L') (how : ∀ k, v'.ownBlock = some k → (V x).ownBlock = some k ∨ w.heap.size ≤ k) :
    RowsO B g n (w1.setCell ⟨g, x, none⟩ v') (upV V x v') (upV R x L') := by
  obtain ⟨cs, h1, h2, h3⟩ := h.cell
  have hg1 : w1.heap[g]? = some (.cells cs 48 (0, 0)) := (hg.block _ (heap_lt' h1) (fun e => h.away x hx e.symm)).trans h1
  have oth : ∀ k, k ≠ g → (w1.setCell ⟨g, x, none⟩ v').heap[k]? = w1.heap[k]? := fun k hk => Below.heap_setCell _ _ _ _ hk
  have hvg : v'.ownBlock ≠ some g := by
    intro e
    rcases how g e with q | q
    · exact h.away x hx q
    · have := h.lt; omega
  refine ⟨⟨cs.setIfInBounds x v', ?_, by simp [h2], fun b hb => ?_⟩, fun b hb => ?_, fun a b ha hb hab k hk => ?_⟩
  · rw [heap_setCell_same w1 g x _ _ v' hg1]
  · by_cases e : b = x
    · subst e
      rw [upV_same]
      simp [h2, hb]
    · rw [upV_ne _ _ e, Array.getElem?_setIfInBounds_ne (fun e1 => e e1.symm), h3 b hb]
  · by_cases e : b = x
    · subst e
      rw [upV_same, upV_same]
      exact ho.stays fun k hk => oth k (fun e1 => hvg (by rw [hk, e1]))
    · rw [upV_ne _ _ e, upV_ne _ _ e]
      have hb1 : ArgsO B w1 (V b) (R b) := (h.row b hb).stays fun k hk => hg.block k ((h.row b hb).lt k hk).2 (fun e1 => h.apart x b hx hb (fun q => e q.symm) k e1.symm hk)
      exact hb1.stays fun k hk => oth k (fun e1 => h.away b hb (by rw [hk, e1]))
  · by_cases ea : a = x
    · subst ea
      rw [upV_same] at hk
      rw [upV_ne _ _ (fun q => hab q.symm)]
      intro e1
      rcases how k hk with q | q
      · exact h.apart a b ha hb hab k q e1
      · have := ((h.row b hb).lt k e1).2; omega
    · rw [upV_ne _ _ ea] at hk
      by_cases eb : b = x
      · subst eb
        rw [upV_same]
        intro e1
        rcases how k e1 with q | q
        · exact h.apart a b ha hb hab k hk q
        · have := ((h.row a ha).lt k hk).2; omega
      · rw [upV_ne _ _ eb]
        exact h.apart a b ha hb hab k hk
/-- What is read of such rows. -/
def RowAt (w : World) (b off : Nat) (xs : List Int) : Prop := ∃ u, w.cell? ⟨b, off, none⟩ = some u ∧ IntsV w u xs
def RowsV (w : World) (v : Value) (rs : List (List Int)) : Prop := SlV 1 RowAt [] w v rs
theorem RowsV.below {w w' : World} {v : Value} {rs : List (List Int)} (h : RowsV w v rs) (hB : Below w.heap.size w w') : RowsV w' v rs := SlV.mono h fun _ _ _ ⟨u, h1, h2⟩ => ⟨u, cell_below hB h1, h2.below hB⟩
theorem RowsV.slice {w : World} {v : Value} {rs : List (List Int)} (h : RowsV w v rs) : ∃ ao cap, v = .slice ao rs.length cap := SlV.slice h
theorem RowsV.at {w : World} {ao : Option Addr} {n c : Nat} {rs : List (List Int)} (h : RowsV w (.slice ao n c) rs) (j : Nat) (hj : j < rs.length) : ∃ b off u, ao = some ⟨b, off, none⟩ ∧ w.cell? ⟨b, off + j, none⟩ = some u ∧ IntsV w u (rs.getD j []) := by
  obtain ⟨b, off, e, u, h1, h2⟩ := SlV.at h j hj
  rw [Nat.mul_one] at h1
  exact ⟨b, off, u, e, h1, h2⟩
theorem RowsO.v {B g n : Nat} {w : World} {V : Nat → Value} {R : Nat → List Int} (h : RowsO B g n w V R) (hn : n ≤ maxLen) : RowsV w (.slice (some ⟨g, 0, none⟩) n n) ((List.range n).map R) := by
  refine ⟨some ⟨g, 0, none⟩, n, by simp, by simp, hn, fun e => by simp at e, fun _ => ⟨g, 0, rfl, fun j hj => ?_⟩⟩
  simp only [List.length_map, List.length_range] at hj
  refine ⟨V j, ?_, ?_⟩
  · rw [Nat.zero_add, Nat.mul_one]
    exact (h.at j hj).1
  · have : ((List.range n).map R).getD j [] = R j := by simp [hj]
    rw [this]
    exact (h.row j hj).v
theorem info40 : (Try.prog.info? 48).map (fun i => (i.zero, i.size, i.bytes)) = some (some (.slice none 0 0), 1, 24) := by kernel_rfl
theorem rows_made {w : World} {B g n : Nat} {xs : List Value} (h : w.ownsRow g 48 1 (.slice (some ⟨g, 0, none⟩) n n) n xs) (hx : ∀ i, i < n → xs[i]? = some (.slice none 0 0)) : RowsO B g n w (fun _ => .slice none 0 0) (fun _ => []) := by
  rcases h.2 with ⟨e, _⟩ | ⟨g', cap, cur, e, _, hg, hn, _, hs, ht⟩
  · cases e
  · simp only [Value.slice.injEq, Option.some.injEq, Addr.mk.injEq, and_true, true_and] at e
    obtain ⟨rfl, rfl⟩ := e
    refine ⟨⟨cur, hg, by omega, fun i hi => ?_⟩, fun b _ => ArgsO.nil _ _, fun a b _ _ _ k hk => by simp [Value.ownBlock] at hk⟩
    have : (cur.toList.take (n * 1))[i]? = some (.slice none 0 0) := by rw [ht]; exact hx i hi
    rw [List.getElem?_take] at this
    rw [if_pos (by omega)] at this
    simpa using this
end Go.Proofs.Ytblcbccchlljhaa
