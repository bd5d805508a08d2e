/- ir's below, endFormed, Last, targets, Ends, and the document's Takes and End. -/
import Derived.Test.YtblcbccchlljhaaMem
import Derived.Test.YtblcbccchlljhaaAny
import Derived.BigQuiet
import Derived.Deep.QuietTactic
namespace Go.Proofs.Ytblcbccchlljhaa
open Go.RowKit Ir

theorem bel1 (w : World) (o : Obj) : Below w.heap.size w (w.alloc o) := (Below.refl _ _).alloc (Nat.le_refl _) o
theorem bel2 (w : World) (o o' : Obj) : Below w.heap.size w ((w.alloc o).alloc o') := (bel1 w o).alloc (by simp) o'
theorem ret_eq {c d : Bool} (h : c = d) : Ending.returned (.bool c) = .returned (.bool d) := by rw [h]

theorem takes_eq (k : Int) : takes k = (k == 2 || k == 3) := by
  unfold takes
  by_cases h : k = 2 <;> by_cases h' : k = 3 <;> simp [h, h']
theorem ints1 (w : World) (t : Int) : IntsV (w.alloc (.cells #[.int .i64 t] 3)) (.slice (some ⟨w.heap.size, 0, none⟩) 1 1) [t] := by
  refine ⟨_, 1, rfl, by simp, by simp [maxLen], by simp, fun _ => ⟨_, _, rfl, fun j hj => ?_⟩⟩
  show (w.alloc _).cell? _ = _
  rw [World.cell?_alloc_new]
  match j, hj with
  | 0, _ => rfl
theorem ints2 (w : World) (t l : Int) : IntsV (w.alloc (.cells #[.int .i64 t, .int .i64 l] 3)) (.slice (some ⟨w.heap.size, 0, none⟩) 2 2) [t, l] := by
  refine ⟨_, 2, rfl, by simp, by simp [maxLen], by simp, fun _ => ⟨_, _, rfl, fun j hj => ?_⟩⟩
  show (w.alloc _).cell? _ = _
  rw [World.cell?_alloc_new]
  match j, hj with
  | 0, _ => rfl
  | 1, _ => rfl
/-- A box of the call's own, in a later world. -/
theorem box_cell {w w1 : World} {cs : Array Value} {t : TypeId} (hB : Below (w.alloc (.cells cs t)).heap.size (w.alloc (.cells cs t)) w1) (j : Nat) {u : Value} (h : cs[j]? = some u) : w1.cell? ⟨w.heap.size, j, none⟩ = some u := by
  have h0 : (w.alloc (.cells cs t)).cell? ⟨w.heap.size, j, none⟩ = some u := by
    rw [World.cell?_alloc_new]
    exact h
  exact cell_below hB h0
theorem drop_getD {l : List Int} {i : Nat} (h : i < l.length) : l.drop i = l.getD i 0 :: l.drop (i + 1) := by
  rw [List.drop_eq_getElem_cons h]
  simp [List.getElem?_eq_getElem h]

theorem endF_k1 {a t l v nb : Int} : endF ⟨1, a, t, l⟩ v nb = if a = 0 ∧ l = 0 then (if 0 ≤ t ∧ t < nb then 0 else 22) else 20 := by
  simp only [endF, endFormed, takes, targets, inr]
  by_cases h : a = 0 ∧ l = 0 <;> by_cases h2 : 0 ≤ t ∧ t < nb <;> simp [h, h2]
theorem endF_k2 {a t l v nb : Int} : endF ⟨2, a, t, l⟩ v nb = if 0 ≤ a ∧ a < v then (if 0 ≤ t ∧ t < nb ∧ 0 ≤ l ∧ l < nb then 0 else 22) else 21 := by
  simp only [endF, endFormed, takes, targets, inr]
  by_cases h : 0 ≤ a ∧ a < v <;> by_cases h1 : 0 ≤ t <;> by_cases h2 : t < nb <;> by_cases h3 : 0 ≤ l <;> by_cases h4 : l < nb <;> simp [h, h1, h2, h3, h4] <;> omega
theorem endF_k3 {a t l v nb : Int} : endF ⟨3, a, t, l⟩ v nb = if t = 0 ∧ l = 0 then (if 0 ≤ a ∧ a < v then 0 else 21) else 20 := by
  simp only [endF, endFormed, takes, targets, inr]
  by_cases h : t = 0 ∧ l = 0 <;> by_cases h1 : 0 ≤ a <;> by_cases h2 : a < v <;> simp [h, h1, h2]
theorem endF_kx {k a t l v nb : Int} (h1 : k ≠ 1) (h2 : k ≠ 2) (h3 : k ≠ 3) : endF ⟨k, a, t, l⟩ v nb = 20 := by
  simp [endF, endFormed, h1, h2, h3]
end Go.Proofs.Ytblcbccchlljhaa
