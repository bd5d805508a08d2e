/- The document's down and Order. -/
import Derived.Test.YtblcbccchlljhaaR1
import Derived.Deep.WholeRow
namespace Go.Proofs.Ytblcbccchlljhaa
open Go.RowKit Ir Wy

theorem wpStop {p : Prop} (h : Hid p) : p := h.out
/-- n marks at block b. -/
def BoolsAt (w : World) (b n : Nat) (f : Nat → Bool) : Prop := ∃ cs, w.heap[b]? = some (.cells cs 4 (0, 0)) ∧ cs.size = n ∧ ∀ i, i < n → cs[i]? = some (.bool (f i))
theorem BoolsAt.lt {w : World} {b n : Nat} {f : Nat → Bool} (h : BoolsAt w b n f) : b < w.heap.size := by
  obtain ⟨cs, h1, _⟩ := h
  exact (Array.getElem?_eq_some_iff.1 h1).1
theorem BoolsAt.stays {w w' : World} {b n : Nat} {f : Nat → Bool} (h : BoolsAt w b n f) (e : w'.heap[b]? = w.heap[b]?) : BoolsAt w' b n f := by
  obtain ⟨cs, h1, h2⟩ := h
  exact ⟨cs, e.trans h1, h2⟩
theorem BoolsAt.below {w w' : World} {b n : Nat} {f : Nat → Bool} (h : BoolsAt w b n f) (hB : Below w.heap.size w w') : BoolsAt w' b n f := h.stays (hB.block b h.lt)
theorem BoolsAt.cell {w : World} {b n : Nat} {f : Nat → Bool} (h : BoolsAt w b n f) (i : Nat) (hi : i < n) : w.cell? ⟨b, i, none⟩ = some (.bool (f i)) ∧ w.frozen? ⟨b, i, none⟩ = false := by
  obtain ⟨cs, h1, _, h2⟩ := h
  exact ⟨by rw [cell_of_row w b i cs 4 _ h1, h2 i hi], by simp [World.frozen?, h1]⟩
theorem BoolsAt.congr {w : World} {b n : Nat} {f g : Nat → Bool} (h : BoolsAt w b n f) (e : ∀ x, x < n → f x = g x) : BoolsAt w b n g := by
  obtain ⟨cs, h1, h2, h3⟩ := h
  exact ⟨cs, h1, h2, fun i hi => by rw [← e i hi]; exact h3 i hi⟩
theorem BoolsAt.set {w : World} {b n : Nat} {f : Nat → Bool} (h : BoolsAt w b n f) (i : Nat) (hi : i < n) : BoolsAt (w.setCell ⟨b, i, none⟩ (.bool true)) b n (mk f i) := by
  obtain ⟨cs, h1, h2, h3⟩ := h
  refine ⟨cs.setIfInBounds i (.bool true), ?_, ?_, ?_⟩
  · simp [World.setCell, Array.getElem?_modify, h1]
  · simp [h2]
  · intro j hj
    by_cases e : i = j
    · subst e
      simp [h2, hi, mk]
    · rw [Array.getElem?_setIfInBounds_ne e, h3 j hj]
      have : (j == i) = false := by simp; omega
      simp [mk, this]
/-- The row lies beside the marks. -/
theorem row_marks {B : Nat} {w : World} {v : Value} {xs : List Int} {sb n : Nat} {f : Nat → Bool} (h : ArgsO B w v xs) (hs : BoolsAt w sb n f) : v.ownBlock ≠ some sb := by
  intro e
  obtain ⟨_, _, cur, h1⟩ := h.block sb e
  obtain ⟨cs, h2, _⟩ := hs
  rw [h1] at h2
  cases h2
theorem set_grown (w : World) (b i : Nat) (v : Value) : w.grownBy (w.setCell ⟨b, i, none⟩ v) (some b) :=
  ⟨rfl, rfl, rfl, by simp [World.setCell], fun k _ h => Below.heap_setCell _ _ _ _ (fun e => h (by rw [e]))⟩
abbrev ci (l : List Nat) : List Int := l.map fun a : Nat => (a : Int)
theorem drop_at {l : List Nat} {j : Nat} (h : j < l.length) : l.drop j = l.getD j 0 :: l.drop (j + 1) := by rw [List.drop_eq_getElem_cons h, getD_get _ _ _ h]

/-- What going down has done. -/
def DownPost (w0 : World) (n sb : Nat) (w : World) (rowv : Value) (t : List Nat × (Nat → Bool)) : Ending → World → Prop := fun e w' => ∃ v', e = .returned v' ∧ ArgsO w0.heap.size w' v' (ci t.1) ∧ BoolsAt w' sb n t.2 ∧ Dwn (fun k => k = sb) w rowv v' w'
end Go.Proofs.Ytblcbccchlljhaa
