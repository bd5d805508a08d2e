/- ir.formed: is an instruction of a function's kinds, and all that its kind does not name 0? -/
import Derived.Test.YtblcbccchlljhaaInts
namespace Go.Proofs.Ytblcbccchlljhaa
open Go.RowKit Ir

def len0 (args : List Int) : Bool := ((args.length : Nat) : Int) == 0
theorem len0_eq (args : List Int) : len0 args = decide (args.length = 0) := by
  unfold len0
  rw [Bool.eq_iff_iff]
  simp
theorem formed_1 (op d a b n : Int) (args : List Int) : formed ⟨1, op, d, a, b, n, args⟩ = (op == 0 && len0 args && (a == 0) && (b == 0)) := by
  rw [Bool.eq_iff_iff]
  simp [formed, len0_eq, and_assoc]
theorem formed_2 (k op d a b n : Int) (args : List Int) (hk : k = 2 ∨ k = 4) : formed ⟨k, op, d, a, b, n, args⟩ = (op == 0 && len0 args && (b == 0) && (n == 0)) := by
  rw [Bool.eq_iff_iff]
  rcases hk with rfl | rfl <;> simp [formed, len0_eq, and_assoc]
theorem formed_3 (op d a b n : Int) (args : List Int) : formed ⟨3, op, d, a, b, n, args⟩ = (decide (1 ≤ op) && decide (op ≤ 7) && (n == 0) && len0 args) := by
  rw [Bool.eq_iff_iff]
  simp [formed, len0_eq, and_assoc]
theorem formed_5 (op d a b n : Int) (args : List Int) : formed ⟨5, op, d, a, b, n, args⟩ = (op == 0 && len0 args && (d == 0) && (n == 0)) := by
  rw [Bool.eq_iff_iff]
  simp [formed, len0_eq, and_assoc]
theorem formed_6 (op d a b n : Int) (args : List Int) : formed ⟨6, op, d, a, b, n, args⟩ = (op == 0 && (a == 0) && (b == 0)) := by
  rw [Bool.eq_iff_iff]
  simp [formed, and_assoc]
theorem formed_x (k op d a b n : Int) (args : List Int) (hk : k ≠ 1 ∧ k ≠ 2 ∧ k ≠ 3 ∧ k ≠ 4 ∧ k ≠ 5 ∧ k ≠ 6) : formed ⟨k, op, d, a, b, n, args⟩ = false := by
  simp [formed, hk]
end Go.Proofs.Ytblcbccchlljhaa
