/- Less, Meet, Join. -/
import Derived.Test.YtblcbccchlljhaaSm
namespace Go.Proofs.Ytblcbccchlljhaa.Bg
open Go.RowKit Bag
/-- The numbers below n by h, the others by f. -/
def upto (n : Nat) (h f : Nat → Bool) : Nat → Bool := fun x => if x < n then h x else f x
theorem upto_yes {n : Nat} (h f : Nat → Bool) {x : Nat} (hx : x < n) : upto n h f x = h x := by simp [upto, hx]
theorem upto_no {n : Nat} (h f : Nat → Bool) {x : Nat} (hx : ¬ x < n) : upto n h f x = f x := by simp [upto, hx]
theorem upto_step {n m : Nat} (h f : Nat → Bool) {x : Nat} (hx : (x < n ↔ x < m)) : upto n h f x = upto m h f x := by simp [upto, hx]
end Go.Proofs.Ytblcbccchlljhaa.Bg
