/- Plain facts more: what Below and Bytes of a reader answer, what they leave. -/
import Derived.Test.YtlonniegaaocoaaMath
namespace Go.Proofs.Ytlonniegaaocoaa
namespace Leb

theorem numA_fault {xs : List Int} {code : Int} (h : numC xs code ≠ 0) : numA xs code = 0 := by
  unfold numA
  unfold numC at h
  split
  · rename_i hc
    rw [if_pos hc] at h
    exact (num_fault xs 0 0 h).1
  · rfl

/-- What Below answers of a number n, and the fault behind the fault c. -/
def belA (n : Nat) (limit : Int) : Int := if limit ≤ 0 ∨ limit ≤ (n : Int) then 0 else (n : Int)
def belC (n : Nat) (c limit : Int) : Int := if limit ≤ 0 ∨ limit ≤ (n : Int) then failed c 2 else c

/-- What Bytes answers, what is left, the fault. -/
def bytA (xs : List Int) (code n : Int) : List Int := if code = 0 ∧ 0 ≤ n ∧ n ≤ (xs.length : Int) then xs.take n.toNat else []
def bytL (xs : List Int) (code n : Int) : List Int := if code = 0 ∧ 0 ≤ n ∧ n ≤ (xs.length : Int) then xs.drop n.toNat else xs
def bytC (xs : List Int) (code n : Int) : Int := if 0 ≤ n ∧ n ≤ (xs.length : Int) then code else failed code 3

theorem byt_fault {xs : List Int} {code n : Int} (h : code ≠ 0) : bytA xs code n = [] ∧ bytL xs code n = xs ∧ bytC xs code n = code := by
  unfold bytA bytL bytC
  rw [if_neg (fun h1 => h h1.1), if_neg (fun h1 => h h1.1), failed_ne h]
  refine ⟨rfl, rfl, ?_⟩
  split <;> rfl
theorem byt_out {xs : List Int} {n : Int} (h : ¬ (0 ≤ n ∧ n ≤ (xs.length : Int))) : bytA xs 0 n = [] ∧ bytL xs 0 n = xs ∧ bytC xs 0 n = 3 := by
  unfold bytA bytL bytC
  rw [if_neg (fun h1 => h h1.2), if_neg (fun h1 => h h1.2), if_neg h, failed_zero]
  exact ⟨rfl, rfl, rfl⟩
theorem byt_in {xs : List Int} {k : Nat} (h : k ≤ xs.length) : bytA xs 0 (k : Int) = xs.take k ∧ bytL xs 0 (k : Int) = xs.drop k ∧ bytC xs 0 (k : Int) = 0 := by
  unfold bytA bytL bytC
  rw [if_pos ⟨rfl, by omega, by omega⟩, if_pos ⟨rfl, by omega, by omega⟩, if_pos ⟨by omega, by omega⟩]
  exact ⟨by simp, by simp, rfl⟩

theorem numL_len (xs : List Int) (code : Int) : (numL xs code).length ≤ xs.length := by
  unfold numL; split
  · simp
  · exact Nat.le_refl _
theorem bytL_len (xs : List Int) (code n : Int) : (bytL xs code n).length ≤ xs.length := by
  unfold bytL; split
  · simp
  · exact Nat.le_refl _

end Leb
end Go.Proofs.Ytlonniegaaocoaa
