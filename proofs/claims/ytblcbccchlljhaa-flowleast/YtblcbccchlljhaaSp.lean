/- The word and the bit of a number; a number put in, cut, asked for. -/
import Derived.Test.YtblcbccchlljhaaBs
import Derived.BigRegion
import Derived.BigQuiet
namespace Go.Proofs.Ytblcbccchlljhaa.Bg
open Go.RowKit Bag

/-- May x be in a set? -/
def inS (x : Int) : Bool := decide (0 ≤ x ∧ x < 4096)
theorem inS_yes {x : Int} (h : 0 ≤ x) (h2 : x < 4096) : inS x = true := by simp [inS, h, h2]
theorem inS_no {x : Int} (h : x < 0 ∨ 4096 ≤ x) : inS x = false := by simp [inS]; omega
theorem inS_nat {x : Nat} (h : x < 4096) : inS (x : Int) = true := inS_yes (by omega) (by omega)
/-- f with x. -/
def ins (f : Nat → Bool) (x : Int) : Nat → Bool := fun y => f y || (inS x && y == x.toNat)
def del (f : Nat → Bool) (x : Int) : Nat → Bool := fun y => f y && !(inS x && y == x.toNat)
/-- Is x in f? -/
def isIn (f : Nat → Bool) (x : Int) : Bool := inS x && f x.toNat

/-- What spot answers. -/
def spotV (x : Int) : Value := if inS x then .tuple #[.int .i64 ((x.toNat / 64 : Nat) : Int), .int .u64 ((2 ^ (x.toNat % 64) : Nat) : Int)] else .tuple #[.int .i64 0, .int .u64 0]

theorem spotV_yes {n : Nat} (h : n < 4096) : spotV (n : Int) = .tuple #[.int .i64 ((n / 64 : Nat) : Int), .int .u64 ((2 ^ (n % 64) : Nat) : Int)] := by
  unfold spotV
  rw [if_pos (inS_nat h)]
  simp
theorem spotV_no {x : Int} (h : x < 0 ∨ 4096 ≤ x) : spotV x = .tuple #[.int .i64 0, .int .u64 0] := by
  unfold spotV
  rw [if_neg (by simp [inS_no h])]
theorem gb_drewN (w : World) (n : Nat) (r : Option Nat) : w.grownBy (w.drewN n) r := ⟨rfl, rfl, rfl, Nat.le_refl _, fun _ _ _ => rfl⟩
theorem bit64 (n : Nat) : IntKind.u64.wrap (2 ^ ((n : Int) % 64).toNat) = ((2 ^ (n % 64) : Nat) : Int) := by
  have hr : n % 64 < 64 := Nat.mod_lt _ (by decide)
  have hp : (2 : Nat) ^ (n % 64) < 18446744073709551616 := by
    rw [show (18446744073709551616 : Nat) = 2 ^ 64 from rfl]
    exact Nat.pow_lt_pow_right (by decide) hr
  rw [show ((n : Int) % 64).toNat = n % 64 by omega, IntKind.wrap_u64, show ((2 : Int) ^ (n % 64)) = ((2 ^ (n % 64) : Nat) : Int) by simp]
  generalize 2 ^ (n % 64) = y at *
  omega
set_option maxHeartbeats 1000000 in
theorem spot_mid (X q bit : Int) (w : World) (h0 : ¬ X < 0) (h1 : ¬ 4096 ≤ X) (hq : X / 64 = q) (hs : IntKind.u64.wrap (2 ^ (X % 64).toNat) = bit) :
    Calls Try.prog 46 #[.int .i64 X] w fun e w' => e = .returned (.tuple #[.int .i64 q, .int .u64 bit]) ∧ w.grownBy w' none := by
  have hq := hide hq
  have hs := hide hs
  go_enter Try.func46, Try.ntmps46
  go_wp2
  go_quiet (fail)
  go_wp2
  refine bodyPost_ret (v := .tuple #[.int .i64 q, .int .u64 bit]) (by simp [results, Try.results46, go_sem, hq.out]) rfl ?_
  exact ⟨rfl, gb_drewN _ _ _⟩
set_option maxHeartbeats 1000000 in
theorem spot_any (x : Int) (w : World) : Calls Try.prog 46 #[.int .i64 x] w fun e w' => e = .returned (spotV x) ∧ w.grownBy w' none := by
  rcases Int.lt_or_le x 0 with h | h
  · rw [spotV_no (.inl h)]
    go_enter Try.func46, Try.ntmps46
    go_wp2
    refine bodyPost_ret (v := .tuple #[.int .i64 0, .int .u64 0]) (by simp [results, Try.results46, go_sem]) rfl ?_
    exact ⟨rfl, gb_refl _ _⟩
  rcases Int.lt_or_le x 4096 with h2 | h2
  · obtain ⟨n, rfl⟩ : ∃ n : Nat, x = n := ⟨x.toNat, by omega⟩
    have hn : n < 4096 := by omega
    rw [spotV_yes hn]
    exact spot_mid _ _ _ w (by omega) (by omega) (by omega) (bit64 n)
  · rw [spotV_no (.inr h2)]
    go_enter Try.func46, Try.ntmps46
    go_wp2
    refine bodyPost_ret (v := .tuple #[.int .i64 0, .int .u64 0]) (by simp [results, Try.results46, go_sem]) rfl ?_
    exact ⟨rfl, gb_refl _ _⟩
end Go.Proofs.Ytblcbccchlljhaa.Bg
