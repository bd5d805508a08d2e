/- OnesCount64 counts the bits. -/
import Derived.Test.YtblcbccchlljhaaPt
namespace Go.Proofs.Ytblcbccchlljhaa.Bg
open Go.RowKit Bag
theorem and_i64 (a b : Nat) (ha : a < 9223372036854775808) (hb : b < 9223372036854775808) : bits .and .i64 (a : Int) (b : Int) = ((a &&& b : Nat) : Int) := by
  have hx : a &&& b < 2 ^ 63 := Nat.and_lt_two_pow _ (by omega)
  have h1 : (BitVec.ofInt 64 (a : Int)).toNat = a := by
    rw [BitVec.ofInt_natCast, BitVec.toNat_ofNat]; exact Nat.mod_eq_of_lt (by omega)
  have h2 : (BitVec.ofInt 64 (b : Int)).toNat = b := by
    rw [BitVec.ofInt_natCast, BitVec.toNat_ofNat]; exact Nat.mod_eq_of_lt (by omega)
  show IntKind.i64.wrap ((BitVec.ofInt 64 (a : Int) &&& BitVec.ofInt 64 (b : Int)).toNat : Int) = _
  rw [BitVec.toNat_and, h1, h2, IntKind.wrap_i64]
  omega
theorem wrap_u (n : Nat) (h : n < 18446744073709551616) : IntKind.u64.wrap (n : Int) = (n : Int) := by
  rw [IntKind.wrap_u64]; omega
theorem m55 : mask 2 1 32 = 6148914691236517205 := by decide +kernel
theorem m33 : mask 4 3 16 = 3689348814741910323 := by decide +kernel
theorem m0f : mask 8 15 8 = 1085102592571150095 := by decide +kernel
end Go.Proofs.Ytblcbccchlljhaa.Bg
