/- OnesCount64 counts the bits. -/
import Derived.Test.YtgckpmaajmlijaaPt
namespace Go.Proofs.Ytgckpmaajmlijaa.Bg
open Go.RowKit Bag
theorem and_i64 (a b : Nat) (ha : a < 9223372036854775808) (hb : b < 9223372036854775808) : bits .and .i64 (a : Int) (b : Int) = ((a &&& b : Nat) : Int) := by
  have hx : a &&& b < 2 ^ 63 := Nat.and_lt_two_pow _ (by omega)
  have h1 : (BitVec.ofInt 64 (a : Int)).toNat = a := by
    rw [BitVec.ofInt_natCast, BitVec.toNat_ofNat]; exact Nat.mod_eq_of_lt (by omega)
  have h2 : (BitVec.ofInt 64 (b : Int)).toNat = b := by
    rw [BitVec.ofInt_natCast, BitVec.toNat_ofNat]; exact Nat.mod_eq_of_lt (by omega)
  show IntKind.i64.wrap ((BitVec.ofInt 64 (a : Int) &&& BitVec.ofInt 64 (b : Int)).toNat : Int) = _
  rw [BitVec.toNat_and, h1, h2, IntKind.wrap_i64]
  omega
theorem wrap_u (n : Nat) (h : n < 18446744073709551616) : IntKind.u64.wrap (n : Int) = (n : Int) := by
  rw [IntKind.wrap_u64]; omega
theorem m55 : mask 2 1 32 = 6148914691236517205 := by decide +kernel
theorem m33 : mask 4 3 16 = 3689348814741910323 := by decide +kernel
theorem m0f : mask 8 15 8 = 1085102592571150095 := by decide +kernel
set_option maxHeartbeats 4000000 in
set_option maxRecDepth 100000 in
theorem ones_mid (x a c d e1 e2 e3 : Int) (r : Int) (w : World)
    (h1 : IntKind.u64.wrap (bits BinOp.and IntKind.u64 (x / 2) 6148914691236517205 + bits BinOp.and IntKind.u64 x 6148914691236517205) = a)
    (h2 : IntKind.u64.wrap (bits BinOp.and IntKind.u64 (a / 4) 3689348814741910323 + bits BinOp.and IntKind.u64 a 3689348814741910323) = c)
    (h3 : bits BinOp.and IntKind.u64 (IntKind.u64.wrap (c / 16 + c)) 1085102592571150095 = d)
    (h4 : IntKind.u64.wrap (d + d / 256) = e1) (h5 : IntKind.u64.wrap (e1 + e1 / 65536) = e2) (h6 : IntKind.u64.wrap (e2 + e2 / 4294967296) = e3) (h7 : bits BinOp.and IntKind.i64 (wrap64 e3) 127 = r) :
    Calls Try.prog 32 #[.int .u64 x] w fun e w' => e = .returned (.int .i64 r) ∧ w' = w := by
  go_enter Try.func32, Try.ntmps32
  go_wp2
  go_ret
  exact ⟨rfl, rfl⟩
theorem ones_any (x : Nat) (hx : x < 18446744073709551616) (w : World) : Calls Try.prog 32 #[.int .u64 x] w fun e w' => e = .returned (.int .i64 (pop 64 x : Nat)) ∧ w' = w := by
  obtain ⟨i1, i2, i3⟩ := st1_dig 32 x
  obtain ⟨j1, j2, j3⟩ := st2_dig 16 (st1 (mask 2 1 32) x) i3
  obtain ⟨k1, k2, k3⟩ := st3_dig 8 (st2 (mask 4 3 16) (st1 (mask 2 1 32) x)) j3
  obtain ⟨f1, f2, f3, f4⟩ := fold8 _ k2 k3
  rw [k1, j1, i1] at f1
  have hb1 : st1 (mask 2 1 32) x < 18446744073709551616 := by simpa using i2
  have hb2 : st2 (mask 4 3 16) (st1 (mask 2 1 32) x) < 18446744073709551616 := by simpa using j2
  have hb3 : st3 (mask 8 15 8) (st2 (mask 4 3 16) (st1 (mask 2 1 32) x)) < 18446744073709551616 := by simpa using k2
  have hc16 : st2 (mask 4 3 16) (st1 (mask 2 1 32) x) / 16 + st2 (mask 4 3 16) (st1 (mask 2 1 32) x) < 18446744073709551616 := by
    have := j3 15
    rw [show (16 : Nat) ^ 15 = 1152921504606846976 from rfl] at this
    omega
  clear i1 i2 i3 j1 j2 j3 k1 k2 k3
  have q1 : IntKind.u64.wrap (bits BinOp.and IntKind.u64 ((x : Int) / 2) 6148914691236517205 + bits BinOp.and IntKind.u64 x 6148914691236517205) = ((st1 (mask 2 1 32) x : Nat) : Int) := by
    have g1 := u64_and_nat (x / 2) 6148914691236517205 (by omega) (by decide)
    have g2 := u64_and_nat x 6148914691236517205 (by omega) (by decide)
    rw [show ((x : Int) / 2) = ((x / 2 : Nat) : Int) by omega, show (6148914691236517205 : Int) = ((6148914691236517205 : Nat) : Int) from rfl, g1, g2, ← m55]
    rw [show ((((x / 2 &&& mask 2 1 32 : Nat) : Int)) + ((x &&& mask 2 1 32 : Nat) : Int)) = ((st1 (mask 2 1 32) x : Nat) : Int) by simp [st1], wrap_u _ hb1]
  generalize st1 (mask 2 1 32) x = A at *
  have q2 : IntKind.u64.wrap (bits BinOp.and IntKind.u64 ((A : Int) / 4) 3689348814741910323 + bits BinOp.and IntKind.u64 A 3689348814741910323) = ((st2 (mask 4 3 16) A : Nat) : Int) := by
    have g1 := u64_and_nat (A / 4) 3689348814741910323 (by omega) (by decide)
    have g2 := u64_and_nat A 3689348814741910323 (by omega) (by decide)
    rw [show ((A : Int) / 4) = ((A / 4 : Nat) : Int) by omega, show (3689348814741910323 : Int) = ((3689348814741910323 : Nat) : Int) from rfl, g1, g2, ← m33]
    rw [show ((((A / 4 &&& mask 4 3 16 : Nat) : Int)) + ((A &&& mask 4 3 16 : Nat) : Int)) = ((st2 (mask 4 3 16) A : Nat) : Int) by simp [st2], wrap_u _ hb2]
  generalize st2 (mask 4 3 16) A = C at *
  have q3 : bits BinOp.and IntKind.u64 (IntKind.u64.wrap ((C : Int) / 16 + C)) 1085102592571150095 = ((st3 (mask 8 15 8) C : Nat) : Int) := by
    have g1 := u64_and_nat (C / 16 + C) 1085102592571150095 hc16 (by decide)
    rw [show ((C : Int) / 16 + C) = ((C / 16 + C : Nat) : Int) by omega, wrap_u _ hc16, show (1085102592571150095 : Int) = ((1085102592571150095 : Nat) : Int) from rfl, g1, ← m0f]
    rfl
  generalize st3 (mask 8 15 8) C = D at *
  refine ones_mid (x : Int) A C D ((D + D / 256 : Nat) : Int) ((D + D / 256 + (D + D / 256) / 65536 : Nat) : Int) ((D + D / 256 + (D + D / 256) / 65536 + (D + D / 256 + (D + D / 256) / 65536) / 4294967296 : Nat) : Int) _ w q1 q2 q3 ?_ ?_ ?_ ?_
  · rw [← wrap_u _ f2]; congr 1
  · rw [← wrap_u _ f3]; congr 1
  · rw [← wrap_u _ (Nat.lt_trans f4 (by decide))]; congr 1
  · generalize D + D / 256 + (D + D / 256) / 65536 + (D + D / 256 + (D + D / 256) / 65536) / 4294967296 = E at *
    have e1 : wrap64 (E : Int) = (E : Int) := by unfold wrap64; omega
    have e2 := and_i64 E 127 f4 (by decide)
    rw [e1, show (127 : Int) = ((127 : Nat) : Int) from rfl, e2, ← f1]
    congr 1
    exact Nat.and_two_pow_sub_one_eq_mod E 7
end Go.Proofs.Ytgckpmaajmlijaa.Bg
