/- crc.step: the register, moved down past one byte. -/
import Derived.Test.YtlonniegaaocoaaProg
import Derived.Test.YtlonniegaaocoaaBase
import Derived.Test.YtlonniegaaocoaaCrcMath
namespace Go.Proofs.Ytlonniegaaocoaa
open Go.RowKit

theorem bits_succ (k x : Nat) : Crc.bits (k + 1) x = Crc.bit (Crc.bits k x) := by rw [Crc.bits_add]; rfl

theorem and_one (y : Nat) (hy : y < 4294967296) : bits .and .u32 (y : Int) 1 = ((y % 2 : Nat) : Int) := by
  rw [show (1 : Int) = ((1 : Nat) : Int) from rfl, u32_and_nat _ _ hy (by omega), Nat.and_one_is_mod]

theorem bit_odd (y : Nat) (hy : y < 4294967296) (h : y % 2 = 1) : bits .xor .u32 ((y : Int) / 2) 3988292384 = ((Crc.bit y : Nat) : Int) := by
  rw [show ((y : Int) / 2) = ((y / 2 : Nat) : Int) from by omega, show (3988292384 : Int) = ((3988292384 : Nat) : Int) from rfl, u32_xor_nat _ _ (by omega) (by omega)]
  unfold Crc.bit
  rw [if_pos h]
theorem bit_even (y : Nat) (h : ¬ y % 2 = 1) : (y : Int) / 2 = ((Crc.bit y : Nat) : Int) := by
  unfold Crc.bit
  rw [if_neg h]
  omega

set_option maxHeartbeats 400000 in
set_option maxRecDepth 100000 in
theorem step_any (x : Nat) (w : World) (hx : x < 4294967296) :
    Calls Try.prog 29 #[.int .u32 x] w fun e w' => e = .returned (.int .u32 (Crc.bits 8 x : Nat)) ∧ w' = w := by
  have HX := hide hx
  clear hx
  go_enter Try.func29, Try.ntmps29
  go_wp2_with fail
  go_loop [0, 3, 4] (fun rv _ iv => ∃ k y : Nat, k ≤ 8 ∧ iv = .int .i64 k ∧ rv = .int .u32 y ∧ Hid (y = Crc.bits k x) ∧ Hid (y < 4294967296)) (fun _ _ iv => 8 - (intOf iv).toNat)
  case atStart => exact ⟨0, x, by omega, rfl, rfl, rfl, HX⟩
  case round =>
    obtain ⟨k, y, hk, rfl, rfl, hy, hlt⟩ := hrel
    by_cases h8 : k < 8
    · have ha := and_one y hlt.out
      by_cases h2 : y % 2 = 1
      · have e := hide (bit_odd y hlt.out h2)
        have hn : Hid (Crc.bit y = Crc.bits (k + 1) x) := by show _ = _; rw [bits_succ, ← hy.out]
        have hl : Hid (Crc.bit y < 4294967296) := Crc.bit_lt hlt.out
        rw [h2] at ha
        go_wp2_with fail
        go_round
        case rel => exact ⟨k + 1, Crc.bit y, by omega, by go_num, by rw [e.out], hn, hl⟩
        case measure => simp [intOf]; omega
      · have e := hide (bit_even y h2)
        have hn : Hid (Crc.bit y = Crc.bits (k + 1) x) := by show _ = _; rw [bits_succ, ← hy.out]
        have hl : Hid (Crc.bit y < 4294967296) := Crc.bit_lt hlt.out
        rw [show y % 2 = 0 from by omega] at ha
        go_wp2_with fail
        go_round
        case rel => exact ⟨k + 1, Crc.bit y, by omega, by go_num, by rw [e.out], hn, hl⟩
        case measure => simp [intOf]; omega
    · obtain rfl : k = 8 := by omega
      go_wp2_with fail
      go_ret
      exact ⟨by rw [hy.out]; rfl, rfl⟩
end Go.Proofs.Ytlonniegaaocoaa
