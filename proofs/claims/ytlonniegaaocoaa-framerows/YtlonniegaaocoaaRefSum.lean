/- The document's Sum: the same number. -/
import Derived.Test.YtlonniegaaocoaaSum
namespace Go.Proofs.Ytlonniegaaocoaa
open Go.RowKit

theorem fin_u32 (y : Nat) (hy : y < 4294967296) : bits .xor .u32 (y : Int) 4294967295 = ((y ^^^ 4294967295 : Nat) : Int) := by
  rw [show (4294967295 : Int) = ((4294967295 : Nat) : Int) from rfl, u32_xor_nat _ _ hy (by omega)]

set_option maxHeartbeats 400000 in
set_option maxRecDepth 100000 in
theorem refSum_any (v : Value) (xs : List Int) (w : World) (hv : Byt w v xs) :
    Calls Try.prog 24 #[v] w fun e w' => e = .returned (.int .u32 (sumOf xs : Nat)) ∧ w' = w := by
  obtain ⟨b2, hb0, ao2, cap2, rfl, hlc, hcm, hao, hcell⟩ := hv
  have HC := hide hcell
  have HB := hide hb0
  clear hcell hb0
  unfold maxLen at hcm
  go_enter Try.func24, Try.ntmps24
  go_wp2_with fail
  go_loop [3, 4, 5] (fun rv iv _ => ∃ j z : Nat, j ≤ xs.length ∧ iv = .int .i64 j ∧ rv = .int .u32 z ∧ Hid (z = Crc.reg 4294967295 (nats (xs.take j))) ∧ Hid (z < 4294967296)) (fun _ iv _ => xs.length - (intOf iv).toNat)
  case atStart => exact ⟨0, 4294967295, by omega, rfl, rfl, by show _ = _; simp [nats, Crc.reg], by show _ < _; omega⟩
  case round =>
    obtain ⟨j, z, hj, rfl, rfl, hz, hzlt⟩ := hrel
    by_cases hjl : j < xs.length
    · obtain ⟨off2, rfl, hcell⟩ := HC.out (by omega)
      have hcj := hcell j hjl
      have hT2 := hide (take_snoc' 0 hjl)
      have hd0 := HB.out (xs.getD j 0) (by simp [List.getElem?_eq_getElem hjl])
      obtain ⟨d, hd⟩ := Int.eq_ofNat_of_zero_le hd0.1
      rw [hd] at hcj
      have hdl : d < 256 := by omega
      have HN : Hid (Crc.bits 8 (z ^^^ d) = Crc.reg 4294967295 (nats (xs.take (j + 1)))) := by
        show _ = _
        rw [hT2.out, hd, nats_append, show nats [((d : Nat) : Int)] = [d] from rfl, reg_snoc, ← hz.out]
        rfl
      have HL : Hid (Crc.bits 8 (z ^^^ d) < 4294967296) := Crc.byte_lt hzlt.out hdl
      have HXL : Hid (z ^^^ d < 4294967296) := Nat.xor_lt_two_pow (n := 32) hzlt.out (by omega)
      have HE := hide (xor_u32 z d hzlt.out hdl)
      clear hcell hd hd0
      go_wp2_with fail
      go_loop [3, 5] (fun rv iv => ∃ k y : Nat, k ≤ 8 ∧ iv = .int .i64 k ∧ rv = .int .u32 y ∧ Hid (y = Crc.bits k (z ^^^ d)) ∧ Hid (y < 4294967296)) (fun _ iv => 8 - (intOf iv).toNat)
      case atStart => exact ⟨0, z ^^^ d, by omega, rfl, by rw [HE.out], rfl, HXL⟩
      case round =>
        obtain ⟨k, y, hk, rfl, rfl, hy, hlt⟩ := hrel
        have hyl := hlt.out
        by_cases h8 : k < 8
        · have hn : Hid (Crc.bit y = Crc.bits (k + 1) (z ^^^ d)) := by show _ = _; rw [bits_succ, ← hy.out]
          have hl : Hid (Crc.bit y < 4294967296) := Crc.bit_lt hlt.out
          by_cases h2 : y % 2 = 1
          · have e := hide (bit_odd y hlt.out h2)
            have h2' : (y : Int) % 2 = 1 := by omega
            clear hcj HE
            go_wp2_with fail
            go_round
            case rel => exact ⟨k + 1, Crc.bit y, by omega, by go_num, by rw [e.out], hn, hl⟩
            case measure => simp [intOf]; omega
          · have e := hide (bit_even y h2)
            have h2' : ¬ (y : Int) % 2 = 1 := by omega
            clear hcj HE
            go_wp2_with fail
            go_round
            case rel => exact ⟨k + 1, Crc.bit y, by omega, by go_num, by rw [e.out], hn, hl⟩
            case measure => simp [intOf]; omega
        · obtain rfl : k = 8 := by omega
          clear hcj HE
          rw [← hy.out] at HN HL
          go_wp2_with fail
          go_round
          case rel => exact ⟨j + 1, y, by omega, by go_num, rfl, HN, HL⟩
          case measure => simp [intOf]; omega
    · obtain rfl : j = xs.length := by omega
      have HN : Hid (bits .xor .u32 (z : Int) 4294967295 = ((sumOf xs : Nat) : Int)) := by
        show _ = _
        rw [fin_u32 z hzlt.out, hz.out, List.take_of_length_le (Nat.le_refl _)]
        rfl
      go_wp2_with fail
      rw [HN.out]
      go_ret
      exact ⟨rfl, rfl⟩
end Go.Proofs.Ytlonniegaaocoaa
