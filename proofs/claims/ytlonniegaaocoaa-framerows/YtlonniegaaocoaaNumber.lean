/- leb.number: the number at the front of bytes, how many bytes it has, the fault. -/
import Derived.Test.YtlonniegaaocoaaPut
namespace Go.Proofs.Ytlonniegaaocoaa
open Go.RowKit

set_option maxHeartbeats 400000 in
set_option maxRecDepth 100000 in
theorem number_any (v : Value) (xs : List Int) (w : World) (hv : Byt w v xs) :
    Calls Try.prog 30 #[v] w fun e w' => e = .returned (.tuple #[.int .u64 (Leb.num 0 0 xs).1, .int .i64 (Leb.num 0 0 xs).2.1, .int .i64 (Leb.num 0 0 xs).2.2]) ∧ w' = w := by
  obtain ⟨b, hb0, ao, cap, rfl, hlc, hcm, hao, hcell⟩ := hv
  unfold maxLen at hcm
  go_enter Try.func30, Try.ntmps30
  go_wp2
  go_loop [5, 10] (fun nv iv => ∃ i acc : Nat, i ≤ 9 ∧ i ≤ xs.length ∧ iv = .int .i64 i ∧ nv = .int .u64 acc ∧ Hid (acc < 128 ^ i) ∧ Hid (Leb.num 0 0 xs = Leb.num i acc (xs.drop i))) (fun _ iv => 10 - (intOf iv).toNat)
  case atStart => exact ⟨0, 0, by omega, by omega, rfl, rfl, by show _ < _; simp, rfl⟩
  case round =>
    obtain ⟨i, acc, hi9, hil, rfl, rfl, ha, he⟩ := hrel
    by_cases hlt : i < xs.length
    · obtain ⟨off, rfl, hc⟩ := hcell (by omega)
      have hci := hc i hlt
      obtain ⟨c, hcc⟩ : ∃ c, c = xs.getD i 0 := ⟨_, rfl⟩
      rw [← hcc] at hci
      have hcb : 0 ≤ c ∧ c < 256 := by rw [hcc]; exact hb0 _ (by simp [List.getElem?_eq_getElem hlt])
      have hdr : xs.drop i = c :: xs.drop (i + 1) := by rw [List.drop_eq_getElem_cons hlt, hcc]; simp [List.getElem?_eq_getElem hlt]
      have HD := hide hdr
      have hc0 := hcb.1
      have hc1 := hcb.2
      clear hcell hc hdr hcb hcc
      by_cases h9 : i = 9
      · subst h9
        by_cases h1 : 1 < c
        · go_wp2
          go_ret3
          exact ⟨by rw [he.out, HD.out, Leb.num_form1 h1]; rfl, rfl⟩
        · by_cases h00 : c = 0
          · go_wp2
            go_ret3
            exact ⟨by rw [he.out, HD.out, Leb.num_form2 (by omega) h00]; rfl, rfl⟩
          · have HJ := hide (joined 9 acc c hc0 hc1 (by omega) (fun _ => by omega) ha.out)
            go_wp2
            go_ret3
            refine ⟨?_, rfl⟩
            rw [he.out, HD.out, Leb.num_last (by omega) (by omega), ← HJ.out]
            rfl
      · have HJ := hide (joined i acc c hc0 hc1 hi9 (fun h => absurd h h9) ha.out)
        have HA : Hid (acc + c.toNat % 128 * 128 ^ i < 128 ^ (i + 1)) := by
          show _ < _
          have h1 : c.toNat % 128 * 128 ^ i ≤ 127 * 128 ^ i := Nat.mul_le_mul_right _ (by omega)
          have h2 := ha.out
          rw [Nat.pow_succ]
          omega
        by_cases h0 : 0 < i
        · by_cases h00 : c = 0
          · go_wp2
            go_ret3
            exact ⟨by rw [he.out, HD.out, Leb.num_form2 (by omega) h00]; rfl, rfl⟩
          · by_cases h2 : c < 128
            · go_wp2
              go_ret3
              refine ⟨?_, rfl⟩
              rw [he.out, HD.out, Leb.num_last (by omega) h2, ← HJ.out]
              rfl
            · go_wp2
              go_round
              case rel => exact ⟨i + 1, _, by omega, by omega, by go_num, by rw [HJ.out], HA, by show _ = _; rw [he.out, HD.out, Leb.num_more (by omega) h2]⟩
              case measure => simp [intOf]; omega
        · by_cases h2 : c < 128
          · go_wp2
            go_ret3
            refine ⟨?_, rfl⟩
            rw [he.out, HD.out, Leb.num_last (by omega) h2, ← HJ.out]
            rfl
          · go_wp2
            go_round
            case rel => exact ⟨i + 1, _, by omega, by omega, by go_num, by rw [HJ.out], HA, by show _ = _; rw [he.out, HD.out, Leb.num_more (by omega) h2]⟩
            case measure => simp [intOf]; omega
    · go_wp2
      go_ret3
      exact ⟨by rw [he.out, List.drop_eq_nil_of_le (by omega)]; rfl, rfl⟩
end Go.Proofs.Ytlonniegaaocoaa
