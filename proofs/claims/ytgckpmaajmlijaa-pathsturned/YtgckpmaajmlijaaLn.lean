/- Len, Has, Copy. -/
import Derived.Test.YtgckpmaajmlijaaTz
namespace Go.Proofs.Ytgckpmaajmlijaa.Bg
open Go.RowKit Bag
theorem info25 : (Try.prog.info? 33).map (·.size) = some 64 := by kernel_rfl
theorem info27 : (Try.prog.info? 35).map (·.size) = some 64 := by kernel_rfl
theorem plain24 : Try.prog.plainKey 32 = true := by kernel_rfl
theorem info24 : ∃ i, Try.prog.info? 32 = some i := info_of_underlying Try.underlying32
theorem cells24 : Try.prog.cellsOf 32 = 1 := by kernel_rfl
theorem run_index25 {cs : Array Value} {i : Nat} {x : Value} (h : cs[i]? = some x) (hi : i < 64) (W : World) : (Instr.index 33 (.agg cs) (.int .i64 (i : Int))).run Try.prog W = .ok x W := by
  obtain ⟨inf, hinf⟩ := info24
  have hi' : (0 : Int) ≤ (i : Int) ∧ (i : Int) < ((64 : Nat) : Int) := by omega
  have hp := run_part_plain (P := Try.prog) W plain24 (xs := cs) (off := i) h
  simp only [Instr.index, asIntOf, Sem.run_bind, Sem.run_pure, Result.andThen_ok, run_underlying Try.underlying33, if_pos hi', run_sizeOf W hinf, cells24, Int.toNat_natCast, Nat.mul_one, hp]
theorem gb_at {w w1 : World} {g : Nat} {p : Prop} (h : g = w.heap.size ∧ p ∧ Below g w w1) : w.grownBy w1 none := by
  obtain ⟨rfl, _, h⟩ := h
  exact gb_of h
theorem mem_zero (f : Nat → Bool) : mem f 0 = [] := rfl
theorem mem_step (f : Nat → Bool) (i x : Nat) (h : Word f i x) : (mem f (64 * (i + 1))).length = (mem f (64 * i)).length + pop 64 x := by
  rw [mem_next f i x h, List.length_append, List.length_map, bl_pop]
set_option maxHeartbeats 4000000 in
set_option maxRecDepth 100000 in
theorem len_any (v : Value) (f : Nat → Bool) (w : World) (h : SetV v f) : Calls Try.prog 19 #[v] w fun e w' => e = .returned (.int .i64 ((mem f 4096).length : Nat)) ∧ w.grownBy w' none := by
  obtain ⟨cs, rfl, hs, hc⟩ := h
  have hs' := hide hs
  clear hs
  go_enter Try.func19, Try.ntmps19
  go_wp2_with (first | (refine wpList_box' rfl 35 (.tmp 0) rfl cs rfl ?_; intro g w1 h1) | (refine wpList_load_row rfl 33 (.tmp 6) rfl g rfl 35 cs _ h1.out.2.1 Try.underlying33 rfl (by rw [hs'.out]; exact info25) ?_))
  go_loop [3, 5, 8] (fun nv _ iv => ∃ i : Nat, i ≤ 64 ∧ iv = .int .i64 i ∧ ∃ n : Nat, nv = .int .i64 n ∧ Hid (n = (mem f (64 * i)).length)) (fun _ _ iv => 64 - (intOf iv).toNat)
  case atStart => exact ⟨0, by omega, rfl, 0, rfl, rfl⟩
  case round =>
    obtain ⟨i, hi, rfl, n, rfl, hn⟩ := hrel
    by_cases hlt : i < 64
    · obtain ⟨x, hx, hw⟩ := hc i hlt
      have hix := run_index25 hx hlt
      have hlt' : (i : Int) < 64 := by omega
      have hstep := hide (mem_step f i x hw)
      have hle := mem_len f (64 * (i + 1))
      have hb : (n : Int) + (pop 64 x : Int) ≤ 4096 := by
        rw [hstep.out] at hle
        rw [hn.out]
        omega
      clear hle
      have hw1 := hw.1
      clear hx hw
      go_wp2_with (go_at_call 32; refine (ones_any x hw1 _).mono ?_; rintro e w2 ⟨rfl, rfl⟩)
      go_round
      case rel => exact ⟨i + 1, by omega, by go_num, n + pop 64 x, by go_num, by rw [hstep.out, hn.out]; exact rfl⟩
      case measure => simp [intOf]; omega
    · obtain rfl : i = 64 := by omega
      go_wp2
      go_ret
      exact ⟨by rw [hn.out]; rfl, gb_at h1.out⟩
end Go.Proofs.Ytgckpmaajmlijaa.Bg
