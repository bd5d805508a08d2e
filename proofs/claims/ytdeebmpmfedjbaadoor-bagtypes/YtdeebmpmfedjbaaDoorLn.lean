/- Len, Has, Copy. -/
import Derived.Test.YtdeebmpmfedjbaaDoorTz
namespace Go.Proofs.YtdeebmpmfedjbaaDoor
open Go.RowKit Bag
theorem info25 : (Tryd.prog.info? 25).map (·.size) = some 64 := by kernel_rfl
theorem info27 : (Tryd.prog.info? 27).map (·.size) = some 64 := by kernel_rfl
theorem plain24 : Tryd.prog.plainKey 24 = true := by kernel_rfl
theorem info24 : ∃ i, Tryd.prog.info? 24 = some i := info_of_underlying Tryd.underlying24
theorem cells24 : Tryd.prog.cellsOf 24 = 1 := by kernel_rfl
theorem run_index25 {cs : Array Value} {i : Nat} {x : Value} (h : cs[i]? = some x) (hi : i < 64) (W : World) : (Instr.index 25 (.agg cs) (.int .i64 (i : Int))).run Tryd.prog W = .ok x W := by
  obtain ⟨inf, hinf⟩ := info24
  have hi' : (0 : Int) ≤ (i : Int) ∧ (i : Int) < ((64 : Nat) : Int) := by omega
  have hp := run_part_plain (P := Tryd.prog) W plain24 (xs := cs) (off := i) h
  simp only [Instr.index, asIntOf, Sem.run_bind, Sem.run_pure, Result.andThen_ok, run_underlying Tryd.underlying25, if_pos hi', run_sizeOf W hinf, cells24, Int.toNat_natCast, Nat.mul_one, hp]
theorem gb_at {w w1 : World} {g : Nat} {p : Prop} (h : g = w.heap.size ∧ p ∧ Below g w w1) : w.grownBy w1 none := by
  obtain ⟨rfl, _, h⟩ := h
  exact gb_of h
theorem mem_zero (f : Nat → Bool) : mem f 0 = [] := rfl
theorem mem_step (f : Nat → Bool) (i x : Nat) (h : Word f i x) : (mem f (64 * (i + 1))).length = (mem f (64 * i)).length + pop 64 x := by
  rw [mem_next f i x h, List.length_append, List.length_map, bl_pop]
set_option maxHeartbeats 4000000 in
set_option maxRecDepth 100000 in
theorem len_any (v : Value) (f : Nat → Bool) (w : World) (h : SetV v f) : Calls Tryd.prog 21 #[v] w fun e w' => e = .returned (.int .i64 ((mem f 4096).length : Nat)) ∧ w.grownBy w' none := by
  obtain ⟨cs, rfl, hs, hc⟩ := h
  have hs' := hide hs
  clear hs
  go_enter Tryd.func21, Tryd.ntmps21
  go_wp2_with (first | (refine wpList_box' rfl 27 (.tmp 0) rfl cs rfl ?_; intro g w1 h1) | (refine wpList_load_row rfl 25 (.tmp 6) rfl g rfl 27 cs _ h1.out.2.1 Tryd.underlying25 rfl (by rw [hs'.out]; exact info25) ?_))
  go_loop [3, 5, 8] (fun nv _ iv => ∃ i : Nat, i ≤ 64 ∧ iv = .int .i64 i ∧ ∃ n : Nat, nv = .int .i64 n ∧ Hid (n = (mem f (64 * i)).length)) (fun _ _ iv => 64 - (intOf iv).toNat)
  case atStart => exact ⟨0, by omega, rfl, 0, rfl, rfl⟩
  case round =>
    obtain ⟨i, hi, rfl, n, rfl, hn⟩ := hrel
    by_cases hlt : i < 64
    · obtain ⟨x, hx, hw⟩ := hc i hlt
      have hix := run_index25 hx hlt
      have hlt' : (i : Int) < 64 := by omega
      have hstep := hide (mem_step f i x hw)
      have hle := mem_len f (64 * (i + 1))
      have hb : (n : Int) + (pop 64 x : Int) ≤ 4096 := by
        rw [hstep.out] at hle
        rw [hn.out]
        omega
      clear hle
      have hw1 := hw.1
      clear hx hw
      go_wp2_with (go_at_call 40; refine (ones_any x hw1 _).mono ?_; rintro e w2 ⟨rfl, rfl⟩)
      go_round
      case rel => exact ⟨i + 1, by omega, by go_num, n + pop 64 x, by go_num, by rw [hstep.out, hn.out]; exact rfl⟩
      case measure => simp [intOf]; omega
    · obtain rfl : i = 64 := by omega
      go_wp2
      go_ret
      exact ⟨by rw [hn.out]; rfl, gb_at h1.out⟩
end Go.Proofs.YtdeebmpmfedjbaaDoor
