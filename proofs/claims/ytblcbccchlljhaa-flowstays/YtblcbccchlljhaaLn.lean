/- Len, Has, Copy. -/
import Derived.Test.YtblcbccchlljhaaTz
namespace Go.Proofs.Ytblcbccchlljhaa.Bg
open Go.RowKit Bag
theorem info25 : (Try.prog.info? 38).map (·.size) = some 64 := by kernel_rfl
theorem info27 : (Try.prog.info? 40).map (·.size) = some 64 := by kernel_rfl
theorem plain24 : Try.prog.plainKey 37 = true := by kernel_rfl
theorem info24 : ∃ i, Try.prog.info? 37 = some i := info_of_underlying Try.underlying37
theorem cells24 : Try.prog.cellsOf 37 = 1 := by kernel_rfl
theorem run_index25 {cs : Array Value} {i : Nat} {x : Value} (h : cs[i]? = some x) (hi : i < 64) (W : World) : (Instr.index 38 (.agg cs) (.int .i64 (i : Int))).run Try.prog W = .ok x W := by
  obtain ⟨inf, hinf⟩ := info24
  have hi' : (0 : Int) ≤ (i : Int) ∧ (i : Int) < ((64 : Nat) : Int) := by omega
  have hp := run_part_plain (P := Try.prog) W plain24 (xs := cs) (off := i) h
  simp only [Instr.index, asIntOf, Sem.run_bind, Sem.run_pure, Result.andThen_ok, run_underlying Try.underlying38, if_pos hi', run_sizeOf W hinf, cells24, Int.toNat_natCast, Nat.mul_one, hp]
theorem gb_at {w w1 : World} {g : Nat} {p : Prop} (h : g = w.heap.size ∧ p ∧ Below g w w1) : w.grownBy w1 none := by
  obtain ⟨rfl, _, h⟩ := h
  exact gb_of h
theorem mem_zero (f : Nat → Bool) : mem f 0 = [] := rfl
theorem mem_step (f : Nat → Bool) (i x : Nat) (h : Word f i x) : (mem f (64 * (i + 1))).length = (mem f (64 * i)).length + pop 64 x := by
  rw [mem_next f i x h, List.length_append, List.length_map, bl_pop]
end Go.Proofs.Ytblcbccchlljhaa.Bg
