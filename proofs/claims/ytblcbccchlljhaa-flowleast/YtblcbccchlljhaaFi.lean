/- The row of facts, built one by one: numbers. -/
import Derived.Test.YtblcbccchlljhaaSi
namespace Go.Proofs.Ytblcbccchlljhaa.I
open Go.RowKit Ir Wy
/-- A fact in a block of its own. -/
def Fone (w : World) (h : Nat) (f : Fc) : Prop := w.heap[h]? = some (.cells #[.int .i64 (f : Int)] 3 (0, 0))
/-- The first n facts, in a row of the call's own. -/
def FactsL (B : Nat) (w : World) (v : Value) (n : Nat) (fs : Nat → Fc) : Prop := ArgsO B w v ((List.range n).map fun j => ((fs j : Nat) : Int))
theorem run_one (f : Fc) (w : World) : (Instr.buildSlice 48 1 #[(0, .int .i64 (f : Int))]).run Try.prog w = .ok (.slice (some ⟨w.heap.size, 0, none⟩) 1 1) (w.alloc (.cells #[.int .i64 (f : Int)] 3)) := by
  obtain ⟨i, hi, hz, hsize, hby⟩ := info_parts info3
  have z3 : (zeroValue 3).run Try.prog w = .ok (.int .i64 0) w := by kernel_rfl
  have hs : (sizeOf 3).run Try.prog w = .ok 1 w := by rw [run_sizeOf w hi]; exact congrArg (Result.ok · w) (by kernel_rfl : Try.prog.cellsOf 3 = 1)
  have hf : Instr.fill (fun i => some (i * 1, 1)) ((Array.range (1 * 1)).map fun x => (Value.int .i64 0).cells[x % (Value.int .i64 0).cells.size]!) [(0, .int .i64 (f : Int))] = some #[.int .i64 (f : Int)] := by
    have hz : ∀ (Z : Array Value) (x : Value), Z.size = 1 → Z.setIfInBounds 0 x = #[x] := by
      intro Z x h
      obtain ⟨l⟩ := Z
      match l, h with
      | [y], _ => rfl
    simp [Instr.fill, Value.cells]
    exact hz _ _ (by simp)
  simp only [Instr.buildSlice, Sem.run_bind, run_underlying Try.underlying48, Result.andThen_ok, hs]
  rw [if_neg (by omega)]
  rw [if_neg (by omega)]
  simp only [Sem.run_bind, z3, Sem.run_pure, Result.andThen_ok, hf]
  rfl
section
variable {ops : Array Oper} {rest : List Oper} {o : Oper} {a : Act} {w : World} {Q : Exit → Act → World → Prop} {B n : Nat} {v : Value} {fs gs : Nat → Fc}
theorem wpList_one (hg : o.guard = none) (x : Operand) (ho : o.op = .buildSlice 48 1 #[(0, x)]) {f : Fc} {u : Value} (hx : a.eval x = u) (hu : FV u f) (hK : ∀ (h : Nat) (w' : World), Hid (Fone w' h f ∧ h = w.heap.size ∧ Below w.heap.size w w') → wpList Try.prog ops Q rest (a.put o.dst (.slice (some ⟨h, 0, none⟩) 1 1)) w') : wpList Try.prog ops Q (o :: rest) a w := by
  subst hu
  refine Bg.wpList_is hg ?_ (hK _ _ ⟨heap_alloc_new w _, rfl, bel1' w _⟩)
  unfold execOp
  simp only [ho, List.map_toArray, List.map_cons, List.map_nil, hx, run_one f w, Sem.run_bind, Result.andThen_ok]
  rfl
theorem wpList_snoc (s y : Operand) (hgd : o.guard = none) (ho : o.op = .call { callee := .builtin .append, args := #[s, y], argTypes := #[48, 48] }) {h : Nat} (hO : FactsL B w v n fs) (hh : Fone w h (fs n)) (hs : a.eval s = v) (hy : a.eval y = .slice (some ⟨h, 0, none⟩) 1 1) (hn : n ≤ 1000) (hB : B ≤ w.heap.size)
    (hK : ∀ v' w', Hid (FactsL B w' v' (n + 1) fs) → Hid (w.grownBy w' v.ownBlock) → wpList Try.prog ops Q rest (a.put o.dst v') w') : wpList Try.prog ops Q (o :: rest) a w := by
  refine snoc_int s y hgd ho hO hh hs hy (by simp; omega) hB fun v' w' k1 k2 _ => hK v' w' ?_ k2
  show ArgsO B w' v' _
  rw [List.range_succ, List.map_append]
  exact k1
end
theorem FactsL.nil (B : Nat) (w : World) (fs : Nat → Fc) : FactsL B w (.slice none 0 0) 0 fs := ArgsO.nil B w
theorem FactsL.lt {B n : Nat} {w : World} {v : Value} {fs : Nat → Fc} (h : FactsL B w v n fs) : ∀ k, v.ownBlock = some k → B ≤ k ∧ k < w.heap.size := World.ownsRow.lt h
theorem FactsL.below {B n : Nat} {w w' : World} {v : Value} {fs : Nat → Fc} (h : FactsL B w v n fs) (hB : Below w.heap.size w w') : FactsL B w' v n fs := ArgsO.below h hB
theorem FactsL.slice {B n : Nat} {w : World} {v : Value} {fs : Nat → Fc} (h : FactsL B w v n fs) : ∃ ao cap, v = .slice ao n cap := by
  obtain ⟨ao, cap, e⟩ := ArgsO.slice h
  exact ⟨ao, cap, by simpa using e⟩
theorem FactsL.at {B n : Nat} {w : World} {v : Value} {fs : Nat → Fc} (h : FactsL B w v n fs) (h0 : 0 < n) : ∃ g cap, v = .slice (some ⟨g, 0, none⟩) n cap ∧ B ≤ g ∧ g < w.heap.size ∧ FactsAt w g n fs := by
  have hl := FactsL.lt h
  rcases ArgsO.ways h with ⟨_, e⟩ | ⟨g, cap, cur, rfl, _, hg, h1, h2, h3, h4⟩
  · have := congrArg List.length e
    simp at this
    omega
  · simp only [List.length_map, List.length_range] at h1 h4
    refine ⟨g, cap, by simp, (hl g rfl).1, (hl g rfl).2, fun j hj => ⟨?_, by simp [World.frozen?, hg]⟩⟩
    rw [cell_of_row _ _ _ _ _ _ hg]
    have : (cur.toList.take n)[j]? = some (.int .i64 ((fs j : Nat) : Int)) := by
      rw [h4]
      simp [hj]
    rw [List.getElem?_take, if_pos hj] at this
    simpa using this
end Go.Proofs.Ytblcbccchlljhaa.I
