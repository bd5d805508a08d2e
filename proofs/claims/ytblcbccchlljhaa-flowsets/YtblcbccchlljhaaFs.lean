/- The row of facts, built one by one: sets. -/
import Derived.Test.YtblcbccchlljhaaSe
namespace Go.Proofs.Ytblcbccchlljhaa.S
open Go.RowKit Ir Wy
/-- A fact in a block of its own. -/
def Fone (w : World) (h : Nat) (f : Fc) : Prop := ∃ cs, w.heap[h]? = some (.cells cs 40 (0, 0)) ∧ Bg.SetC cs f
/-- The first n facts, in a row of the call's own. -/
def FactsL (B : Nat) (w : World) (v : Value) (n : Nat) (fs : Nat → Fc) : Prop := ∃ xs, w.ownsRow B 40 64 v n xs ∧ Bg.SetsL xs n fs
theorem set_all {α : Type} : ∀ (xs pre ys : List α), ys.length = xs.length → (xs.zipIdx pre.length).foldl (fun (cs : Array α) (p : α × Nat) => cs.setIfInBounds (0 + p.2) p.1) (pre ++ ys).toArray = (pre ++ xs).toArray
  | [], pre, ys, h => by
    have : ys = [] := List.eq_nil_of_length_eq_zero (by simpa using h)
    subst this
    simp
  | x :: xs, pre, [], h => by simp at h
  | x :: xs, pre, y :: ys, h => by
    rw [List.zipIdx_cons, List.foldl_cons]
    have e : (pre ++ y :: ys).toArray.setIfInBounds (0 + pre.length) x = (pre ++ [x] ++ ys).toArray := by
      simp
    have hl : pre.length + 1 = (pre ++ [x]).length := by simp
    rw [e, hl, set_all xs (pre ++ [x]) ys (by simpa using h)]
    simp
theorem fill_one (cs Z : Array Value) (h : cs.size = 64) (hZ : Z.size = 64) : Instr.fill (fun i => some (i * 64, 64)) Z [(0, .agg cs)] = some cs := by
  have hc : (Value.agg cs).cells = cs := rfl
  simp only [Instr.fill, hc, h, hZ, Nat.zero_mul, Nat.zero_add]
  have := set_all cs.toList [] Z.toList (by simp [h, hZ])
  simp only [List.length_nil, List.nil_append, Array.toArray_toList] at this
  rw [← Array.foldl_toList, Array.toList_zipIdx]
  simpa using this
theorem run_one (cs : Array Value) (w : World) (h : cs.size = 64) : (Instr.buildSlice 35 1 #[(0, .agg cs)]).run Try.prog w = .ok (.slice (some ⟨w.heap.size, 0, none⟩) 1 1) (w.alloc (.cells cs 40)) := by
  have hi := Bg.info27
  obtain ⟨i, hi1, hi2⟩ := Option.map_eq_some_iff.1 hi
  have hf := fill_one cs ((Array.range (1 * 64)).map fun x => (Value.agg Bg.z64).cells[x % (Value.agg Bg.z64).cells.size]!) h (by simp)
  have hs : (sizeOf 40).run Try.prog w = .ok 64 w := by rw [run_sizeOf w hi1]; exact congrArg (Result.ok · w) (by kernel_rfl : Try.prog.cellsOf 40 = 64)
  have hz := Bg.z27 w
  generalize Bg.z64 = z at hf hz
  simp only [Instr.buildSlice, Sem.run_bind, run_underlying Try.underlying35, Result.andThen_ok, hs]
  rw [if_neg (by omega)]
  rw [if_neg (by omega)]
  simp only [Sem.run_bind, hz, Sem.run_pure, Result.andThen_ok, hf]
  rfl
section
variable {ops : Array Oper} {rest : List Oper} {o : Oper} {a : Act} {w : World} {Q : Exit → Act → World → Prop} {B n : Nat} {v : Value} {fs gs : Nat → Fc}
theorem wpList_one (hg : o.guard = none) (x : Operand) (ho : o.op = .buildSlice 35 1 #[(0, x)]) {f : Fc} {u : Value} (hx : a.eval x = u) (hu : FV u f) (hK : ∀ (h : Nat) (w' : World), Hid (Fone w' h f ∧ h = w.heap.size ∧ Below w.heap.size w w') → wpList Try.prog ops Q rest (a.put o.dst (.slice (some ⟨h, 0, none⟩) 1 1)) w') : wpList Try.prog ops Q (o :: rest) a w := by
  obtain ⟨cs, rfl, hc⟩ := hu
  refine Bg.wpList_is hg ?_ (hK _ _ ⟨⟨cs, heap_alloc_new w _, hc⟩, rfl, bel1' w _⟩)
  unfold execOp
  simp only [ho, List.map_toArray, List.map_cons, List.map_nil, hx, run_one cs w hc.1, Sem.run_bind, Result.andThen_ok]
  rfl
theorem info40z : (Try.prog.info? 40).map (fun i => (i.zero, i.size, i.bytes)) = some (some (.agg Bg.z64), 64, 512) := by kernel_rfl
theorem wpList_snoc (s y : Operand) (hgd : o.guard = none) (ho : o.op = .call { callee := .builtin .append, args := #[s, y], argTypes := #[35, 35] }) {h : Nat} (hO : FactsL B w v n fs) (hh : Fone w h (fs n)) (hs : a.eval s = v) (hy : a.eval y = .slice (some ⟨h, 0, none⟩) 1 1) (hn : n ≤ 1000) (hB : B ≤ w.heap.size)
    (hK : ∀ v' w', Hid (FactsL B w' v' (n + 1) fs) → Hid (w.grownBy w' v.ownBlock) → wpList Try.prog ops Q rest (a.put o.dst v') w') : wpList Try.prog ops Q (o :: rest) a w := by
  refine wpList_plain hgd fun _ hK' => ?_
  obtain ⟨i, hi, hz, hsize, hby⟩ := info_parts info40z
  obtain ⟨xs, h1, h2⟩ := hO
  obtain ⟨cs, h3, h4⟩ := hh
  obtain ⟨v', w', hr, k1, k2, _⟩ := run_append_own (P := Try.prog) w B 35 o.type 40 i (.agg Bg.z64) 64 512 Try.underlying35 hi hz hsize hby (by rfl) (by decide) v n xs h1 ⟨h, 0, none⟩ 1 1 cs.toList (by simp [h4.1]) (fun j u hj => by
    rw [Addr.add_lit, Nat.zero_add, cell_of_row _ _ _ _ _ _ h3]
    simpa using hj) (fun u hu => by
    obtain ⟨j, hj, rfl⟩ := List.getElem_of_mem hu
    obtain ⟨x, hx, _⟩ := h4.2 j (by rw [Array.length_toList, h4.1] at hj; exact hj)
    have : cs.toList[j]? = some (.int .u64 x) := by simpa using hx
    rw [List.getElem?_eq_getElem hj] at this
    simp only [Option.some.injEq] at this
    rw [this]
    rfl) (by unfold maxLen; omega) (by omega) hB
  unfold Oper.wp execOp
  simp only [ho, resolve, invoke, builtin, Sem.run_bind, Sem.run_pure, Result.andThen_ok, List.map_toArray, List.map_cons, List.map_nil, hs, hy, hr]
  exact hK' _ _ (hK v' w' ⟨_, k1, h2.snoc h4⟩ k2)
end
theorem FactsL.nil (B : Nat) (w : World) (fs : Nat → Fc) : FactsL B w (.slice none 0 0) 0 fs := ⟨[], World.ownsRow_nil _ _ _ _, Bg.SetsL.nil fs⟩
theorem FactsL.lt {B n : Nat} {w : World} {v : Value} {fs : Nat → Fc} (h : FactsL B w v n fs) : ∀ k, v.ownBlock = some k → B ≤ k ∧ k < w.heap.size := by
  obtain ⟨xs, h1, _⟩ := h
  exact h1.lt
theorem FactsL.below {B n : Nat} {w w' : World} {v : Value} {fs : Nat → Fc} (h : FactsL B w v n fs) (hB : Below w.heap.size w w') : FactsL B w' v n fs := by
  obtain ⟨xs, h1, h2⟩ := h
  exact ⟨xs, owns_below h1 hB, h2⟩
theorem FactsL.slice {B n : Nat} {w : World} {v : Value} {fs : Nat → Fc} (h : FactsL B w v n fs) : ∃ ao cap, v = .slice ao n cap := by
  obtain ⟨xs, h1, h2⟩ := h
  rcases h1.2 with ⟨rfl, rfl⟩ | ⟨g, cap, cur, rfl, _⟩
  · exact ⟨_, _, rfl⟩
  · exact ⟨_, _, rfl⟩
theorem FactsL.at {B n : Nat} {w : World} {v : Value} {fs : Nat → Fc} (h : FactsL B w v n fs) (h0 : 0 < n) : ∃ g cap, v = .slice (some ⟨g, 0, none⟩) n cap ∧ B ≤ g ∧ g < w.heap.size ∧ FactsAt w g n fs := by
  obtain ⟨xs, h1, h2⟩ := h
  have hl := h1.lt
  rcases h1.2 with ⟨_, e⟩ | ⟨g, cap, cur, rfl, _⟩
  · omega
  · exact ⟨g, cap, rfl, (hl g rfl).1, (hl g rfl).2, fun j hj => h2.at h1 j hj⟩
end Go.Proofs.Ytblcbccchlljhaa.S
