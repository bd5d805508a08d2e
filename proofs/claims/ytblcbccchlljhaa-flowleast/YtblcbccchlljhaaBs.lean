/- Sets of small numbers, models of 4096 truth values: how they lie in memory and in values; laws on whole blocks. -/
import Derived.Test.YtblcbccchlljhaaBm
import Derived.Test.YtblcbccchlljhaaChecked
import Derived.WalkSpells
import Derived.Below
import Derived.Laws.CopyOwn
import Derived.Laws.AppendOwnNone
import Derived.Deep.WholeRow
import Derived.Deep.MidRow
import Derived.Maps.AppendAt
import Derived.Maps.Range
import Derived.ChangeKeysEq
namespace Go.Proofs.Ytblcbccchlljhaa.Bg
open Go.RowKit Bag

theorem hide {p : Prop} (h : p) : Hid p := h
theorem gb_of {w w' : World} (h : Below w.heap.size w w') : w.grownBy w' none := ⟨h.os, h.tape, h.output, h.size, fun k hk _ => h.block k hk⟩
theorem gb_to {w w' : World} (h : w.grownBy w' none) : Below w.heap.size w w' := ⟨h.os, h.tape, h.output, h.size, fun k hk => h.block k hk (by simp)⟩
theorem gb_any {w w' : World} {r : Option Nat} (h : w.grownBy w' none) : w.grownBy w' r := ⟨h.os, h.tape, h.output, h.size, fun k hk _ => h.block k hk (by simp)⟩
theorem gb_drew (w : World) (r : Option Nat) : w.grownBy w.drew r := ⟨rfl, rfl, rfl, Nat.le_refl _, fun _ _ _ => rfl⟩
theorem gb_refl (w : World) (r : Option Nat) : w.grownBy w r := ⟨rfl, rfl, rfl, Nat.le_refl _, fun _ _ _ => rfl⟩
theorem gb_set (w : World) (b i : Nat) (v : Value) : w.grownBy (w.setCell ⟨b, i, none⟩ v) (some b) :=
  ⟨rfl, rfl, rfl, by simp [World.setCell], fun k _ h => Below.heap_setCell _ _ _ _ (fun e => h (by rw [e]))⟩
theorem bel_of {w w1 w2 : World} (h1 : Below w.heap.size w w1) (h2 : Below w1.heap.size w1 w2) : Below w.heap.size w w2 := h1.trans (h2.mono h1.size)
theorem bel_to {B : Nat} {w w1 w2 : World} (h1 : Below B w w1) (h2 : Below w1.heap.size w1 w2) (hB : B ≤ w1.heap.size) : Below B w w2 := h1.trans (h2.mono hB)
theorem bel_gb {B : Nat} {w w1 w2 : World} {r : Option Nat} (h1 : Below B w w1) (h2 : w1.grownBy w2 r) (hB : B ≤ w1.heap.size) (hr : ∀ k, r = some k → B ≤ k) : Below B w w2 := h1.grown h2 hB hr
theorem cell_below {w w' : World} (hB : Below w.heap.size w w') {b off : Nat} {u : Value} (h : w.cell? ⟨b, off, none⟩ = some u) : w'.cell? ⟨b, off, none⟩ = some u :=
  (hB.cell (p := ⟨b, off, none⟩) (World.block_lt_of_cell? w _ h)).trans h
theorem bel1' (w : World) (o : Obj) : Below w.heap.size w (w.alloc o) := (Below.refl _ _).alloc (Nat.le_refl _) o

/-! ### Laws on operations -/
section
variable {P : Program} {ops : Array Oper} {rest : List Oper} {o : Oper} {a : Act} {w : World} {Q : Exit → Act → World → Prop}
theorem wpList_is {v : Value} {w' : World} (hgd : o.guard = none) (h : (execOp a.eval o).run P w = .ok (.value v) w') (hK : wpList P ops Q rest (a.put o.dst v) w') : wpList P ops Q (o :: rest) a w := by
  refine wpList_plain hgd fun K hK' => ?_
  unfold Oper.wp
  rw [h]
  exact hK' _ _ hK
theorem wpList_does {w' : World} (hgd : o.guard = none) (h : (execOp a.eval o).run P w = .ok .skip w') (hK : wpList P ops Q rest (a.put o.dst undef) w') : wpList P ops Q (o :: rest) a w := by
  refine wpList_plain hgd fun K hK' => ?_
  unfold Oper.wp
  rw [h]
  exact hK' _ _ hK
/-- A new block. -/
theorem wpList_alloc (hgd : o.guard = none) (t : TypeId) (ho : o.op = .alloc t) (Z : Array Value) (hz : ∀ W, (zeroValue t).run P W = .ok (.agg Z) W) (hK : wpList P ops Q rest (a.put o.dst (.pointer (some ⟨w.heap.size, 0, none⟩))) (w.alloc (.cells Z t))) : wpList P ops Q (o :: rest) a w := by
  refine wpList_is hgd ?_ hK
  unfold execOp
  simp only [ho, Instr.alloc, Sem.run_bind, hz, Result.andThen_ok]
  rfl
/-- The same, with letters for the block and the world. -/
theorem wpList_alloc' (hgd : o.guard = none) (t : TypeId) (ho : o.op = .alloc t) (Z : Array Value) (hz : ∀ W, (zeroValue t).run P W = .ok (.agg Z) W) (hK : ∀ (g : Nat) (w' : World), Hid (g = w.heap.size ∧ w'.heap[g]? = some (Obj.cells Z t (0, 0)) ∧ Below g w w') → wpList P ops Q rest (a.put o.dst (.pointer (some ⟨g, 0, none⟩))) w') : wpList P ops Q (o :: rest) a w :=
  wpList_alloc hgd t ho Z hz (hK _ _ ⟨rfl, heap_alloc_new w _, bel1' w _⟩)
/-- A value's box. -/
theorem wpList_box' (hgd : o.guard = none) (t : TypeId) (x : Operand) (ho : o.op = .box t x) (Z : Array Value) (hx : a.eval x = .agg Z) (hK : ∀ (g : Nat) (w' : World), Hid (g = w.heap.size ∧ w'.heap[g]? = some (Obj.cells Z t (0, 0)) ∧ Below g w w') → wpList P ops Q rest (a.put o.dst (.pointer (some ⟨g, 0, none⟩))) w') : wpList P ops Q (o :: rest) a w := by
  refine wpList_is hgd ?_ (hK _ _ ⟨rfl, heap_alloc_new w _, bel1' w (.cells Z t)⟩)
  unfold execOp
  simp only [ho, hx, Instr.box, newVar, newRow, Sem.run_bind, run_newObj_alloc, Result.andThen_ok, Sem.run_pure]
  rfl
/-- A whole block is loaded. -/
theorem wpList_load_row (hgd : o.guard = none) (ty : TypeId) (x : Operand) (ho : o.op = .load ty x) (g : Nat) (hx : a.eval x = .pointer (some ⟨g, 0, none⟩)) (t : TypeId) (cs : Array Value) (d : TypeDesc) (hg : w.heap[g]? = some (.cells cs t (0, 0)))
    (hu : P.underlying ty = some d) (hd : d.isRow = true) (hi : (P.info? ty).map (·.size) = some cs.size) (hK : wpList P ops Q rest (a.put o.dst (.agg cs)) w) : wpList P ops Q (o :: rest) a w := by
  refine wpList_is hgd ?_ hK
  unfold execOp
  have hc : w.rangeAt g 0 cs.toList := fun j v hv => by
    rw [Nat.zero_add, cell_of_row w g j cs t _ hg]
    simpa using hv
  have hr := run_loadVar_mid (P := P) w g 0 ty cs.toList d hc hu hd (by simpa using hi)
  rw [Array.toArray_toList] at hr
  simp only [ho, hx, Instr.loadAt, Instr.sureAddr, Sem.run_bind, Sem.run_pure, Result.andThen_ok, hr]
/-- A whole block is stored. -/
theorem wpList_store_whole (hgd : o.guard = none) (ty : TypeId) (x y : Operand) (ho : o.op = .store ty x y) (g : Nat) (t : TypeId) (old cells : Array Value) (hx : a.eval x = .pointer (some ⟨g, 0, none⟩)) (hy : a.eval y = .agg cells) (hg : w.heap[g]? = some (Obj.cells old t (0, 0))) (hi : (P.info? ty).map (·.size) = some cells.size) (hs : old.size = cells.size) (h1 : ∀ v ∈ cells.toList, v.oneCell' = true)
    (hK : ∀ w', Hid (w'.heap[g]? = some (Obj.cells cells t (0, 0))) → Hid (w.grownBy w' (some g)) → Hid (w'.heap.size = w.heap.size) → wpList P ops Q rest (a.put o.dst undef) w') : wpList P ops Q (o :: rest) a w := by
  refine wpList_does hgd ?_ (hK (w.setRow g cells) (setRow_heap w g _ _ t _ hg) ⟨rfl, rfl, rfl, by simp [World.setRow], fun k _ hr => setRow_other w g k _ (fun e => hr (by rw [e]))⟩ (hide (by simp [World.setRow])))
  unfold execOp
  simp only [ho, hx, hy, Instr.storeAt, Instr.sureAddr, Sem.run_bind, Sem.run_pure, Result.andThen_ok, run_storeVar_row w g t ty old cells hg hi hs (Array.all_eq_true_iff_forall_mem.2 fun v hv => h1 v (by simpa using hv))]
/-- A variable: a new block, and what is stored into it. -/
theorem wpList_var {o2 : Oper} (T : TypeId) (d : Tmp) (hg1 : o.guard = none) (hg2 : o2.guard = none) (ho : o.op = .alloc T) (hd : o.dst = some d) (y : Operand) (ho2 : o2.op = .store T (.tmp d) y) (hd2 : o2.dst = none) (Z cells : Array Value) (hz : ∀ W, (zeroValue T).run P W = .ok (.agg Z) W) (hdl : d < a.tmps.size) (hy : (a.put (some d) (.pointer (some ⟨w.heap.size, 0, none⟩))).eval y = .agg cells) (hi : (P.info? T).map (·.size) = some cells.size) (hs : Z.size = cells.size) (h1 : ∀ v ∈ cells.toList, v.oneCell' = true)
    (hK : ∀ (g : Nat) (w' : World), Hid (g = w.heap.size ∧ w'.heap[g]? = some (Obj.cells cells T (0, 0)) ∧ Below g w w') → wpList P ops Q rest (a.put (some d) (.pointer (some ⟨g, 0, none⟩))) w') : wpList P ops Q (o :: o2 :: rest) a w := by
  refine wpList_alloc hg1 T ho Z hz ?_
  rw [hd]
  refine wpList_store_whole hg2 T (.tmp d) y ho2 w.heap.size T Z cells (by simp [Act.put, Act.eval, hdl]) hy (heap_alloc_new w _) hi hs h1 fun w' h2 h3 _ => ?_
  rw [hd2]
  exact hK _ _ ⟨rfl, h2.out, (bel1' w _).grown h3.out (by simp) (fun k e => by cases e; exact Nat.le_refl _)⟩
end

/-! ### Sets -/
/-- These 64 cells tell the numbers that f has. -/
def SetC (cs : Array Value) (f : Nat → Bool) : Prop := cs.size = 64 ∧ ∀ i, i < 64 → ∃ x : Nat, cs[i]? = some (.int .u64 x) ∧ Word f i x
def SetV (v : Value) (f : Nat → Bool) : Prop := ∃ cs, v = .agg cs ∧ SetC cs f
def SetAt (w : World) (b : Nat) (f : Nat → Bool) : Prop := ∃ cs t, w.heap[b]? = some (.cells cs t (0, 0)) ∧ SetC cs f
theorem SetC.cells {cs : Array Value} {f : Nat → Bool} (h : SetC cs f) : ∀ v ∈ cs.toList, v.oneCell' = true := by
  intro v hv
  obtain ⟨i, hi, e⟩ := List.mem_iff_getElem.1 hv
  obtain ⟨x, hx, _⟩ := h.2 i (by rw [← h.1]; simpa using hi)
  have : cs.toList[i]? = some (.int .u64 x) := by simpa using hx
  rw [List.getElem?_eq_getElem hi, e] at this
  obtain rfl := Option.some.inj this
  rfl
theorem SetC.congr {cs : Array Value} {f g : Nat → Bool} (h : SetC cs f) (e : ∀ x, x < 4096 → f x = g x) : SetC cs g :=
  ⟨h.1, fun i hi => by obtain ⟨x, hx, hw⟩ := h.2 i hi; exact ⟨x, hx, word_congr hw fun j hj => e _ (by omega)⟩⟩
theorem SetV.congr {v : Value} {f g : Nat → Bool} (h : SetV v f) (e : ∀ x, x < 4096 → f x = g x) : SetV v g := by
  obtain ⟨cs, rfl, h⟩ := h
  exact ⟨cs, rfl, h.congr e⟩
theorem SetAt.congr {w : World} {b : Nat} {f g : Nat → Bool} (h : SetAt w b f) (e : ∀ x, x < 4096 → f x = g x) : SetAt w b g := by
  obtain ⟨cs, t, h1, h⟩ := h
  exact ⟨cs, t, h1, h.congr e⟩
theorem SetAt.lt {w : World} {b : Nat} {f : Nat → Bool} (h : SetAt w b f) : b < w.heap.size := by
  obtain ⟨cs, t, h1, _⟩ := h
  exact (Array.getElem?_eq_some_iff.1 h1).1
theorem SetAt.kept {w w' : World} {b : Nat} {f : Nat → Bool} {r : Option Nat} (h : SetAt w b f) (hg : w.grownBy w' r) (hne : some b ≠ r) : SetAt w' b f := by
  obtain ⟨cs, t, h1, h2⟩ := h
  exact ⟨cs, t, by rw [hg.block b (Array.getElem?_eq_some_iff.1 h1).1 hne]; exact h1, h2⟩
theorem SetAt.below {w w' : World} {b : Nat} {f : Nat → Bool} (h : SetAt w b f) (hB : Below w.heap.size w w') : SetAt w' b f := h.kept (gb_of hB) (by simp)
theorem SetAt.cell {w : World} {b : Nat} {f : Nat → Bool} (h : SetAt w b f) (i : Nat) (hi : i < 64) : ∃ x : Nat, w.cell? ⟨b, i, none⟩ = some (.int .u64 x) ∧ w.frozen? ⟨b, i, none⟩ = false ∧ Word f i x := by
  obtain ⟨cs, t, h1, h2⟩ := h
  obtain ⟨x, hx, hw⟩ := h2.2 i hi
  exact ⟨x, by rw [cell_of_row w b i cs t _ h1, hx], by simp [World.frozen?, h1], hw⟩
/-- One word is written. -/
theorem SetAt.set {w : World} {b : Nat} {f : Nat → Bool} (h : SetAt w b f) (i : Nat) (hi : i < 64) (y : Nat) (g : Nat → Bool) (hy : Word g i y) (he : ∀ j, j < 64 → j ≠ i → ∀ k, k < 64 → f (64 * j + k) = g (64 * j + k)) :
    SetAt (w.setCell ⟨b, i, none⟩ (.int .u64 y)) b g := by
  obtain ⟨cs, t, h1, h2⟩ := h
  refine ⟨cs.setIfInBounds i (.int .u64 y), t, ?_, ?_, ?_⟩
  · simp [World.setCell, Array.getElem?_modify, h1]
  · simp [h2.1]
  · intro j hj
    by_cases e : i = j
    · subst e
      exact ⟨y, by simp [h2.1, hi], hy⟩
    · obtain ⟨x, hx, hw⟩ := h2.2 j hj
      exact ⟨x, by rw [Array.getElem?_setIfInBounds_ne e, hx], word_congr hw fun k hk => he j hj (fun e' => e e'.symm) k hk⟩
theorem SetV.zero : SetC (Array.replicate 64 (.int .u64 0)) (fun _ => false) :=
  ⟨by simp, fun i hi => ⟨0, by simp [hi], word_zero i⟩⟩

/-! ### Models -/
def ModC (cs : Array Value) (f : Nat → Bool) : Prop := cs.size = 4096 ∧ ∀ i, i < 4096 → cs[i]? = some (.bool (f i))
def ModAt (w : World) (b : Nat) (f : Nat → Bool) : Prop := ∃ cs t, w.heap[b]? = some (.cells cs t (0, 0)) ∧ ModC cs f
theorem ModAt.lt {w : World} {b : Nat} {f : Nat → Bool} (h : ModAt w b f) : b < w.heap.size := by
  obtain ⟨cs, t, h1, _⟩ := h
  exact (Array.getElem?_eq_some_iff.1 h1).1
theorem ModAt.kept {w w' : World} {b : Nat} {f : Nat → Bool} {r : Option Nat} (h : ModAt w b f) (hg : w.grownBy w' r) (hne : some b ≠ r) : ModAt w' b f := by
  obtain ⟨cs, t, h1, h2⟩ := h
  exact ⟨cs, t, by rw [hg.block b (Array.getElem?_eq_some_iff.1 h1).1 hne]; exact h1, h2⟩
theorem ModAt.below {w w' : World} {b : Nat} {f : Nat → Bool} (h : ModAt w b f) (hB : Below w.heap.size w w') : ModAt w' b f := h.kept (gb_of hB) (by simp)
theorem ModAt.cell {w : World} {b : Nat} {f : Nat → Bool} (h : ModAt w b f) (i : Nat) (hi : i < 4096) : w.cell? ⟨b, i, none⟩ = some (.bool (f i)) ∧ w.frozen? ⟨b, i, none⟩ = false := by
  obtain ⟨cs, t, h1, h2⟩ := h
  exact ⟨by rw [cell_of_row w b i cs t _ h1, h2.2 i hi], by simp [World.frozen?, h1]⟩
theorem ModAt.congr {w : World} {b : Nat} {f g : Nat → Bool} (h : ModAt w b f) (e : ∀ x, x < 4096 → f x = g x) : ModAt w b g := by
  obtain ⟨cs, t, h1, h2⟩ := h
  exact ⟨cs, t, h1, h2.1, fun i hi => by rw [h2.2 i hi, e i hi]⟩
theorem ModAt.set {w : World} {b : Nat} {f : Nat → Bool} (h : ModAt w b f) (i : Nat) (v : Bool) : ModAt (w.setCell ⟨b, i, none⟩ (.bool v)) b (fun x => if x = i then v else f x) := by
  obtain ⟨cs, t, h1, h2⟩ := h
  refine ⟨cs.setIfInBounds i (.bool v), t, ?_, ?_, ?_⟩
  · simp [World.setCell, Array.getElem?_modify, h1]
  · simp [h2.1]
  · intro j hj
    by_cases e : i = j
    · subst e
      simp [h2.1, hj]
    · rw [Array.getElem?_setIfInBounds_ne e, h2.2 j hj]
      have e' : ¬ j = i := fun x => e x.symm
      simp [e']
theorem ModC.zero : ModC (Array.replicate 4096 (.bool false)) (fun _ => false) :=
  ⟨by simp, fun i hi => by simp [hi]⟩
end Go.Proofs.Ytblcbccchlljhaa.Bg
