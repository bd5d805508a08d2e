/- The great structs: zero values, how they are built. -/
import Derived.Test.YtepmbkiojpffpaaLd
import Derived.Deep.WholeRow
import Derived.Deep.MidRow
namespace Go.Proofs.Ytepmbkiojpffpaa
open Go.RowKit Ir

def z64 : List Int := List.replicate 64 0
def out0 (left : Int) : List Value := outL 0 0 (.slice none 0 0) z64 left
def row0 (r : Int) (av : Value) : List Value := rowL 0 0 (.slice none 0 0) z64 0 r (.slice none 0 0) av
theorem zero37 : (Try.prog.info? 37).map (fun i => (i.zero, i.size)) = some (some (.agg (out0 0).toArray), 68) := by kernel_rfl
theorem zero86 : (Try.prog.info? 88).map (fun i => (i.zero, i.size)) = some (some (.agg (row0 0 (.slice none 0 0)).toArray), 71) := by kernel_rfl
theorem build86 (r : Int) (aa : Option Addr) (an ac : Nat) (W : World) : (Instr.build 88 #[(1, .int .i64 r), (3, .slice aa an ac)]).run Try.prog W = .ok (.agg (row0 r (.slice aa an ac)).toArray) W := by kernel_rfl
theorem build37 (left : Int) (W : World) : (Instr.build 37 #[(4, .int .i64 left)]).run Try.prog W = .ok (.agg (out0 left).toArray) W := by kernel_rfl
theorem build37z (W : World) : (Instr.build 37 #[]).run Try.prog W = .ok (.agg (out0 0).toArray) W := by kernel_rfl
section
variable {P : Program} {ops : Array Oper} {rest : List Oper} {o : Oper} {a : Act} {w : World} {Q : Exit → Act → World → Prop}
theorem wpList_is {v : Value} {w' : World} (hgd : o.guard = none) (h : (execOp a.eval o).run P w = .ok (.value v) w') (hK : wpList P ops Q rest (a.put o.dst v) w') : wpList P ops Q (o :: rest) a w := by
  refine wpList_plain hgd fun K hK' => ?_
  unfold Oper.wp
  rw [h]
  exact hK' _ _ hK
theorem wpList_does {w' : World} (hgd : o.guard = none) (h : (execOp a.eval o).run P w = .ok .skip w') (hK : wpList P ops Q rest (a.put o.dst undef) w') : wpList P ops Q (o :: rest) a w := by
  refine wpList_plain hgd fun K hK' => ?_
  unfold Oper.wp
  rw [h]
  exact hK' _ _ hK
end
section
variable {ops : Array Oper} {rest : List Oper} {o : Oper} {a : Act} {w : World} {Q : Exit → Act → World → Prop}
/-- A struct is built out of two parts, of one, of none. -/
theorem wpList_build2 (hgd : o.guard = none) (t : TypeId) (i j : Nat) (x y : Operand) (ho : o.op = .build t #[(i, x), (j, y)]) (vx vy V : Value) (hx : a.eval x = vx) (hy : a.eval y = vy) (hb : (Instr.build t #[(i, vx), (j, vy)]).run Try.prog w = .ok V w) (hK : wpList Try.prog ops Q rest (a.put o.dst V) w) : wpList Try.prog ops Q (o :: rest) a w := by
  refine wpList_is hgd ?_ hK
  unfold execOp
  simp only [ho, List.map_toArray, List.map_cons, List.map_nil, hx, hy, Sem.run_bind, hb, Result.andThen_ok, Sem.run_pure]
theorem wpList_build1 (hgd : o.guard = none) (t : TypeId) (i : Nat) (x : Operand) (ho : o.op = .build t #[(i, x)]) (vx V : Value) (hx : a.eval x = vx) (hb : (Instr.build t #[(i, vx)]).run Try.prog w = .ok V w) (hK : wpList Try.prog ops Q rest (a.put o.dst V) w) : wpList Try.prog ops Q (o :: rest) a w := by
  refine wpList_is hgd ?_ hK
  unfold execOp
  simp only [ho, List.map_toArray, List.map_cons, List.map_nil, hx, Sem.run_bind, hb, Result.andThen_ok, Sem.run_pure]
theorem wpList_build0 (hgd : o.guard = none) (t : TypeId) (ho : o.op = .build t #[]) (V : Value) (hb : (Instr.build t #[]).run Try.prog w = .ok V w) (hK : wpList Try.prog ops Q rest (a.put o.dst V) w) : wpList Try.prog ops Q (o :: rest) a w := by
  refine wpList_is hgd ?_ hK
  unfold execOp
  simp only [ho, List.map_toArray, List.map_nil, Sem.run_bind, hb, Result.andThen_ok, Sem.run_pure]
/-- A new block. -/
theorem wpList_alloc (hgd : o.guard = none) (t : TypeId) (ho : o.op = .alloc t) (Z : Array Value) (hz : ∀ W, (zeroValue t).run Try.prog W = .ok (.agg Z) W) (hK : wpList Try.prog ops Q rest (a.put o.dst (.pointer (some ⟨w.heap.size, 0, none⟩))) (w.alloc (.cells Z t))) : wpList Try.prog ops Q (o :: rest) a w := by
  refine wpList_is hgd ?_ hK
  unfold execOp
  simp only [ho, Instr.alloc, Sem.run_bind, hz, Result.andThen_ok]
  rfl
/-- The same, with letters for the block and the world. -/
theorem wpList_alloc' (hgd : o.guard = none) (t : TypeId) (ho : o.op = .alloc t) (Z : Array Value) (hz : ∀ W, (zeroValue t).run Try.prog W = .ok (.agg Z) W) (hK : ∀ (g : Nat) (w' : World), Hid (g = w.heap.size ∧ w'.heap[g]? = some (Obj.cells Z t (0, 0)) ∧ Below g w w') → wpList Try.prog ops Q rest (a.put o.dst (.pointer (some ⟨g, 0, none⟩))) w') : wpList Try.prog ops Q (o :: rest) a w :=
  wpList_alloc hgd t ho Z hz (hK _ _ ⟨rfl, heap_alloc_new w _, bel1' w _⟩)
/-- A whole block is stored. -/
theorem wpList_store_whole (hgd : o.guard = none) (ty : TypeId) (x y : Operand) (ho : o.op = .store ty x y) (g : Nat) (t : TypeId) (old cells : Array Value) (hx : a.eval x = .pointer (some ⟨g, 0, none⟩)) (hy : a.eval y = .agg cells) (hg : w.heap[g]? = some (Obj.cells old t (0, 0))) (hi : (Try.prog.info? ty).map (·.size) = some cells.size) (hs : old.size = cells.size) (h1 : ∀ v ∈ cells.toList, v.oneCell' = true)
    (B : Nat) (w0 : World) (hb : Below B w0 w) (hB : B ≤ g) (hK : ∀ w', Hid (w'.heap[g]? = some (Obj.cells cells t (0, 0))) → Hid (w.grownBy w' (some g)) → Hid (Below B w0 w') → wpList Try.prog ops Q rest (a.put o.dst undef) w') : wpList Try.prog ops Q (o :: rest) a w := by
  refine wpList_does hgd ?_ (hK (w.setRow g cells) (setRow_heap w g _ _ t _ hg) ⟨rfl, rfl, rfl, by simp [World.setRow], fun k _ hr => setRow_other w g k _ (fun e => hr (by rw [e]))⟩ (below_setRow hb hB _))
  unfold execOp
  simp only [ho, hx, hy, Instr.storeAt, Instr.sureAddr, Sem.run_bind, Sem.run_pure, Result.andThen_ok, run_storeVar_row w g t ty old cells hg hi hs (Array.all_eq_true_iff_forall_mem.2 fun v hv => h1 v (by simpa using hv))]
/-- A variable: a new block, and what is stored into it. -/
theorem wpList_var {o2 : Oper} (T : TypeId) (d : Tmp) (hg1 : o.guard = none) (hg2 : o2.guard = none) (ho : o.op = .alloc T) (hd : o.dst = some d) (y : Operand) (ho2 : o2.op = .store T (.tmp d) y) (hd2 : o2.dst = none) (Z cells : Array Value) (hz : ∀ W, (zeroValue T).run Try.prog W = .ok (.agg Z) W) (hdl : d < a.tmps.size) (hy : (a.put (some d) (.pointer (some ⟨w.heap.size, 0, none⟩))).eval y = .agg cells) (hi : (Try.prog.info? T).map (·.size) = some cells.size) (hs : Z.size = cells.size) (h1 : ∀ v ∈ cells.toList, v.oneCell' = true)
    (hK : ∀ (g : Nat) (w' : World), Hid (g = w.heap.size ∧ w'.heap[g]? = some (Obj.cells cells T (0, 0)) ∧ Below g w w') → wpList Try.prog ops Q rest (a.put (some d) (.pointer (some ⟨g, 0, none⟩))) w') : wpList Try.prog ops Q (o :: o2 :: rest) a w := by
  refine wpList_alloc hg1 T ho Z hz ?_
  rw [hd]
  refine wpList_store_whole hg2 T (.tmp d) y ho2 w.heap.size T Z cells (by simp [Act.put, Act.eval, hdl]) hy (heap_alloc_new w _) hi hs h1 w.heap.size w (bel1' w _) (Nat.le_refl _) fun w' h2 _ h4 => ?_
  rw [hd2]
  exact hK _ _ ⟨rfl, h2.out, h4.out⟩
end
theorem outL_one {how val : Int} {cv : Value} {mem : List Int} {left : Int} (h : cv.oneCell' = true) : ∀ v ∈ outL how val cv mem left, v.oneCell' = true := by
  intro v hv
  simp only [outL, List.mem_cons, List.mem_append, List.not_mem_nil, or_false] at hv
  rcases hv with rfl | rfl | rfl | hv | rfl
  · rfl
  · rfl
  · exact h
  · exact nums_one _ v hv
  · rfl
theorem rowL_one {how val : Int} {cv : Value} {mem : List Int} {left r : Int} {pv av : Value} (h : cv.oneCell' = true) (hp : pv.oneCell' = true) (ha : av.oneCell' = true) : ∀ v ∈ rowL how val cv mem left r pv av, v.oneCell' = true := by
  intro v hv
  simp only [rowL, List.mem_cons, List.mem_append, List.not_mem_nil, or_false] at hv
  rcases hv with hv | rfl | rfl | rfl
  · exact outL_one h v hv
  · rfl
  · exact hp
  · exact ha
end Go.Proofs.Ytepmbkiojpffpaa
