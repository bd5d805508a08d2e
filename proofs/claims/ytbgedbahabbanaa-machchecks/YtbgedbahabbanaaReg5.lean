/- Regions of layer 5's Made that draw their order, each over any activation. -/
import Derived.Test.YtbgedbahabbanaaI5
namespace Go.Proofs.Ytbgedbahabbanaa
open Go Go.RowKit Ir

/-- Seven cells stored one behind the other. -/
def put7 (W : World) (g : Nat) (X : Ins) (u : Value) : World := ((((((W.setCell ⟨g, 0, none⟩ (.int .u8 X.k)).setCell ⟨g, 1, none⟩ (.int .u8 X.op)).setCell ⟨g, 2, none⟩ (.int .i64 X.d)).setCell ⟨g, 3, none⟩ (.int .i64 X.a)).setCell ⟨g, 4, none⟩ (.int .i64 X.b)).setCell ⟨g, 5, none⟩ (.int .i64 X.n)).setCell ⟨g, 6, none⟩ u
theorem put7_row {W : World} {g : Nat} {X0 X : Ins} {u0 u : Value} (h : W.heap[g]? = some (Obj.cells (rowI X0 u0) 46 (0, 0))) : (put7 W g X u).heap[g]? = some (Obj.cells (rowI X u) 46 (0, 0)) := by
  have h0 := heap_setCell_same _ g 0 _ _ (.int .u8 X.k) h
  have h1 := heap_setCell_same _ g 1 _ _ (.int .u8 X.op) h0
  have h2 := heap_setCell_same _ g 2 _ _ (.int .i64 X.d) h1
  have h3 := heap_setCell_same _ g 3 _ _ (.int .i64 X.a) h2
  have h4 := heap_setCell_same _ g 4 _ _ (.int .i64 X.b) h3
  have h5 := heap_setCell_same _ g 5 _ _ (.int .i64 X.n) h4
  have h6 := heap_setCell_same _ g 6 _ _ u h5
  unfold put7
  rw [h6]
  simp [rowI]
theorem put7_below {B : Nat} {w W : World} {g : Nat} (h : Below B w W) (hg : B ≤ g) (X : Ins) (u : Value) : Below B w (put7 W g X u) :=
  ((((((h.setCell (p := ⟨g, 0, none⟩) hg _).setCell (p := ⟨g, 1, none⟩) hg _).setCell (p := ⟨g, 2, none⟩) hg _).setCell (p := ⟨g, 3, none⟩) hg _).setCell (p := ⟨g, 4, none⟩) hg _).setCell (p := ⟨g, 5, none⟩) hg _).setCell (p := ⟨g, 6, none⟩) hg _
theorem row_cells {W : World} {g : Nat} {X : Ins} {u : Value} (h : W.heap[g]? = some (Obj.cells (rowI X u) 46 (0, 0))) : InsCells W g 0 X u := by
  refine ⟨?_, ?_, ?_, ?_, ?_, ?_, ?_⟩
  all_goals (rw [cell_of_row _ _ _ _ _ _ h]; rfl)
theorem run_store46 {a : Act} {o : Oper} {x y : Operand} {W : World} {g : Nat} {X0 X : Ins} (hop : o.op = .store 46 x y) (ex : a.eval x = .pointer (some ⟨g, 0, none⟩)) (ey : a.eval y = insV X (.slice none 0 0)) (h : W.heap[g]? = some (Obj.cells (rowI X0 (.slice none 0 0)) 46 (0, 0))) :
    (execOp a.eval o).run Try.prog W = .ok .skip (put7 W g X (.slice none 0 0)) := by
  obtain ⟨c0, c1, c2, c3, c4, c5, c6⟩ := (row_cells h).zero
  have f0 := frozen_of_row _ _ 0 _ _ h
  have f1 := frozen_of_row _ _ 1 _ _ h
  have f2 := frozen_of_row _ _ 2 _ _ h
  have f3 := frozen_of_row _ _ 3 _ _ h
  have f4 := frozen_of_row _ _ 4 _ _ h
  have f5 := frozen_of_row _ _ 5 _ _ h
  have f6 := frozen_of_row _ _ 6 _ _ h
  unfold insV at ey
  unfold put7
  generalize a.eval = ρ at ex ey ⊢
  unfold execOp
  rw [hop]
  simp only [ex, ey]
  go_simp
def ops27 : Array Oper := #[{ dst := some 143, op := Op.fieldAddr 24 (Operand.tmp 9) 3, type := 0, pos := "law.go:39", after := #[], guard := none }, { dst := some 144, op := Op.load 22 (Operand.tmp 143), type := 22, pos := "law.go:39", after := #[{ on := 0, ground := Ground.data }], guard := none }, { dst := some 145, op := Op.move (Operand.tmp 3), type := 25, pos := "law.go:39", after := #[], guard := none }, { dst := some 146, op := Op.move (Operand.tmp 17), type := 3, pos := "law.go:39", after := #[], guard := none }, { dst := some 147, op := Op.indexAddr 25 (Operand.tmp 145) (Operand.tmp 146), type := 0, pos := "law.go:39", after := #[{ on := 2, ground := Ground.data }, { on := 3, ground := Ground.data }], guard := none }, { dst := some 148, op := Op.load 5 (Operand.tmp 147), type := 5, pos := "law.go:39", after := #[{ on := 4, ground := Ground.data }], guard := none }, { dst := some 149, op := Op.convert 5 3 (Operand.tmp 148), type := 3, pos := "law.go:39", after := #[{ on := 5, ground := Ground.data }], guard := none }, { dst := some 150, op := Op.fieldAddr 24 (Operand.tmp 9) 3, type := 0, pos := "law.go:39", after := #[], guard := none }, { dst := some 151, op := Op.load 22 (Operand.tmp 150), type := 22, pos := "law.go:39", after := #[{ on := 7, ground := Ground.data }], guard := none }, { dst := some 152, op := Op.call { callee := Callee.builtin Builtin.len, args := #[Operand.tmp 151], argTypes := #[22] }, type := 3, pos := "law.go:39", after := #[{ on := 8, ground := Ground.data }], guard := none }, { dst := some 153, op := Op.binOp BinOp.rem 3 (Operand.tmp 149) (Operand.tmp 152) 3, type := 3, pos := "law.go:39", after := #[{ on := 6, ground := Ground.data }, { on := 9, ground := Ground.data }], guard := none }, { dst := some 154, op := Op.indexAddr 22 (Operand.tmp 144) (Operand.tmp 153), type := 0, pos := "law.go:39", after := #[{ on := 1, ground := Ground.data }, { on := 10, ground := Ground.data }], guard := none }, { dst := some 18, op := Op.assign (Operand.tmp 154), type := 56, pos := "law.go:39", after := #[{ on := 11, ground := Ground.data }, { on := 0, ground := Ground.phase }, { on := 1, ground := Ground.phase }, { on := 2, ground := Ground.phase }, { on := 3, ground := Ground.phase }, { on := 4, ground := Ground.phase }, { on := 5, ground := Ground.phase }, { on := 6, ground := Ground.phase }, { on := 7, ground := Ground.phase }, { on := 8, ground := Ground.phase }, { on := 9, ground := Ground.phase }, { on := 10, ground := Ground.phase }, { on := 11, ground := Ground.phase }], guard := none }]
def ops28 : Array Oper := #[{ dst := some 155, op := Op.move (Operand.tmp 3), type := 25, pos := "law.go:40", after := #[], guard := none }, { dst := some 156, op := Op.move (Operand.tmp 17), type := 3, pos := "law.go:40", after := #[], guard := none }, { dst := some 157, op := Op.binOp BinOp.add 3 (Operand.tmp 156) (Operand.const (Value.int IntKind.i64 1)) 3, type := 3, pos := "law.go:40", after := #[{ on := 1, ground := Ground.data }], guard := none }, { dst := some 158, op := Op.indexAddr 25 (Operand.tmp 155) (Operand.tmp 157), type := 0, pos := "law.go:40", after := #[{ on := 0, ground := Ground.data }, { on := 2, ground := Ground.data }], guard := none }, { dst := some 159, op := Op.load 5 (Operand.tmp 158), type := 5, pos := "law.go:40", after := #[{ on := 3, ground := Ground.data }], guard := none }, { dst := some 160, op := Op.convert 5 3 (Operand.tmp 159), type := 3, pos := "law.go:40", after := #[{ on := 4, ground := Ground.data }], guard := none }, { dst := some 161, op := Op.fieldAddr 24 (Operand.tmp 9) 2, type := 0, pos := "law.go:40", after := #[], guard := none }, { dst := some 162, op := Op.load 3 (Operand.tmp 161), type := 3, pos := "law.go:40", after := #[{ on := 6, ground := Ground.data }], guard := none }, { dst := some 163, op := Op.binOp BinOp.rem 3 (Operand.tmp 160) (Operand.tmp 162) 3, type := 3, pos := "law.go:40", after := #[{ on := 5, ground := Ground.data }, { on := 7, ground := Ground.data }], guard := none }, { dst := some 164, op := Op.move (Operand.tmp 3), type := 25, pos := "law.go:40", after := #[], guard := none }, { dst := some 165, op := Op.move (Operand.tmp 17), type := 3, pos := "law.go:40", after := #[], guard := none }, { dst := some 166, op := Op.binOp BinOp.add 3 (Operand.tmp 165) (Operand.const (Value.int IntKind.i64 2)) 3, type := 3, pos := "law.go:40", after := #[{ on := 10, ground := Ground.data }], guard := none }, { dst := some 167, op := Op.indexAddr 25 (Operand.tmp 164) (Operand.tmp 166), type := 0, pos := "law.go:40", after := #[{ on := 9, ground := Ground.data }, { on := 11, ground := Ground.data }], guard := none }, { dst := some 168, op := Op.load 5 (Operand.tmp 167), type := 5, pos := "law.go:40", after := #[{ on := 12, ground := Ground.data }], guard := none }, { dst := some 169, op := Op.convert 5 3 (Operand.tmp 168), type := 3, pos := "law.go:40", after := #[{ on := 13, ground := Ground.data }], guard := none }, { dst := some 170, op := Op.fieldAddr 24 (Operand.tmp 9) 1, type := 0, pos := "law.go:40", after := #[], guard := none }, { dst := some 171, op := Op.load 3 (Operand.tmp 170), type := 3, pos := "law.go:40", after := #[{ on := 15, ground := Ground.data }], guard := none }, { dst := some 172, op := Op.binOp BinOp.rem 3 (Operand.tmp 169) (Operand.tmp 171) 3, type := 3, pos := "law.go:40", after := #[{ on := 14, ground := Ground.data }, { on := 16, ground := Ground.data }], guard := none }, { dst := some 173, op := Op.build 46 #[(0, Operand.const (Value.int IntKind.u8 7)), (2, Operand.tmp 163), (3, Operand.tmp 172)], type := 46, pos := "law.go:40", after := #[{ on := 8, ground := Ground.data }, { on := 17, ground := Ground.data }], guard := none }, { dst := some 19, op := Op.alloc 46, type := 0, pos := "law.go:40", after := #[], guard := none }, { dst := none, op := Op.store 46 (Operand.tmp 19) (Operand.tmp 173), type := 0, pos := "law.go:40", after := #[{ on := 19, ground := Ground.data }, { on := 18, ground := Ground.data }, { on := 0, ground := Ground.phase }, { on := 1, ground := Ground.phase }, { on := 2, ground := Ground.phase }, { on := 3, ground := Ground.phase }, { on := 4, ground := Ground.phase }, { on := 5, ground := Ground.phase }, { on := 6, ground := Ground.phase }, { on := 7, ground := Ground.phase }, { on := 8, ground := Ground.phase }, { on := 9, ground := Ground.phase }, { on := 10, ground := Ground.phase }, { on := 11, ground := Ground.phase }, { on := 12, ground := Ground.phase }, { on := 13, ground := Ground.phase }, { on := 14, ground := Ground.phase }, { on := 15, ground := Ground.phase }, { on := 16, ground := Ground.phase }, { on := 17, ground := Ground.phase }, { on := 18, ground := Ground.phase }, { on := 19, ground := Ground.phase }], guard := none }]
def ops30 : Array Oper := #[{ dst := some 180, op := Op.move (Operand.tmp 3), type := 25, pos := "law.go:42", after := #[], guard := none }, { dst := some 181, op := Op.move (Operand.tmp 17), type := 3, pos := "law.go:42", after := #[], guard := none }, { dst := some 182, op := Op.binOp BinOp.add 3 (Operand.tmp 181) (Operand.const (Value.int IntKind.i64 1)) 3, type := 3, pos := "law.go:42", after := #[{ on := 1, ground := Ground.data }], guard := none }, { dst := some 183, op := Op.indexAddr 25 (Operand.tmp 180) (Operand.tmp 182), type := 0, pos := "law.go:42", after := #[{ on := 0, ground := Ground.data }, { on := 2, ground := Ground.data }], guard := none }, { dst := some 184, op := Op.load 5 (Operand.tmp 183), type := 5, pos := "law.go:42", after := #[{ on := 3, ground := Ground.data }], guard := none }, { dst := some 185, op := Op.convert 5 3 (Operand.tmp 184), type := 3, pos := "law.go:42", after := #[{ on := 4, ground := Ground.data }], guard := none }, { dst := some 186, op := Op.fieldAddr 24 (Operand.tmp 9) 1, type := 0, pos := "law.go:42", after := #[], guard := none }, { dst := some 187, op := Op.load 3 (Operand.tmp 186), type := 3, pos := "law.go:42", after := #[{ on := 6, ground := Ground.data }], guard := none }, { dst := some 188, op := Op.binOp BinOp.rem 3 (Operand.tmp 185) (Operand.tmp 187) 3, type := 3, pos := "law.go:42", after := #[{ on := 5, ground := Ground.data }, { on := 7, ground := Ground.data }], guard := none }, { dst := some 189, op := Op.move (Operand.tmp 3), type := 25, pos := "law.go:42", after := #[], guard := none }, { dst := some 190, op := Op.move (Operand.tmp 17), type := 3, pos := "law.go:42", after := #[], guard := none }, { dst := some 191, op := Op.binOp BinOp.add 3 (Operand.tmp 190) (Operand.const (Value.int IntKind.i64 2)) 3, type := 3, pos := "law.go:42", after := #[{ on := 10, ground := Ground.data }], guard := none }, { dst := some 192, op := Op.indexAddr 25 (Operand.tmp 189) (Operand.tmp 191), type := 0, pos := "law.go:42", after := #[{ on := 9, ground := Ground.data }, { on := 11, ground := Ground.data }], guard := none }, { dst := some 193, op := Op.load 5 (Operand.tmp 192), type := 5, pos := "law.go:42", after := #[{ on := 12, ground := Ground.data }], guard := none }, { dst := some 194, op := Op.convert 5 3 (Operand.tmp 193), type := 3, pos := "law.go:42", after := #[{ on := 13, ground := Ground.data }], guard := none }, { dst := some 195, op := Op.fieldAddr 24 (Operand.tmp 9) 2, type := 0, pos := "law.go:42", after := #[], guard := none }, { dst := some 196, op := Op.load 3 (Operand.tmp 195), type := 3, pos := "law.go:42", after := #[{ on := 15, ground := Ground.data }], guard := none }, { dst := some 197, op := Op.binOp BinOp.rem 3 (Operand.tmp 194) (Operand.tmp 196) 3, type := 3, pos := "law.go:42", after := #[{ on := 14, ground := Ground.data }, { on := 16, ground := Ground.data }], guard := none }, { dst := some 198, op := Op.build 46 #[(0, Operand.const (Value.int IntKind.u8 8)), (2, Operand.tmp 188), (3, Operand.tmp 197)], type := 46, pos := "law.go:42", after := #[{ on := 8, ground := Ground.data }, { on := 17, ground := Ground.data }], guard := none }, { dst := none, op := Op.store 46 (Operand.tmp 19) (Operand.tmp 198), type := 0, pos := "law.go:42", after := #[{ on := 18, ground := Ground.data }, { on := 0, ground := Ground.phase }, { on := 1, ground := Ground.phase }, { on := 2, ground := Ground.phase }, { on := 3, ground := Ground.phase }, { on := 4, ground := Ground.phase }, { on := 5, ground := Ground.phase }, { on := 6, ground := Ground.phase }, { on := 7, ground := Ground.phase }, { on := 8, ground := Ground.phase }, { on := 9, ground := Ground.phase }, { on := 10, ground := Ground.phase }, { on := 11, ground := Ground.phase }, { on := 12, ground := Ground.phase }, { on := 13, ground := Ground.phase }, { on := 14, ground := Ground.phase }, { on := 15, ground := Ground.phase }, { on := 16, ground := Ground.phase }, { on := 17, ground := Ground.phase }, { on := 18, ground := Ground.phase }], guard := none }]
def ops31 : Array Oper := #[{ dst := some 199, op := Op.move (Operand.tmp 3), type := 25, pos := "law.go:44", after := #[], guard := none }, { dst := some 200, op := Op.move (Operand.tmp 17), type := 3, pos := "law.go:44", after := #[], guard := none }, { dst := some 201, op := Op.indexAddr 25 (Operand.tmp 199) (Operand.tmp 200), type := 0, pos := "law.go:44", after := #[{ on := 0, ground := Ground.data }, { on := 1, ground := Ground.data }], guard := none }, { dst := some 202, op := Op.load 5 (Operand.tmp 201), type := 5, pos := "law.go:44", after := #[{ on := 2, ground := Ground.data }], guard := none }, { dst := some 203, op := Op.binOp BinOp.quo 5 (Operand.tmp 202) (Operand.const (Value.int IntKind.u8 8)) 5, type := 5, pos := "law.go:44", after := #[{ on := 3, ground := Ground.data }], guard := none }, { dst := some 204, op := Op.convert 5 3 (Operand.tmp 203), type := 3, pos := "law.go:44", after := #[{ on := 4, ground := Ground.data }], guard := none }, { dst := some 205, op := Op.move (Operand.tmp 18), type := 56, pos := "law.go:44", after := #[], guard := none }, { dst := some 206, op := Op.nilCheck (Operand.tmp 205), type := 0, pos := "law.go:44", after := #[{ on := 6, ground := Ground.data }], guard := none }, { dst := some 207, op := Op.fieldAddr 41 (Operand.tmp 206) 0, type := 0, pos := "law.go:44", after := #[{ on := 7, ground := Ground.data }], guard := none }, { dst := some 208, op := Op.load 36 (Operand.tmp 207), type := 36, pos := "law.go:44", after := #[{ on := 8, ground := Ground.data }], guard := none }, { dst := some 209, op := Op.call { callee := Callee.builtin Builtin.len, args := #[Operand.tmp 208], argTypes := #[36] }, type := 3, pos := "law.go:44", after := #[{ on := 9, ground := Ground.data }], guard := none }, { dst := some 210, op := Op.binOp BinOp.add 3 (Operand.tmp 209) (Operand.const (Value.int IntKind.i64 1)) 3, type := 3, pos := "law.go:44", after := #[{ on := 10, ground := Ground.data }], guard := none }, { dst := some 211, op := Op.binOp BinOp.rem 3 (Operand.tmp 204) (Operand.tmp 210) 3, type := 3, pos := "law.go:44", after := #[{ on := 5, ground := Ground.data }, { on := 11, ground := Ground.data }], guard := none }, { dst := some 20, op := Op.assign (Operand.tmp 211), type := 3, pos := "law.go:44", after := #[{ on := 12, ground := Ground.data }, { on := 0, ground := Ground.phase }, { on := 1, ground := Ground.phase }, { on := 2, ground := Ground.phase }, { on := 3, ground := Ground.phase }, { on := 4, ground := Ground.phase }, { on := 5, ground := Ground.phase }, { on := 6, ground := Ground.phase }, { on := 7, ground := Ground.phase }, { on := 8, ground := Ground.phase }, { on := 9, ground := Ground.phase }, { on := 10, ground := Ground.phase }, { on := 11, ground := Ground.phase }, { on := 12, ground := Ground.phase }], guard := none }]
def ops32 : Array Oper := #[{ dst := some 212, op := Op.move (Operand.tmp 18), type := 56, pos := "law.go:45", after := #[], guard := none }, { dst := some 213, op := Op.buildSlice 36 0 #[], type := 36, pos := "law.go:45", after := #[], guard := none }, { dst := some 214, op := Op.move (Operand.tmp 18), type := 56, pos := "law.go:45", after := #[], guard := none }, { dst := some 215, op := Op.nilCheck (Operand.tmp 214), type := 0, pos := "law.go:45", after := #[{ on := 2, ground := Ground.data }], guard := none }, { dst := some 216, op := Op.fieldAddr 41 (Operand.tmp 215) 0, type := 0, pos := "law.go:45", after := #[{ on := 3, ground := Ground.data }], guard := none }, { dst := some 217, op := Op.load 36 (Operand.tmp 216), type := 36, pos := "law.go:45", after := #[{ on := 4, ground := Ground.data }], guard := none }, { dst := some 218, op := Op.move (Operand.tmp 20), type := 3, pos := "law.go:45", after := #[], guard := none }, { dst := some 219, op := Op.slice 36 (Operand.tmp 217) none (some (Operand.tmp 218)) none, type := 36, pos := "law.go:45", after := #[{ on := 5, ground := Ground.data }, { on := 6, ground := Ground.data }], guard := none }, { dst := some 220, op := Op.call { callee := Callee.builtin Builtin.append, args := #[Operand.tmp 213, Operand.tmp 219], argTypes := #[36, 36] }, type := 36, pos := "law.go:45", after := #[{ on := 1, ground := Ground.data }, { on := 7, ground := Ground.data }], guard := none }, { dst := some 221, op := Op.load 46 (Operand.tmp 19), type := 46, pos := "law.go:45", after := #[], guard := none }, { dst := some 222, op := Op.buildSlice 36 1 #[(0, Operand.tmp 221)], type := 36, pos := "law.go:45", after := #[{ on := 9, ground := Ground.data }], guard := none }, { dst := some 223, op := Op.call { callee := Callee.builtin Builtin.append, args := #[Operand.tmp 220, Operand.tmp 222], argTypes := #[36, 36] }, type := 36, pos := "law.go:45", after := #[{ on := 8, ground := Ground.data }, { on := 10, ground := Ground.data }, { on := 8, ground := Ground.chain }], guard := none }, { dst := some 224, op := Op.move (Operand.tmp 18), type := 56, pos := "law.go:45", after := #[], guard := none }, { dst := some 225, op := Op.nilCheck (Operand.tmp 224), type := 0, pos := "law.go:45", after := #[{ on := 12, ground := Ground.data }], guard := none }, { dst := some 226, op := Op.fieldAddr 41 (Operand.tmp 225) 0, type := 0, pos := "law.go:45", after := #[{ on := 13, ground := Ground.data }], guard := none }, { dst := some 227, op := Op.load 36 (Operand.tmp 226), type := 36, pos := "law.go:45", after := #[{ on := 14, ground := Ground.data }], guard := none }, { dst := some 228, op := Op.move (Operand.tmp 20), type := 3, pos := "law.go:45", after := #[], guard := none }, { dst := some 229, op := Op.slice 36 (Operand.tmp 227) (some (Operand.tmp 228)) none none, type := 36, pos := "law.go:45", after := #[{ on := 15, ground := Ground.data }, { on := 16, ground := Ground.data }], guard := none }, { dst := some 230, op := Op.call { callee := Callee.builtin Builtin.append, args := #[Operand.tmp 223, Operand.tmp 229], argTypes := #[36, 36] }, type := 36, pos := "law.go:45", after := #[{ on := 11, ground := Ground.data }, { on := 17, ground := Ground.data }, { on := 11, ground := Ground.chain }], guard := none }, { dst := some 231, op := Op.nilCheck (Operand.tmp 212), type := 0, pos := "law.go:45", after := #[{ on := 0, ground := Ground.data }, { on := 0, ground := Ground.phase }, { on := 1, ground := Ground.phase }, { on := 2, ground := Ground.phase }, { on := 3, ground := Ground.phase }, { on := 4, ground := Ground.phase }, { on := 5, ground := Ground.phase }, { on := 6, ground := Ground.phase }, { on := 7, ground := Ground.phase }, { on := 8, ground := Ground.phase }, { on := 9, ground := Ground.phase }, { on := 10, ground := Ground.phase }, { on := 11, ground := Ground.phase }, { on := 12, ground := Ground.phase }, { on := 13, ground := Ground.phase }, { on := 14, ground := Ground.phase }, { on := 15, ground := Ground.phase }, { on := 16, ground := Ground.phase }, { on := 17, ground := Ground.phase }, { on := 18, ground := Ground.phase }], guard := none }, { dst := some 232, op := Op.fieldAddr 41 (Operand.tmp 231) 0, type := 0, pos := "law.go:45", after := #[{ on := 19, ground := Ground.data }, { on := 0, ground := Ground.phase }, { on := 1, ground := Ground.phase }, { on := 2, ground := Ground.phase }, { on := 3, ground := Ground.phase }, { on := 4, ground := Ground.phase }, { on := 5, ground := Ground.phase }, { on := 6, ground := Ground.phase }, { on := 7, ground := Ground.phase }, { on := 8, ground := Ground.phase }, { on := 9, ground := Ground.phase }, { on := 10, ground := Ground.phase }, { on := 11, ground := Ground.phase }, { on := 12, ground := Ground.phase }, { on := 13, ground := Ground.phase }, { on := 14, ground := Ground.phase }, { on := 15, ground := Ground.phase }, { on := 16, ground := Ground.phase }, { on := 17, ground := Ground.phase }, { on := 18, ground := Ground.phase }], guard := none }, { dst := none, op := Op.store 36 (Operand.tmp 232) (Operand.tmp 230), type := 0, pos := "law.go:45", after := #[{ on := 20, ground := Ground.data }, { on := 18, ground := Ground.data }, { on := 18, ground := Ground.chain }, { on := 0, ground := Ground.phase }, { on := 1, ground := Ground.phase }, { on := 2, ground := Ground.phase }, { on := 3, ground := Ground.phase }, { on := 4, ground := Ground.phase }, { on := 5, ground := Ground.phase }, { on := 6, ground := Ground.phase }, { on := 7, ground := Ground.phase }, { on := 8, ground := Ground.phase }, { on := 9, ground := Ground.phase }, { on := 10, ground := Ground.phase }, { on := 11, ground := Ground.phase }, { on := 12, ground := Ground.phase }, { on := 13, ground := Ground.phase }, { on := 14, ground := Ground.phase }, { on := 15, ground := Ground.phase }, { on := 16, ground := Ground.phase }, { on := 17, ground := Ground.phase }, { on := 18, ground := Ground.phase }], guard := none }]
/-- What is known of each temporary. -/
def G27 (pc g j gc jb mb mo len mc i : Nat) (x0 : Int) : Tmp → Value → World → Prop
  | 143, xx, _ => xx = .pointer (some ⟨pc, 3, none⟩)
  | 144, xx, _ => xx = .slice (some ⟨g, 0, none⟩) j gc
  | 145, xx, _ => xx = .slice (some ⟨mb, mo, none⟩) len mc
  | 146, xx, _ => xx = .int .i64 (i : Nat)
  | 147, xx, _ => xx = .pointer (some ⟨mb, mo + i, none⟩)
  | 148, xx, _ => xx = .int .u8 x0
  | 149, xx, _ => xx = .int .i64 x0
  | 150, xx, _ => xx = .pointer (some ⟨pc, 3, none⟩)
  | 151, xx, _ => xx = .slice (some ⟨g, 0, none⟩) j gc
  | 152, xx, _ => xx = .int .i64 (j : Nat)
  | 153, xx, _ => xx = .int .i64 (jb : Nat)
  | 154, xx, _ => xx = .pointer (some ⟨g, jb * 5, none⟩)
  | 18, xx, _ => xx = .pointer (some ⟨g, jb * 5, none⟩)
  | _, _, _ => True
set_option maxRecDepth 100000 in
theorem r27_ok {Q : Exit → Act → World → Prop} {a0 : Act} {wa : World} {pc g j gc jb mb mo len mc i : Nat} {x0 : Int} (hz : a0.tmps.size = 234) (b9 : a0.eval (.tmp 9) = .pointer (some ⟨pc, 0, none⟩)) (b3 : a0.eval (.tmp 3) = .slice (some ⟨mb, mo, none⟩) len mc) (b17 : a0.eval (.tmp 17) = .int .i64 (i : Nat))
    (m3 : wa.cell? ⟨pc, 3, none⟩ = some (.slice (some ⟨g, 0, none⟩) j gc)) (y0 : wa.cell? ⟨mb, mo + i, none⟩ = some (.int .u8 x0)) (hx : 0 ≤ x0 ∧ x0 < 256) (hi : (i : Int) < (len : Int)) (hjb : x0.tmod (j : Int) = (jb : Int)) (hjl : (jb : Int) < (j : Int))
    (hend : ∀ s : Tmp → Value, s 18 = .pointer (some ⟨g, jb * 5, none⟩) → Q .normal (overlay a0 (dstsOf ops27) s) wa.drew) : (Code.region 27 ops27 true).wp Try.prog Q a0 wa := by
  have n0 : (((j : Nat) : Int) == 0) = false := by rw [beq_eq_false_iff_ne]; omega
  have n1 : (((j : Nat) : Int) == -1) = false := by rw [beq_eq_false_iff_ne]; omega
  refine L.wp_region_eachL (by kernel_rfl) (fun _ t y _ => G27 pc g j gc jb mb mo len mc i x0 t y wa) (fun _ W => W = wa.drew) (by rw [hz]; kernel_rfl) rfl ?_ ?_
  · refine And.intro ?_ (And.intro ?_ (And.intro ?_ (And.intro ?_ (And.intro ?_ (And.intro ?_ (And.intro ?_ (And.intro ?_ (And.intro ?_ (And.intro ?_ (And.intro ?_ (And.intro ?_ (And.intro ?_ trivial))))))))))))
    · refine L.asked_pure rfl rfl (fun _ _ h => h) (fun _ _ _ _ _ h => h) (fun _ _ _ => rfl) (fun l a W H => ?_)
      have e9 : a.eval (.tmp 9) = .pointer (some ⟨pc, 0, none⟩) := (H.base 9 rfl).trans b9
      (simp only [execOp]; try simp only [Option.map]); (try simp only [List.map_toArray, List.map_cons, List.map_nil]); (simp only [e9]; go_simp)
      all_goals (try first | go_num | omega | (rw [IntKind.wrap_i64]; omega) | (rw [IntKind.wrap_u8]; omega))
    · refine L.asked_pure rfl rfl (fun _ _ h => h) (fun _ _ _ _ _ h => h) (fun _ _ _ => rfl) (fun l a W H => ?_)
      have e143 : a.eval (.tmp 143) = .pointer (some ⟨pc, 3, none⟩) := H.facts 143 rfl
      have hcc : W.cell? ⟨pc, 3, none⟩ = some (.slice (some ⟨g, 0, none⟩) j gc) := by rw [H.s]; exact m3
      (simp only [execOp]; try simp only [Option.map]); (try simp only [List.map_toArray, List.map_cons, List.map_nil]); (simp only [e143]; go_simp)
      all_goals (try first | go_num | omega | (rw [IntKind.wrap_i64]; omega) | (rw [IntKind.wrap_u8]; omega))
    · refine L.asked_pure rfl rfl (fun _ _ h => h) (fun _ _ _ _ _ h => h) (fun _ _ _ => rfl) (fun l a W H => ?_)
      have e3 : a.eval (.tmp 3) = .slice (some ⟨mb, mo, none⟩) len mc := (H.base 3 rfl).trans b3
      exact run_move rfl e3
    · refine L.asked_pure rfl rfl (fun _ _ h => h) (fun _ _ _ _ _ h => h) (fun _ _ _ => rfl) (fun l a W H => ?_)
      have e17 : a.eval (.tmp 17) = .int .i64 (i : Nat) := (H.base 17 rfl).trans b17
      exact run_move rfl e17
    · refine L.asked_pure rfl rfl (fun _ _ h => h) (fun _ _ _ _ _ h => h) (fun _ _ _ => rfl) (fun l a W H => ?_)
      have e145 : a.eval (.tmp 145) = .slice (some ⟨mb, mo, none⟩) len mc := H.facts 145 rfl
      have e146 : a.eval (.tmp 146) = .int .i64 (i : Nat) := H.facts 146 rfl
      (simp only [execOp]; try simp only [Option.map]); (try simp only [List.map_toArray, List.map_cons, List.map_nil]); (simp only [e145, e146]; go_simp)
      all_goals (try first | go_num | omega | (rw [IntKind.wrap_i64]; omega) | (rw [IntKind.wrap_u8]; omega))
    · refine L.asked_pure rfl rfl (fun _ _ h => h) (fun _ _ _ _ _ h => h) (fun _ _ _ => rfl) (fun l a W H => ?_)
      have e147 : a.eval (.tmp 147) = .pointer (some ⟨mb, mo + i, none⟩) := H.facts 147 rfl
      have hcc : W.cell? ⟨mb, mo + i, none⟩ = some (.int .u8 x0) := by rw [H.s]; exact y0
      (simp only [execOp]; try simp only [Option.map]); (try simp only [List.map_toArray, List.map_cons, List.map_nil]); (simp only [e147]; go_simp)
      all_goals (try first | go_num | omega | (rw [IntKind.wrap_i64]; omega) | (rw [IntKind.wrap_u8]; omega))
    · refine L.asked_pure rfl rfl (fun _ _ h => h) (fun _ _ _ _ _ h => h) (fun _ _ _ => rfl) (fun l a W H => ?_)
      have e148 : a.eval (.tmp 148) = .int .u8 x0 := H.facts 148 rfl
      (simp only [execOp]; try simp only [Option.map]); (try simp only [List.map_toArray, List.map_cons, List.map_nil]); (simp only [e148]; go_simp)
      all_goals (try first | go_num | omega | (rw [IntKind.wrap_i64]; omega) | (rw [IntKind.wrap_u8]; omega))
    · refine L.asked_pure rfl rfl (fun _ _ h => h) (fun _ _ _ _ _ h => h) (fun _ _ _ => rfl) (fun l a W H => ?_)
      have e9 : a.eval (.tmp 9) = .pointer (some ⟨pc, 0, none⟩) := (H.base 9 rfl).trans b9
      (simp only [execOp]; try simp only [Option.map]); (try simp only [List.map_toArray, List.map_cons, List.map_nil]); (simp only [e9]; go_simp)
      all_goals (try first | go_num | omega | (rw [IntKind.wrap_i64]; omega) | (rw [IntKind.wrap_u8]; omega))
    · refine L.asked_pure rfl rfl (fun _ _ h => h) (fun _ _ _ _ _ h => h) (fun _ _ _ => rfl) (fun l a W H => ?_)
      have e150 : a.eval (.tmp 150) = .pointer (some ⟨pc, 3, none⟩) := H.facts 150 rfl
      have hcc : W.cell? ⟨pc, 3, none⟩ = some (.slice (some ⟨g, 0, none⟩) j gc) := by rw [H.s]; exact m3
      (simp only [execOp]; try simp only [Option.map]); (try simp only [List.map_toArray, List.map_cons, List.map_nil]); (simp only [e150]; go_simp)
      all_goals (try first | go_num | omega | (rw [IntKind.wrap_i64]; omega) | (rw [IntKind.wrap_u8]; omega))
    · refine L.asked_pure rfl rfl (fun _ _ h => h) (fun _ _ _ _ _ h => h) (fun _ _ _ => rfl) (fun l a W H => ?_)
      have e151 : a.eval (.tmp 151) = .slice (some ⟨g, 0, none⟩) j gc := H.facts 151 rfl
      exact run_len rfl e151 Try.underlying22
    · refine L.asked_pure rfl rfl (fun _ _ h => h) (fun _ _ _ _ _ h => h) (fun _ _ _ => rfl) (fun l a W H => ?_)
      have e149 : a.eval (.tmp 149) = .int .i64 x0 := H.facts 149 rfl
      have e152 : a.eval (.tmp 152) = .int .i64 (j : Nat) := H.facts 152 rfl
      (simp only [execOp]; try simp only [Option.map]); (try simp only [List.map_toArray, List.map_cons, List.map_nil]); (simp only [e149, e152]; go_simp)
      all_goals (try first | go_num | omega | (rw [IntKind.wrap_i64]; omega) | (rw [IntKind.wrap_u8]; omega))
    · refine L.asked_pure rfl rfl (fun _ _ h => h) (fun _ _ _ _ _ h => h) (fun _ _ _ => rfl) (fun l a W H => ?_)
      have e144 : a.eval (.tmp 144) = .slice (some ⟨g, 0, none⟩) j gc := H.facts 144 rfl
      have e153 : a.eval (.tmp 153) = .int .i64 (jb : Nat) := H.facts 153 rfl
      (simp only [execOp]; try simp only [Option.map]); (try simp only [List.map_toArray, List.map_cons, List.map_nil]); (simp only [e144, e153]; go_simp)
      all_goals (try first | go_num | omega | (rw [IntKind.wrap_i64]; omega) | (rw [IntKind.wrap_u8]; omega))
    · refine L.asked_pure rfl rfl (fun _ _ h => h) (fun _ _ _ _ _ h => h) (fun _ _ _ => rfl) (fun l a W H => ?_)
      have e154 : a.eval (.tmp 154) = .pointer (some ⟨g, jb * 5, none⟩) := H.facts 154 rfl
      exact run_assign rfl e154
  · intro l s W _ hS hs
    subst hS
    exact hend s (hs 18 rfl)
/-- What is known of each temporary. -/
def G28 (wb : World) (pc mb mo len mc i : Nat) (x1 x2 z1 z2 r s : Int) : Tmp → Value → World → Prop
  | 155, xx, _ => xx = .slice (some ⟨mb, mo, none⟩) len mc
  | 156, xx, _ => xx = .int .i64 (i : Nat)
  | 157, xx, _ => xx = .int .i64 ((i : Int) + 1)
  | 158, xx, _ => xx = .pointer (some ⟨mb, mo + (i + 1), none⟩)
  | 159, xx, _ => xx = .int .u8 x1
  | 160, xx, _ => xx = .int .i64 x1
  | 161, xx, _ => xx = .pointer (some ⟨pc, 2, none⟩)
  | 162, xx, _ => xx = .int .i64 s
  | 163, xx, _ => xx = .int .i64 z1
  | 164, xx, _ => xx = .slice (some ⟨mb, mo, none⟩) len mc
  | 165, xx, _ => xx = .int .i64 (i : Nat)
  | 166, xx, _ => xx = .int .i64 ((i : Int) + 2)
  | 167, xx, _ => xx = .pointer (some ⟨mb, mo + (i + 2), none⟩)
  | 168, xx, _ => xx = .int .u8 x2
  | 169, xx, _ => xx = .int .i64 x2
  | 170, xx, _ => xx = .pointer (some ⟨pc, 1, none⟩)
  | 171, xx, _ => xx = .int .i64 r
  | 172, xx, _ => xx = .int .i64 z2
  | 173, xx, _ => xx = insV ⟨7, 0, z1, z2, 0, 0, []⟩ (.slice none 0 0)
  | 19, xx, _ => xx = .pointer (some ⟨wb.heap.size, 0, none⟩)
  | _, _, _ => True
structure S28 (wb : World) (X : Ins) (l : Nat → Bool) (W : World) : Prop where
  below : Below wb.heap.size wb W
  size : l 19 = false → W.heap.size = wb.heap.size
  row : l 19 = true → l 20 = false → W.heap[wb.heap.size]? = some (Obj.cells (rowI Ins.zero (.slice none 0 0)) 46 (0, 0))
  done : l 20 = true → W.heap[wb.heap.size]? = some (Obj.cells (rowI X (.slice none 0 0)) 46 (0, 0))
theorem S28.skip {wb : World} {X : Ins} {l : Nat → Bool} {W : World} (h : S28 wb X l W) {i : Nat} (h1 : i ≠ 19) (h2 : i ≠ 20) : S28 wb X (upd l i) W := by
  have u1 : upd l i 19 = l 19 := if_neg (fun e => h1 e.symm)
  have u2 : upd l i 20 = l 20 := if_neg (fun e => h2 e.symm)
  exact ⟨h.below, by rw [u1]; exact h.size, by rw [u1, u2]; exact h.row, by rw [u2]; exact h.done⟩
set_option maxRecDepth 100000 in
theorem r28_ok {Q : Exit → Act → World → Prop} {a0 : Act} {wb : World} {pc mb mo len mc i : Nat} {x1 x2 z1 z2 r s : Int} (hz : a0.tmps.size = 234) (b9 : a0.eval (.tmp 9) = .pointer (some ⟨pc, 0, none⟩)) (b3 : a0.eval (.tmp 3) = .slice (some ⟨mb, mo, none⟩) len mc) (b17 : a0.eval (.tmp 17) = .int .i64 (i : Nat)) (m1 : wb.cell? ⟨pc, 1, none⟩ = some (.int .i64 r)) (m2 : wb.cell? ⟨pc, 2, none⟩ = some (.int .i64 s)) (y1 : wb.cell? ⟨mb, mo + (i + 1), none⟩ = some (.int .u8 x1)) (y2 : wb.cell? ⟨mb, mo + (i + 2), none⟩ = some (.int .u8 x2)) (hx1 : 0 ≤ x1 ∧ x1 < 256) (hx2 : 0 ≤ x2 ∧ x2 < 256) (hi : (i : Int) + 2 < (len : Int)) (hi60 : (i : Int) < 60) (hr : 0 < r) (hs : 0 < s) (t1 : x1.tmod s = z1) (t2 : x2.tmod r = z2)
    (hend : ∀ (q : Tmp → Value) (W : World), q 19 = .pointer (some ⟨wb.heap.size, 0, none⟩) → Below wb.heap.size wb W → W.heap[wb.heap.size]? = some (Obj.cells (rowI ⟨7, 0, z1, z2, 0, 0, []⟩ (.slice none 0 0)) 46 (0, 0)) → Q .normal (overlay a0 (dstsOf ops28) q) W) : (Code.region 28 ops28 true).wp Try.prog Q a0 wb := by
  have s0 : (s == 0) = false := by rw [beq_eq_false_iff_ne]; omega
  have s1 : (s == -1) = false := by rw [beq_eq_false_iff_ne]; omega
  have r0 : (r == 0) = false := by rw [beq_eq_false_iff_ne]; omega
  have r1 : (r == -1) = false := by rw [beq_eq_false_iff_ne]; omega
  refine L.wp_region_eachL (by kernel_rfl) (fun _ t y _ => G28 wb pc mb mo len mc i x1 x2 z1 z2 r s t y wb) (fun l W => S28 wb ⟨7, 0, z1, z2, 0, 0, []⟩ l W) (by rw [hz]; kernel_rfl) ⟨(Below.refl _ _).drew, fun _ => rfl, fun h => by simp at h, fun h => by simp at h⟩ ?_ ?_
  · refine And.intro ?_ (And.intro ?_ (And.intro ?_ (And.intro ?_ (And.intro ?_ (And.intro ?_ (And.intro ?_ (And.intro ?_ (And.intro ?_ (And.intro ?_ (And.intro ?_ (And.intro ?_ (And.intro ?_ (And.intro ?_ (And.intro ?_ (And.intro ?_ (And.intro ?_ (And.intro ?_ (And.intro ?_ (And.intro ?_ (And.intro ?_ trivial))))))))))))))))))))
    · refine L.asked_pure rfl rfl (fun _ _ h => h.skip (by decide) (by decide)) (fun _ _ _ _ _ h => h) (fun _ _ _ => rfl) (fun l a W H => ?_)
      have e3 : a.eval (.tmp 3) = .slice (some ⟨mb, mo, none⟩) len mc := (H.base 3 rfl).trans b3
      exact run_move rfl e3
    · refine L.asked_pure rfl rfl (fun _ _ h => h.skip (by decide) (by decide)) (fun _ _ _ _ _ h => h) (fun _ _ _ => rfl) (fun l a W H => ?_)
      have e17 : a.eval (.tmp 17) = .int .i64 (i : Nat) := (H.base 17 rfl).trans b17
      exact run_move rfl e17
    · refine L.asked_pure rfl rfl (fun _ _ h => h.skip (by decide) (by decide)) (fun _ _ _ _ _ h => h) (fun _ _ _ => rfl) (fun l a W H => ?_)
      have e156 : a.eval (.tmp 156) = .int .i64 (i : Nat) := H.facts 156 rfl
      (simp only [execOp]; try simp only [Option.map]); (try simp only [List.map_toArray, List.map_cons, List.map_nil]); (simp only [e156]; go_simp)
      all_goals (try first | go_num | omega | (rw [IntKind.wrap_i64]; omega) | (rw [IntKind.wrap_u8]; omega))
    · refine L.asked_pure rfl rfl (fun _ _ h => h.skip (by decide) (by decide)) (fun _ _ _ _ _ h => h) (fun _ _ _ => rfl) (fun l a W H => ?_)
      have e155 : a.eval (.tmp 155) = .slice (some ⟨mb, mo, none⟩) len mc := H.facts 155 rfl
      have e157 : a.eval (.tmp 157) = .int .i64 ((i : Int) + 1) := H.facts 157 rfl
      (simp only [execOp]; try simp only [Option.map]); (try simp only [List.map_toArray, List.map_cons, List.map_nil]); (simp only [e155, e157]; go_simp)
      all_goals (try first | go_num | omega | (rw [IntKind.wrap_i64]; omega) | (rw [IntKind.wrap_u8]; omega))
    · refine L.asked_pure rfl rfl (fun _ _ h => h.skip (by decide) (by decide)) (fun _ _ _ _ _ h => h) (fun _ _ _ => rfl) (fun l a W H => ?_)
      have e158 : a.eval (.tmp 158) = .pointer (some ⟨mb, mo + (i + 1), none⟩) := H.facts 158 rfl
      have hcc := cell_below H.s.below y1
      (simp only [execOp]; try simp only [Option.map]); (try simp only [List.map_toArray, List.map_cons, List.map_nil]); (simp only [e158]; go_simp)
      all_goals (try first | go_num | omega | (rw [IntKind.wrap_i64]; omega) | (rw [IntKind.wrap_u8]; omega))
    · refine L.asked_pure rfl rfl (fun _ _ h => h.skip (by decide) (by decide)) (fun _ _ _ _ _ h => h) (fun _ _ _ => rfl) (fun l a W H => ?_)
      have e159 : a.eval (.tmp 159) = .int .u8 x1 := H.facts 159 rfl
      (simp only [execOp]; try simp only [Option.map]); (try simp only [List.map_toArray, List.map_cons, List.map_nil]); (simp only [e159]; go_simp)
      all_goals (try first | go_num | omega | (rw [IntKind.wrap_i64]; omega) | (rw [IntKind.wrap_u8]; omega))
    · refine L.asked_pure rfl rfl (fun _ _ h => h.skip (by decide) (by decide)) (fun _ _ _ _ _ h => h) (fun _ _ _ => rfl) (fun l a W H => ?_)
      have e9 : a.eval (.tmp 9) = .pointer (some ⟨pc, 0, none⟩) := (H.base 9 rfl).trans b9
      (simp only [execOp]; try simp only [Option.map]); (try simp only [List.map_toArray, List.map_cons, List.map_nil]); (simp only [e9]; go_simp)
      all_goals (try first | go_num | omega | (rw [IntKind.wrap_i64]; omega) | (rw [IntKind.wrap_u8]; omega))
    · refine L.asked_pure rfl rfl (fun _ _ h => h.skip (by decide) (by decide)) (fun _ _ _ _ _ h => h) (fun _ _ _ => rfl) (fun l a W H => ?_)
      have e161 : a.eval (.tmp 161) = .pointer (some ⟨pc, 2, none⟩) := H.facts 161 rfl
      have hcc := cell_below H.s.below m2
      (simp only [execOp]; try simp only [Option.map]); (try simp only [List.map_toArray, List.map_cons, List.map_nil]); (simp only [e161]; go_simp)
      all_goals (try first | go_num | omega | (rw [IntKind.wrap_i64]; omega) | (rw [IntKind.wrap_u8]; omega))
    · refine L.asked_pure rfl rfl (fun _ _ h => h.skip (by decide) (by decide)) (fun _ _ _ _ _ h => h) (fun _ _ _ => rfl) (fun l a W H => ?_)
      have e160 : a.eval (.tmp 160) = .int .i64 x1 := H.facts 160 rfl
      have e162 : a.eval (.tmp 162) = .int .i64 s := H.facts 162 rfl
      (simp only [execOp]; try simp only [Option.map]); (try simp only [List.map_toArray, List.map_cons, List.map_nil]); (simp only [e160, e162]; go_simp)
      all_goals (try first | go_num | omega | (rw [IntKind.wrap_i64]; omega) | (rw [IntKind.wrap_u8]; omega))
    · refine L.asked_pure rfl rfl (fun _ _ h => h.skip (by decide) (by decide)) (fun _ _ _ _ _ h => h) (fun _ _ _ => rfl) (fun l a W H => ?_)
      have e3 : a.eval (.tmp 3) = .slice (some ⟨mb, mo, none⟩) len mc := (H.base 3 rfl).trans b3
      exact run_move rfl e3
    · refine L.asked_pure rfl rfl (fun _ _ h => h.skip (by decide) (by decide)) (fun _ _ _ _ _ h => h) (fun _ _ _ => rfl) (fun l a W H => ?_)
      have e17 : a.eval (.tmp 17) = .int .i64 (i : Nat) := (H.base 17 rfl).trans b17
      exact run_move rfl e17
    · refine L.asked_pure rfl rfl (fun _ _ h => h.skip (by decide) (by decide)) (fun _ _ _ _ _ h => h) (fun _ _ _ => rfl) (fun l a W H => ?_)
      have e165 : a.eval (.tmp 165) = .int .i64 (i : Nat) := H.facts 165 rfl
      (simp only [execOp]; try simp only [Option.map]); (try simp only [List.map_toArray, List.map_cons, List.map_nil]); (simp only [e165]; go_simp)
      all_goals (try first | go_num | omega | (rw [IntKind.wrap_i64]; omega) | (rw [IntKind.wrap_u8]; omega))
    · refine L.asked_pure rfl rfl (fun _ _ h => h.skip (by decide) (by decide)) (fun _ _ _ _ _ h => h) (fun _ _ _ => rfl) (fun l a W H => ?_)
      have e164 : a.eval (.tmp 164) = .slice (some ⟨mb, mo, none⟩) len mc := H.facts 164 rfl
      have e166 : a.eval (.tmp 166) = .int .i64 ((i : Int) + 2) := H.facts 166 rfl
      (simp only [execOp]; try simp only [Option.map]); (try simp only [List.map_toArray, List.map_cons, List.map_nil]); (simp only [e164, e166]; go_simp)
      all_goals (try first | go_num | omega | (rw [IntKind.wrap_i64]; omega) | (rw [IntKind.wrap_u8]; omega))
    · refine L.asked_pure rfl rfl (fun _ _ h => h.skip (by decide) (by decide)) (fun _ _ _ _ _ h => h) (fun _ _ _ => rfl) (fun l a W H => ?_)
      have e167 : a.eval (.tmp 167) = .pointer (some ⟨mb, mo + (i + 2), none⟩) := H.facts 167 rfl
      have hcc := cell_below H.s.below y2
      (simp only [execOp]; try simp only [Option.map]); (try simp only [List.map_toArray, List.map_cons, List.map_nil]); (simp only [e167]; go_simp)
      all_goals (try first | go_num | omega | (rw [IntKind.wrap_i64]; omega) | (rw [IntKind.wrap_u8]; omega))
    · refine L.asked_pure rfl rfl (fun _ _ h => h.skip (by decide) (by decide)) (fun _ _ _ _ _ h => h) (fun _ _ _ => rfl) (fun l a W H => ?_)
      have e168 : a.eval (.tmp 168) = .int .u8 x2 := H.facts 168 rfl
      (simp only [execOp]; try simp only [Option.map]); (try simp only [List.map_toArray, List.map_cons, List.map_nil]); (simp only [e168]; go_simp)
      all_goals (try first | go_num | omega | (rw [IntKind.wrap_i64]; omega) | (rw [IntKind.wrap_u8]; omega))
    · refine L.asked_pure rfl rfl (fun _ _ h => h.skip (by decide) (by decide)) (fun _ _ _ _ _ h => h) (fun _ _ _ => rfl) (fun l a W H => ?_)
      have e9 : a.eval (.tmp 9) = .pointer (some ⟨pc, 0, none⟩) := (H.base 9 rfl).trans b9
      (simp only [execOp]; try simp only [Option.map]); (try simp only [List.map_toArray, List.map_cons, List.map_nil]); (simp only [e9]; go_simp)
      all_goals (try first | go_num | omega | (rw [IntKind.wrap_i64]; omega) | (rw [IntKind.wrap_u8]; omega))
    · refine L.asked_pure rfl rfl (fun _ _ h => h.skip (by decide) (by decide)) (fun _ _ _ _ _ h => h) (fun _ _ _ => rfl) (fun l a W H => ?_)
      have e170 : a.eval (.tmp 170) = .pointer (some ⟨pc, 1, none⟩) := H.facts 170 rfl
      have hcc := cell_below H.s.below m1
      (simp only [execOp]; try simp only [Option.map]); (try simp only [List.map_toArray, List.map_cons, List.map_nil]); (simp only [e170]; go_simp)
      all_goals (try first | go_num | omega | (rw [IntKind.wrap_i64]; omega) | (rw [IntKind.wrap_u8]; omega))
    · refine L.asked_pure rfl rfl (fun _ _ h => h.skip (by decide) (by decide)) (fun _ _ _ _ _ h => h) (fun _ _ _ => rfl) (fun l a W H => ?_)
      have e169 : a.eval (.tmp 169) = .int .i64 x2 := H.facts 169 rfl
      have e171 : a.eval (.tmp 171) = .int .i64 r := H.facts 171 rfl
      (simp only [execOp]; try simp only [Option.map]); (try simp only [List.map_toArray, List.map_cons, List.map_nil]); (simp only [e169, e171]; go_simp)
      all_goals (try first | go_num | omega | (rw [IntKind.wrap_i64]; omega) | (rw [IntKind.wrap_u8]; omega))
    · refine L.asked_pure rfl rfl (fun _ _ h => h.skip (by decide) (by decide)) (fun _ _ _ _ _ h => h) (fun _ _ _ => rfl) (fun l a W H => ?_)
      have e163 : a.eval (.tmp 163) = .int .i64 z1 := H.facts 163 rfl
      have e172 : a.eval (.tmp 172) = .int .i64 z2 := H.facts 172 rfl
      unfold insV
      (simp only [execOp]; try simp only [Option.map]); (try simp only [List.map_toArray, List.map_cons, List.map_nil]); (simp only [e163, e172]; go_simp)
      all_goals (try first | go_num | omega | (rw [IntKind.wrap_i64]; omega) | (rw [IntKind.wrap_u8]; omega))
    · refine L.asked_any rfl (fun l a W H => ?_)
      have hsz := H.s.size H.new
      have hbx := bel1' W (.cells (rowI Ins.zero (.slice none 0 0)) 46)
      have l20 : l 20 = false := by
        cases hs : l 20 with
        | false => rfl
        | true =>
          have h1 := H.closed 20 19 (by rfl) hs
          rw [H.new] at h1
          cases h1
      refine ⟨.pointer (some ⟨wb.heap.size, 0, none⟩), W.alloc (.cells (rowI Ins.zero (.slice none 0 0)) 46), ?_, fun d hd => by cases hd; exact rfl, ⟨bel_to H.s.below hbx H.s.below.size, fun h => by simp [upd] at h, fun _ _ => by rw [← hsz]; exact heap_alloc_new W _, fun h => by have h' : l 20 = true := h; rw [l20] at h'; cases h'⟩, fun _ _ _ h => h⟩
      rw [← hsz]
      unfold rowI Ins.zero
      (simp only [execOp]; try simp only [Option.map]); (try simp only [List.map_toArray, List.map_cons, List.map_nil]); go_simp
    · refine L.asked_skip rfl rfl (fun l a W H => ?_)
      have l19 : l 19 = true := H.deps ⟨19, .data⟩ (by simp) rfl
      have e19 : a.eval (.tmp 19) = .pointer (some ⟨wb.heap.size, 0, none⟩) := H.facts 19 rfl
      have e173 : a.eval (.tmp 173) = insV ⟨7, 0, z1, z2, 0, 0, []⟩ (.slice none 0 0) := H.facts 173 rfl
      have hrow := H.s.row l19 H.new
      refine ⟨put7 W wb.heap.size ⟨7, 0, z1, z2, 0, 0, []⟩ (.slice none 0 0), run_store46 rfl e19 e173 hrow, ⟨put7_below H.s.below (Nat.le_refl _) _ _, (fun h => by have h' : l 19 = false := h; rw [l19] at h'; cases h'), (fun _ h => by simp [upd] at h), fun _ => put7_row hrow⟩, fun _ _ h => h⟩
  · intro l q W hall hS hq
    exact hend q W (hq 19 rfl) hS.below (hS.done (hall 20 (by decide)))
/-- What is known of each temporary. -/
def G30 (pc mb mo len mc i : Nat) (x1 x2 z1 z2 r s : Int) : Tmp → Value → World → Prop
  | 180, xx, _ => xx = .slice (some ⟨mb, mo, none⟩) len mc
  | 181, xx, _ => xx = .int .i64 (i : Nat)
  | 182, xx, _ => xx = .int .i64 ((i : Int) + 1)
  | 183, xx, _ => xx = .pointer (some ⟨mb, mo + (i + 1), none⟩)
  | 184, xx, _ => xx = .int .u8 x1
  | 185, xx, _ => xx = .int .i64 x1
  | 186, xx, _ => xx = .pointer (some ⟨pc, 1, none⟩)
  | 187, xx, _ => xx = .int .i64 r
  | 188, xx, _ => xx = .int .i64 z1
  | 189, xx, _ => xx = .slice (some ⟨mb, mo, none⟩) len mc
  | 190, xx, _ => xx = .int .i64 (i : Nat)
  | 191, xx, _ => xx = .int .i64 ((i : Int) + 2)
  | 192, xx, _ => xx = .pointer (some ⟨mb, mo + (i + 2), none⟩)
  | 193, xx, _ => xx = .int .u8 x2
  | 194, xx, _ => xx = .int .i64 x2
  | 195, xx, _ => xx = .pointer (some ⟨pc, 2, none⟩)
  | 196, xx, _ => xx = .int .i64 s
  | 197, xx, _ => xx = .int .i64 z2
  | 198, xx, _ => xx = insV ⟨8, 0, z1, z2, 0, 0, []⟩ (.slice none 0 0)
  | _, _, _ => True
structure S30 (wb : World) (pn : Nat) (X0 X : Ins) (l : Nat → Bool) (W : World) : Prop where
  below : Below wb.heap.size wb W
  row : l 19 = false → W.heap[pn]? = some (Obj.cells (rowI X0 (.slice none 0 0)) 46 (0, 0))
  done : l 19 = true → W.heap[pn]? = some (Obj.cells (rowI X (.slice none 0 0)) 46 (0, 0))
theorem S30.skip {wb : World} {pn : Nat} {X0 X : Ins} {l : Nat → Bool} {W : World} (h : S30 wb pn X0 X l W) {i : Nat} (h1 : i ≠ 19) : S30 wb pn X0 X (upd l i) W := by
  have u1 : upd l i 19 = l 19 := if_neg (fun e => h1 e.symm)
  exact ⟨h.below, by rw [u1]; exact h.row, by rw [u1]; exact h.done⟩
set_option maxRecDepth 100000 in
theorem r30_ok {Q : Exit → Act → World → Prop} {a0 : Act} {wb wc : World} {pn pc mb mo len mc i : Nat} {x1 x2 z1 z2 r s : Int} {X0 : Ins} (hz : a0.tmps.size = 234) (b9 : a0.eval (.tmp 9) = .pointer (some ⟨pc, 0, none⟩)) (b3 : a0.eval (.tmp 3) = .slice (some ⟨mb, mo, none⟩) len mc) (b17 : a0.eval (.tmp 17) = .int .i64 (i : Nat)) (m1 : wb.cell? ⟨pc, 1, none⟩ = some (.int .i64 r)) (m2 : wb.cell? ⟨pc, 2, none⟩ = some (.int .i64 s)) (y1 : wb.cell? ⟨mb, mo + (i + 1), none⟩ = some (.int .u8 x1)) (y2 : wb.cell? ⟨mb, mo + (i + 2), none⟩ = some (.int .u8 x2)) (hx1 : 0 ≤ x1 ∧ x1 < 256) (hx2 : 0 ≤ x2 ∧ x2 < 256) (hi : (i : Int) + 2 < (len : Int)) (hi60 : (i : Int) < 60) (hr : 0 < r) (hs : 0 < s) (t1 : x1.tmod r = z1) (t2 : x2.tmod s = z2) (b19 : a0.eval (.tmp 19) = .pointer (some ⟨pn, 0, none⟩)) (hb : Below wb.heap.size wb wc) (hpn : wb.heap.size ≤ pn) (hrow : wc.heap[pn]? = some (Obj.cells (rowI X0 (.slice none 0 0)) 46 (0, 0)))
    (hend : ∀ (q : Tmp → Value) (W : World), Below wb.heap.size wb W → W.heap[pn]? = some (Obj.cells (rowI ⟨8, 0, z1, z2, 0, 0, []⟩ (.slice none 0 0)) 46 (0, 0)) → Q .normal (overlay a0 (dstsOf ops30) q) W) : (Code.region 30 ops30 true).wp Try.prog Q a0 wc := by
  have s0 : (s == 0) = false := by rw [beq_eq_false_iff_ne]; omega
  have s1 : (s == -1) = false := by rw [beq_eq_false_iff_ne]; omega
  have r0 : (r == 0) = false := by rw [beq_eq_false_iff_ne]; omega
  have r1 : (r == -1) = false := by rw [beq_eq_false_iff_ne]; omega
  refine L.wp_region_eachL (by kernel_rfl) (fun _ t y _ => G30 pc mb mo len mc i x1 x2 z1 z2 r s t y wb) (fun l W => S30 wb pn X0 ⟨8, 0, z1, z2, 0, 0, []⟩ l W) (by rw [hz]; kernel_rfl) ⟨hb.drew, fun _ => hrow, fun h => by simp at h⟩ ?_ ?_
  · refine And.intro ?_ (And.intro ?_ (And.intro ?_ (And.intro ?_ (And.intro ?_ (And.intro ?_ (And.intro ?_ (And.intro ?_ (And.intro ?_ (And.intro ?_ (And.intro ?_ (And.intro ?_ (And.intro ?_ (And.intro ?_ (And.intro ?_ (And.intro ?_ (And.intro ?_ (And.intro ?_ (And.intro ?_ (And.intro ?_ trivial)))))))))))))))))))
    · refine L.asked_pure rfl rfl (fun _ _ h => h.skip (by decide)) (fun _ _ _ _ _ h => h) (fun _ _ _ => rfl) (fun l a W H => ?_)
      have e3 : a.eval (.tmp 3) = .slice (some ⟨mb, mo, none⟩) len mc := (H.base 3 rfl).trans b3
      exact run_move rfl e3
    · refine L.asked_pure rfl rfl (fun _ _ h => h.skip (by decide)) (fun _ _ _ _ _ h => h) (fun _ _ _ => rfl) (fun l a W H => ?_)
      have e17 : a.eval (.tmp 17) = .int .i64 (i : Nat) := (H.base 17 rfl).trans b17
      exact run_move rfl e17
    · refine L.asked_pure rfl rfl (fun _ _ h => h.skip (by decide)) (fun _ _ _ _ _ h => h) (fun _ _ _ => rfl) (fun l a W H => ?_)
      have e181 : a.eval (.tmp 181) = .int .i64 (i : Nat) := H.facts 181 rfl
      (simp only [execOp]; try simp only [Option.map]); (try simp only [List.map_toArray, List.map_cons, List.map_nil]); (simp only [e181]; go_simp)
      all_goals (try first | go_num | omega | (rw [IntKind.wrap_i64]; omega) | (rw [IntKind.wrap_u8]; omega))
    · refine L.asked_pure rfl rfl (fun _ _ h => h.skip (by decide)) (fun _ _ _ _ _ h => h) (fun _ _ _ => rfl) (fun l a W H => ?_)
      have e180 : a.eval (.tmp 180) = .slice (some ⟨mb, mo, none⟩) len mc := H.facts 180 rfl
      have e182 : a.eval (.tmp 182) = .int .i64 ((i : Int) + 1) := H.facts 182 rfl
      (simp only [execOp]; try simp only [Option.map]); (try simp only [List.map_toArray, List.map_cons, List.map_nil]); (simp only [e180, e182]; go_simp)
      all_goals (try first | go_num | omega | (rw [IntKind.wrap_i64]; omega) | (rw [IntKind.wrap_u8]; omega))
    · refine L.asked_pure rfl rfl (fun _ _ h => h.skip (by decide)) (fun _ _ _ _ _ h => h) (fun _ _ _ => rfl) (fun l a W H => ?_)
      have e183 : a.eval (.tmp 183) = .pointer (some ⟨mb, mo + (i + 1), none⟩) := H.facts 183 rfl
      have hcc := cell_below H.s.below y1
      (simp only [execOp]; try simp only [Option.map]); (try simp only [List.map_toArray, List.map_cons, List.map_nil]); (simp only [e183]; go_simp)
      all_goals (try first | go_num | omega | (rw [IntKind.wrap_i64]; omega) | (rw [IntKind.wrap_u8]; omega))
    · refine L.asked_pure rfl rfl (fun _ _ h => h.skip (by decide)) (fun _ _ _ _ _ h => h) (fun _ _ _ => rfl) (fun l a W H => ?_)
      have e184 : a.eval (.tmp 184) = .int .u8 x1 := H.facts 184 rfl
      (simp only [execOp]; try simp only [Option.map]); (try simp only [List.map_toArray, List.map_cons, List.map_nil]); (simp only [e184]; go_simp)
      all_goals (try first | go_num | omega | (rw [IntKind.wrap_i64]; omega) | (rw [IntKind.wrap_u8]; omega))
    · refine L.asked_pure rfl rfl (fun _ _ h => h.skip (by decide)) (fun _ _ _ _ _ h => h) (fun _ _ _ => rfl) (fun l a W H => ?_)
      have e9 : a.eval (.tmp 9) = .pointer (some ⟨pc, 0, none⟩) := (H.base 9 rfl).trans b9
      (simp only [execOp]; try simp only [Option.map]); (try simp only [List.map_toArray, List.map_cons, List.map_nil]); (simp only [e9]; go_simp)
      all_goals (try first | go_num | omega | (rw [IntKind.wrap_i64]; omega) | (rw [IntKind.wrap_u8]; omega))
    · refine L.asked_pure rfl rfl (fun _ _ h => h.skip (by decide)) (fun _ _ _ _ _ h => h) (fun _ _ _ => rfl) (fun l a W H => ?_)
      have e186 : a.eval (.tmp 186) = .pointer (some ⟨pc, 1, none⟩) := H.facts 186 rfl
      have hcc := cell_below H.s.below m1
      (simp only [execOp]; try simp only [Option.map]); (try simp only [List.map_toArray, List.map_cons, List.map_nil]); (simp only [e186]; go_simp)
      all_goals (try first | go_num | omega | (rw [IntKind.wrap_i64]; omega) | (rw [IntKind.wrap_u8]; omega))
    · refine L.asked_pure rfl rfl (fun _ _ h => h.skip (by decide)) (fun _ _ _ _ _ h => h) (fun _ _ _ => rfl) (fun l a W H => ?_)
      have e185 : a.eval (.tmp 185) = .int .i64 x1 := H.facts 185 rfl
      have e187 : a.eval (.tmp 187) = .int .i64 r := H.facts 187 rfl
      (simp only [execOp]; try simp only [Option.map]); (try simp only [List.map_toArray, List.map_cons, List.map_nil]); (simp only [e185, e187]; go_simp)
      all_goals (try first | go_num | omega | (rw [IntKind.wrap_i64]; omega) | (rw [IntKind.wrap_u8]; omega))
    · refine L.asked_pure rfl rfl (fun _ _ h => h.skip (by decide)) (fun _ _ _ _ _ h => h) (fun _ _ _ => rfl) (fun l a W H => ?_)
      have e3 : a.eval (.tmp 3) = .slice (some ⟨mb, mo, none⟩) len mc := (H.base 3 rfl).trans b3
      exact run_move rfl e3
    · refine L.asked_pure rfl rfl (fun _ _ h => h.skip (by decide)) (fun _ _ _ _ _ h => h) (fun _ _ _ => rfl) (fun l a W H => ?_)
      have e17 : a.eval (.tmp 17) = .int .i64 (i : Nat) := (H.base 17 rfl).trans b17
      exact run_move rfl e17
    · refine L.asked_pure rfl rfl (fun _ _ h => h.skip (by decide)) (fun _ _ _ _ _ h => h) (fun _ _ _ => rfl) (fun l a W H => ?_)
      have e190 : a.eval (.tmp 190) = .int .i64 (i : Nat) := H.facts 190 rfl
      (simp only [execOp]; try simp only [Option.map]); (try simp only [List.map_toArray, List.map_cons, List.map_nil]); (simp only [e190]; go_simp)
      all_goals (try first | go_num | omega | (rw [IntKind.wrap_i64]; omega) | (rw [IntKind.wrap_u8]; omega))
    · refine L.asked_pure rfl rfl (fun _ _ h => h.skip (by decide)) (fun _ _ _ _ _ h => h) (fun _ _ _ => rfl) (fun l a W H => ?_)
      have e189 : a.eval (.tmp 189) = .slice (some ⟨mb, mo, none⟩) len mc := H.facts 189 rfl
      have e191 : a.eval (.tmp 191) = .int .i64 ((i : Int) + 2) := H.facts 191 rfl
      (simp only [execOp]; try simp only [Option.map]); (try simp only [List.map_toArray, List.map_cons, List.map_nil]); (simp only [e189, e191]; go_simp)
      all_goals (try first | go_num | omega | (rw [IntKind.wrap_i64]; omega) | (rw [IntKind.wrap_u8]; omega))
    · refine L.asked_pure rfl rfl (fun _ _ h => h.skip (by decide)) (fun _ _ _ _ _ h => h) (fun _ _ _ => rfl) (fun l a W H => ?_)
      have e192 : a.eval (.tmp 192) = .pointer (some ⟨mb, mo + (i + 2), none⟩) := H.facts 192 rfl
      have hcc := cell_below H.s.below y2
      (simp only [execOp]; try simp only [Option.map]); (try simp only [List.map_toArray, List.map_cons, List.map_nil]); (simp only [e192]; go_simp)
      all_goals (try first | go_num | omega | (rw [IntKind.wrap_i64]; omega) | (rw [IntKind.wrap_u8]; omega))
    · refine L.asked_pure rfl rfl (fun _ _ h => h.skip (by decide)) (fun _ _ _ _ _ h => h) (fun _ _ _ => rfl) (fun l a W H => ?_)
      have e193 : a.eval (.tmp 193) = .int .u8 x2 := H.facts 193 rfl
      (simp only [execOp]; try simp only [Option.map]); (try simp only [List.map_toArray, List.map_cons, List.map_nil]); (simp only [e193]; go_simp)
      all_goals (try first | go_num | omega | (rw [IntKind.wrap_i64]; omega) | (rw [IntKind.wrap_u8]; omega))
    · refine L.asked_pure rfl rfl (fun _ _ h => h.skip (by decide)) (fun _ _ _ _ _ h => h) (fun _ _ _ => rfl) (fun l a W H => ?_)
      have e9 : a.eval (.tmp 9) = .pointer (some ⟨pc, 0, none⟩) := (H.base 9 rfl).trans b9
      (simp only [execOp]; try simp only [Option.map]); (try simp only [List.map_toArray, List.map_cons, List.map_nil]); (simp only [e9]; go_simp)
      all_goals (try first | go_num | omega | (rw [IntKind.wrap_i64]; omega) | (rw [IntKind.wrap_u8]; omega))
    · refine L.asked_pure rfl rfl (fun _ _ h => h.skip (by decide)) (fun _ _ _ _ _ h => h) (fun _ _ _ => rfl) (fun l a W H => ?_)
      have e195 : a.eval (.tmp 195) = .pointer (some ⟨pc, 2, none⟩) := H.facts 195 rfl
      have hcc := cell_below H.s.below m2
      (simp only [execOp]; try simp only [Option.map]); (try simp only [List.map_toArray, List.map_cons, List.map_nil]); (simp only [e195]; go_simp)
      all_goals (try first | go_num | omega | (rw [IntKind.wrap_i64]; omega) | (rw [IntKind.wrap_u8]; omega))
    · refine L.asked_pure rfl rfl (fun _ _ h => h.skip (by decide)) (fun _ _ _ _ _ h => h) (fun _ _ _ => rfl) (fun l a W H => ?_)
      have e194 : a.eval (.tmp 194) = .int .i64 x2 := H.facts 194 rfl
      have e196 : a.eval (.tmp 196) = .int .i64 s := H.facts 196 rfl
      (simp only [execOp]; try simp only [Option.map]); (try simp only [List.map_toArray, List.map_cons, List.map_nil]); (simp only [e194, e196]; go_simp)
      all_goals (try first | go_num | omega | (rw [IntKind.wrap_i64]; omega) | (rw [IntKind.wrap_u8]; omega))
    · refine L.asked_pure rfl rfl (fun _ _ h => h.skip (by decide)) (fun _ _ _ _ _ h => h) (fun _ _ _ => rfl) (fun l a W H => ?_)
      have e188 : a.eval (.tmp 188) = .int .i64 z1 := H.facts 188 rfl
      have e197 : a.eval (.tmp 197) = .int .i64 z2 := H.facts 197 rfl
      unfold insV
      (simp only [execOp]; try simp only [Option.map]); (try simp only [List.map_toArray, List.map_cons, List.map_nil]); (simp only [e188, e197]; go_simp)
      all_goals (try first | go_num | omega | (rw [IntKind.wrap_i64]; omega) | (rw [IntKind.wrap_u8]; omega))
    · refine L.asked_skip rfl rfl (fun l a W H => ?_)
      have e19 : a.eval (.tmp 19) = .pointer (some ⟨pn, 0, none⟩) := (H.base 19 rfl).trans b19
      have e198 : a.eval (.tmp 198) = insV ⟨8, 0, z1, z2, 0, 0, []⟩ (.slice none 0 0) := H.facts 198 rfl
      have hrow := H.s.row H.new
      refine ⟨put7 W pn ⟨8, 0, z1, z2, 0, 0, []⟩ (.slice none 0 0), run_store46 rfl e19 e198 hrow, ⟨put7_below H.s.below hpn _ _, fun h => by simp [upd] at h, fun _ => put7_row hrow⟩, fun _ _ h => h⟩
  · intro l q W hall hS hq
    exact hend q W hS.below (hS.done (hall 19 (by decide)))
/-- What is known of each temporary. -/
def G31 (g jb mb mo len mc i n ci kk : Nat) (ua : Option Addr) (x0 xq : Int) : Tmp → Value → World → Prop
  | 199, xx, _ => xx = .slice (some ⟨mb, mo, none⟩) len mc
  | 200, xx, _ => xx = .int .i64 (i : Nat)
  | 201, xx, _ => xx = .pointer (some ⟨mb, mo + i, none⟩)
  | 202, xx, _ => xx = .int .u8 x0
  | 203, xx, _ => xx = .int .u8 xq
  | 204, xx, _ => xx = .int .i64 xq
  | 205, xx, _ => xx = .pointer (some ⟨g, jb * 5, none⟩)
  | 206, xx, _ => xx = .pointer (some ⟨g, jb * 5, none⟩)
  | 207, xx, _ => xx = .pointer (some ⟨g, jb * 5, none⟩)
  | 208, xx, _ => xx = .slice ua n ci
  | 209, xx, _ => xx = .int .i64 (n : Nat)
  | 210, xx, _ => xx = .int .i64 ((n : Int) + 1)
  | 211, xx, _ => xx = .int .i64 (kk : Nat)
  | 20, xx, _ => xx = .int .i64 (kk : Nat)
  | _, _, _ => True
set_option maxRecDepth 100000 in
theorem r31_ok {Q : Exit → Act → World → Prop} {a0 : Act} {wa : World} {g jb mb mo len mc i n ci kk : Nat} {ua : Option Addr} {x0 xq : Int} (hz : a0.tmps.size = 234) (b3 : a0.eval (.tmp 3) = .slice (some ⟨mb, mo, none⟩) len mc) (b17 : a0.eval (.tmp 17) = .int .i64 (i : Nat)) (b18 : a0.eval (.tmp 18) = .pointer (some ⟨g, jb * 5, none⟩))
    (y0 : wa.cell? ⟨mb, mo + i, none⟩ = some (.int .u8 x0)) (hc0 : wa.cell? ⟨g, jb * 5, none⟩ = some (.slice ua n ci)) (hi : (i : Int) < (len : Int)) (tq : x0.tdiv 8 = xq) (hq : 0 ≤ xq ∧ xq < 256) (hn : n ≤ 100) (hkk : xq.tmod ((n : Int) + 1) = (kk : Int))
    (hend : ∀ s : Tmp → Value, s 20 = .int .i64 (kk : Nat) → Q .normal (overlay a0 (dstsOf ops31) s) wa.drew) : (Code.region 31 ops31 true).wp Try.prog Q a0 wa := by
  have n0 : ((n : Int) + 1 == 0) = false := by rw [beq_eq_false_iff_ne]; omega
  have n1 : ((n : Int) + 1 == -1) = false := by rw [beq_eq_false_iff_ne]; omega
  refine L.wp_region_eachL (by kernel_rfl) (fun _ t y _ => G31 g jb mb mo len mc i n ci kk ua x0 xq t y wa) (fun _ W => W = wa.drew) (by rw [hz]; kernel_rfl) rfl ?_ ?_
  · refine And.intro ?_ (And.intro ?_ (And.intro ?_ (And.intro ?_ (And.intro ?_ (And.intro ?_ (And.intro ?_ (And.intro ?_ (And.intro ?_ (And.intro ?_ (And.intro ?_ (And.intro ?_ (And.intro ?_ (And.intro ?_ trivial)))))))))))))
    · refine L.asked_pure rfl rfl (fun _ _ h => h) (fun _ _ _ _ _ h => h) (fun _ _ _ => rfl) (fun l a W H => ?_)
      have e3 : a.eval (.tmp 3) = .slice (some ⟨mb, mo, none⟩) len mc := (H.base 3 rfl).trans b3
      exact run_move rfl e3
    · refine L.asked_pure rfl rfl (fun _ _ h => h) (fun _ _ _ _ _ h => h) (fun _ _ _ => rfl) (fun l a W H => ?_)
      have e17 : a.eval (.tmp 17) = .int .i64 (i : Nat) := (H.base 17 rfl).trans b17
      exact run_move rfl e17
    · refine L.asked_pure rfl rfl (fun _ _ h => h) (fun _ _ _ _ _ h => h) (fun _ _ _ => rfl) (fun l a W H => ?_)
      have e199 : a.eval (.tmp 199) = .slice (some ⟨mb, mo, none⟩) len mc := H.facts 199 rfl
      have e200 : a.eval (.tmp 200) = .int .i64 (i : Nat) := H.facts 200 rfl
      (simp only [execOp]; try simp only [Option.map]); (try simp only [List.map_toArray, List.map_cons, List.map_nil]); (simp only [e199, e200]; go_simp)
      all_goals (try first | go_num | omega | (rw [IntKind.wrap_i64]; omega) | (rw [IntKind.wrap_u8]; omega))
    · refine L.asked_pure rfl rfl (fun _ _ h => h) (fun _ _ _ _ _ h => h) (fun _ _ _ => rfl) (fun l a W H => ?_)
      have e201 : a.eval (.tmp 201) = .pointer (some ⟨mb, mo + i, none⟩) := H.facts 201 rfl
      have hcc : W.cell? ⟨mb, mo + i, none⟩ = some (.int .u8 x0) := by rw [H.s]; exact y0
      (simp only [execOp]; try simp only [Option.map]); (try simp only [List.map_toArray, List.map_cons, List.map_nil]); (simp only [e201]; go_simp)
      all_goals (try first | go_num | omega | (rw [IntKind.wrap_i64]; omega) | (rw [IntKind.wrap_u8]; omega))
    · refine L.asked_pure rfl rfl (fun _ _ h => h) (fun _ _ _ _ _ h => h) (fun _ _ _ => rfl) (fun l a W H => ?_)
      have e202 : a.eval (.tmp 202) = .int .u8 x0 := H.facts 202 rfl
      (simp only [execOp]; try simp only [Option.map]); (try simp only [List.map_toArray, List.map_cons, List.map_nil]); (simp only [e202]; go_simp)
      all_goals (try first | go_num | omega | (rw [IntKind.wrap_i64]; omega) | (rw [IntKind.wrap_u8]; omega))
    · refine L.asked_pure rfl rfl (fun _ _ h => h) (fun _ _ _ _ _ h => h) (fun _ _ _ => rfl) (fun l a W H => ?_)
      have e203 : a.eval (.tmp 203) = .int .u8 xq := H.facts 203 rfl
      (simp only [execOp]; try simp only [Option.map]); (try simp only [List.map_toArray, List.map_cons, List.map_nil]); (simp only [e203]; go_simp)
      all_goals (try first | go_num | omega | (rw [IntKind.wrap_i64]; omega) | (rw [IntKind.wrap_u8]; omega))
    · refine L.asked_pure rfl rfl (fun _ _ h => h) (fun _ _ _ _ _ h => h) (fun _ _ _ => rfl) (fun l a W H => ?_)
      have e18 : a.eval (.tmp 18) = .pointer (some ⟨g, jb * 5, none⟩) := (H.base 18 rfl).trans b18
      exact run_move rfl e18
    · refine L.asked_pure rfl rfl (fun _ _ h => h) (fun _ _ _ _ _ h => h) (fun _ _ _ => rfl) (fun l a W H => ?_)
      have e205 : a.eval (.tmp 205) = .pointer (some ⟨g, jb * 5, none⟩) := H.facts 205 rfl
      (simp only [execOp]; try simp only [Option.map]); (try simp only [List.map_toArray, List.map_cons, List.map_nil]); (simp only [e205]; go_simp)
      all_goals (try first | go_num | omega | (rw [IntKind.wrap_i64]; omega) | (rw [IntKind.wrap_u8]; omega))
    · refine L.asked_pure rfl rfl (fun _ _ h => h) (fun _ _ _ _ _ h => h) (fun _ _ _ => rfl) (fun l a W H => ?_)
      have e206 : a.eval (.tmp 206) = .pointer (some ⟨g, jb * 5, none⟩) := H.facts 206 rfl
      (simp only [execOp]; try simp only [Option.map]); (try simp only [List.map_toArray, List.map_cons, List.map_nil]); (simp only [e206]; go_simp)
      all_goals (try first | go_num | omega | (rw [IntKind.wrap_i64]; omega) | (rw [IntKind.wrap_u8]; omega))
    · refine L.asked_pure rfl rfl (fun _ _ h => h) (fun _ _ _ _ _ h => h) (fun _ _ _ => rfl) (fun l a W H => ?_)
      have e207 : a.eval (.tmp 207) = .pointer (some ⟨g, jb * 5, none⟩) := H.facts 207 rfl
      have hcc : W.cell? ⟨g, jb * 5, none⟩ = some (.slice ua n ci) := by rw [H.s]; exact hc0
      (simp only [execOp]; try simp only [Option.map]); (try simp only [List.map_toArray, List.map_cons, List.map_nil]); (simp only [e207]; go_simp)
      all_goals (try first | go_num | omega | (rw [IntKind.wrap_i64]; omega) | (rw [IntKind.wrap_u8]; omega))
    · refine L.asked_pure rfl rfl (fun _ _ h => h) (fun _ _ _ _ _ h => h) (fun _ _ _ => rfl) (fun l a W H => ?_)
      have e208 : a.eval (.tmp 208) = .slice ua n ci := H.facts 208 rfl
      exact run_len rfl e208 Try.underlying36
    · refine L.asked_pure rfl rfl (fun _ _ h => h) (fun _ _ _ _ _ h => h) (fun _ _ _ => rfl) (fun l a W H => ?_)
      have e209 : a.eval (.tmp 209) = .int .i64 (n : Nat) := H.facts 209 rfl
      (simp only [execOp]; try simp only [Option.map]); (try simp only [List.map_toArray, List.map_cons, List.map_nil]); (simp only [e209]; go_simp)
      all_goals (try first | go_num | omega | (rw [IntKind.wrap_i64]; omega) | (rw [IntKind.wrap_u8]; omega))
    · refine L.asked_pure rfl rfl (fun _ _ h => h) (fun _ _ _ _ _ h => h) (fun _ _ _ => rfl) (fun l a W H => ?_)
      have e204 : a.eval (.tmp 204) = .int .i64 xq := H.facts 204 rfl
      have e210 : a.eval (.tmp 210) = .int .i64 ((n : Int) + 1) := H.facts 210 rfl
      (simp only [execOp]; try simp only [Option.map]); (try simp only [List.map_toArray, List.map_cons, List.map_nil]); (simp only [e204, e210]; go_simp)
      all_goals (try first | go_num | omega | (rw [IntKind.wrap_i64]; omega) | (rw [IntKind.wrap_u8]; omega))
    · refine L.asked_pure rfl rfl (fun _ _ h => h) (fun _ _ _ _ _ h => h) (fun _ _ _ => rfl) (fun l a W H => ?_)
      have e211 : a.eval (.tmp 211) = .int .i64 (kk : Nat) := H.facts 211 rfl
      exact run_assign rfl e211
  · intro l s W _ hS hs
    subst hS
    exact hend s (hs 20 rfl)
set_option maxHeartbeats 1000000 in
set_option maxRecDepth 100000 in
theorem r32_ok {Q : Exit → Act → World → Prop} {a0 : Act} {wd : World} {B g jb n ci kk pn : Nat} {ua : Option Addr} {X : Ins} {ps : List (Ins × Value)} (hz : a0.tmps.size = 234) (b18 : a0.eval (.tmp 18) = .pointer (some ⟨g, jb * 5, none⟩)) (b19 : a0.eval (.tmp 19) = .pointer (some ⟨pn, 0, none⟩)) (b20 : a0.eval (.tmp 20) = .int .i64 (kk : Nat))
    (hc0 : wd.cell? ⟨g, jb * 5, none⟩ = some (.slice ua n ci)) (hrow : ∃ cs, wd.heap[g]? = some (Obj.cells cs 41 (0, 0))) (hbox : InsCells wd pn 0 X (.slice none 0 0)) (hown : wd.ownsRow B 46 7 (.slice ua n ci) ps.length (cellsI ps)) (hpl : ps.length ≤ 100) (hk : kk ≤ ps.length) (hsl : ∀ p ∈ ps, ∃ a n c, p.2 = .slice a n c)
    (hend : ∀ (q : Tmp → Value) (W1 : World) (v : Value), Below wd.heap.size wd W1 → W1.ownsRow wd.heap.size 46 7 v ((ps.take kk ++ [(X, Value.slice none 0 0)]) ++ ps.drop kk).length (cellsI ((ps.take kk ++ [(X, Value.slice none 0 0)]) ++ ps.drop kk)) → Q .normal (overlay a0 (dstsOf ops32) q) (W1.setCell ⟨g, jb * 5, none⟩ v)) : (Code.region 32 ops32 true).wp Try.prog Q a0 wd := by
  obtain ⟨hsrc1, hkc⟩ := SrcI.cut1 hown hk
  obtain ⟨hsrc2, hkn⟩ := SrcI.cut2 hown hk
  refine L.wp_region_eachL (by kernel_rfl) (fun l t y W => G32 wd.heap.size g (jb * 5) kk (.slice ua n ci) (.slice ua kk ci) (.slice (if ci = kk then ua else ua.map (·.add (kk * 7))) (n - kk) (ci - kk)) X ps l t y W) (fun l W => S32 g (jb * 5) wd ((ps.take kk ++ [(X, Value.slice none 0 0)]) ++ ps.drop kk) l W) (by rw [hz]; kernel_rfl) ⟨fun _ => (Below.refl _ _).drew, fun h => by simp at h⟩ ?_ ?_
  · refine And.intro ?_ (And.intro ?_ (And.intro ?_ (And.intro ?_ (And.intro ?_ (And.intro ?_ (And.intro ?_ (And.intro ?_ (And.intro ?_ (And.intro ?_ (And.intro ?_ (And.intro ?_ (And.intro ?_ (And.intro ?_ (And.intro ?_ (And.intro ?_ (And.intro ?_ (And.intro ?_ (And.intro ?_ (And.intro ?_ (And.intro ?_ (And.intro ?_ trivial)))))))))))))))))))))
    · refine L.asked_pure rfl rfl (fun _ _ h => h.skip (by decide)) (fun _ _ _ _ _ h => G32_mono h (by decide) (by decide) (by decide) (by decide) (Below.refl _ _)) (fun _ _ _ => rfl) (fun l a W H => ?_)
      have e18 : a.eval (.tmp 18) = .pointer (some ⟨g, jb * 5, none⟩) := (H.base 18 rfl).trans b18
      exact run_move rfl e18
    · refine L.asked_any rfl (fun l a W H => ?_)
      have hl : l 21 = false := by
        cases hs : l 21 with
        | false => rfl
        | true =>
          have h1 := (H.closed 8 1 (by rfl) (H.closed 11 8 (by rfl) (H.closed 18 11 (by rfl) (H.closed 21 18 (by rfl) hs))))
          rw [H.new] at h1
          cases h1
      have hb := H.s.below hl
      have hbx := bel1' W (.cells #[] 46)
      refine ⟨.slice (some ⟨W.heap.size, 0, none⟩) 0 0, W.alloc (.cells #[] 46), ?_, fun d hd => by cases hd; exact fun _ => ⟨W.heap.size, rfl, hb.size, heap_alloc_new W _⟩, ⟨fun _ => bel_of hb hbx, fun h => by have h' : l 21 = true := h; rw [hl] at h'; cases h'⟩, fun _ _ _ h => G32_mono h (by decide) (by decide) (by decide) (by decide) hbx⟩
      simp only [execOp]
      go_simp
    · refine L.asked_pure rfl rfl (fun _ _ h => h.skip (by decide)) (fun _ _ _ _ _ h => G32_mono h (by decide) (by decide) (by decide) (by decide) (Below.refl _ _)) (fun _ _ _ => rfl) (fun l a W H => ?_)
      have e18 : a.eval (.tmp 18) = .pointer (some ⟨g, jb * 5, none⟩) := (H.base 18 rfl).trans b18
      exact run_move rfl e18
    · refine L.asked_pure rfl rfl (fun _ _ h => h.skip (by decide)) (fun _ _ _ _ _ h => G32_mono h (by decide) (by decide) (by decide) (by decide) (Below.refl _ _)) (fun _ _ _ => rfl) (fun l a W H => ?_)
      have e214 : a.eval (.tmp 214) = .pointer (some ⟨g, jb * 5, none⟩) := H.facts 214 rfl
      (simp only [execOp]; try simp only [Option.map]); (try simp only [List.map_toArray, List.map_cons, List.map_nil]); (simp only [e214]; go_simp)
    · refine L.asked_pure rfl rfl (fun _ _ h => h.skip (by decide)) (fun _ _ _ _ _ h => G32_mono h (by decide) (by decide) (by decide) (by decide) (Below.refl _ _)) (fun _ _ _ => rfl) (fun l a W H => ?_)
      have e215 : a.eval (.tmp 215) = .pointer (some ⟨g, jb * 5, none⟩) := H.facts 215 rfl
      (simp only [execOp]; try simp only [Option.map]); (try simp only [List.map_toArray, List.map_cons, List.map_nil]); (simp only [e215]; go_simp)
    · refine L.asked_pure rfl rfl (fun _ _ h => h.skip (by decide)) (fun _ _ _ _ _ h => G32_mono h (by decide) (by decide) (by decide) (by decide) (Below.refl _ _)) (fun _ _ _ => rfl) (fun l a W H => ?_)
      have e216 : a.eval (.tmp 216) = .pointer (some ⟨g, jb * 5, none⟩) := H.facts 216 rfl
      have hl : l 21 = false := by
        cases hs : l 21 with
        | false => rfl
        | true =>
          have h1 := (H.closed 7 5 (by rfl) (H.closed 8 7 (by rfl) (H.closed 11 8 (by rfl) (H.closed 18 11 (by rfl) (H.closed 21 18 (by rfl) hs)))))
          rw [H.new] at h1
          cases h1
      have hb := H.s.below hl
      have hcc := cell_below hb hc0
      (simp only [execOp]; try simp only [Option.map]); (try simp only [List.map_toArray, List.map_cons, List.map_nil]); (simp only [e216]; go_simp)
    · refine L.asked_pure rfl rfl (fun _ _ h => h.skip (by decide)) (fun _ _ _ _ _ h => G32_mono h (by decide) (by decide) (by decide) (by decide) (Below.refl _ _)) (fun _ _ _ => rfl) (fun l a W H => ?_)
      have e20 : a.eval (.tmp 20) = .int .i64 (kk : Nat) := (H.base 20 rfl).trans b20
      exact run_move rfl e20
    · refine L.asked_pure rfl rfl (fun _ _ h => h.skip (by decide)) (fun _ _ _ _ _ h => G32_mono h (by decide) (by decide) (by decide) (by decide) (Below.refl _ _)) (fun _ _ _ => rfl) (fun l a W H => ?_)
      have e217 : a.eval (.tmp 217) = .slice ua n ci := H.facts 217 rfl
      have e218 : a.eval (.tmp 218) = .int .i64 (kk : Nat) := H.facts 218 rfl
      generalize hρ : a.eval = ρ at *
      (simp only [execOp]; try simp only [Option.map]); (try simp only [List.map_toArray, List.map_cons, List.map_nil]); (simp only [e217, e218, run_cut1 hkc, Sem.run_bind, Sem.run_pure, Result.andThen_ok])
    · refine L.asked_any rfl (fun l a W H => ?_)
      have hl : l 21 = false := by
        cases hs : l 21 with
        | false => rfl
        | true =>
          have h1 := (H.closed 11 8 (by rfl) (H.closed 18 11 (by rfl) (H.closed 21 18 (by rfl) hs)))
          rw [H.new] at h1
          cases h1
      have hb := H.s.below hl
      have l11 : l 11 = false := by
        cases hq : l 11 with
        | false => rfl
        | true =>
          have h1 := H.closed 11 8 (by rfl) hq
          rw [H.new] at h1
          cases h1
      have l18 : l 18 = false := by
        cases hq : l 18 with
        | false => rfl
        | true =>
          have h1 := H.closed 11 8 (by rfl) (H.closed 18 11 (by rfl) hq)
          rw [H.new] at h1
          cases h1
      have e219 : a.eval (.tmp 219) = .slice ua kk ci := H.facts 219 rfl
      obtain ⟨h0, e213, hB0, hr0⟩ := (show l 8 = false → ∃ h, a.eval (.tmp 213) = .slice (some ⟨h, 0, none⟩) 0 0 ∧ wd.heap.size ≤ h ∧ W.heap[h]? = some (Obj.cells #[] 46 (0, 0)) from H.facts 213 rfl) H.new
      have hown0 : W.ownsRow wd.heap.size 46 7 (.slice (some ⟨h0, 0, none⟩) 0 0) ([] : List (Ins × Value)).length (cellsI []) := ⟨rfl, .inr ⟨h0, 0, #[], rfl, hB0, hr0, Nat.le_refl _, by simp [maxLen], rfl, rfl⟩⟩
      refine appI_ok rfl e213 e219 hown0 (hsrc1.below hb) (fun p hp => hsl p (List.mem_of_mem_take hp)) (by simp only [List.length_nil, List.length_take]; omega) hb.size fun v' w' g1 g2 => ?_
      rw [List.nil_append] at g1
      exact ⟨fun d hd => by cases hd; exact fun _ _ => g1, ⟨fun _ => hb.grown g2 hb.size (fun k hk => by simp only [Value.ownBlock, Option.some.injEq] at hk; subst hk; exact hB0), fun h => by have h' : l 21 = true := h; rw [hl] at h'; cases h'⟩, fun d _ hd h => G32_8 h (fun e => hd (by rw [e])) l11 l18 hr0 g2⟩
    · refine L.asked_pure rfl rfl (fun _ _ h => h.skip (by decide)) (fun _ _ _ _ _ h => G32_mono h (by decide) (by decide) (by decide) (by decide) (Below.refl _ _)) (fun _ _ _ => rfl) (fun l a W H => ?_)
      have e19 : a.eval (.tmp 19) = .pointer (some ⟨pn, 0, none⟩) := (H.base 19 rfl).trans b19
      have hl : l 21 = false := by
        cases hs : l 21 with
        | false => rfl
        | true =>
          have h1 := (H.closed 10 9 (by rfl) (H.closed 11 10 (by rfl) (H.closed 18 11 (by rfl) (H.closed 21 18 (by rfl) hs))))
          rw [H.new] at h1
          cases h1
      have hb := H.s.below hl
      exact run_load46 rfl e19 (hbox.below hb)
    · refine L.asked_any rfl (fun l a W H => ?_)
      have hl : l 21 = false := by
        cases hs : l 21 with
        | false => rfl
        | true =>
          have h1 := (H.closed 11 10 (by rfl) (H.closed 18 11 (by rfl) (H.closed 21 18 (by rfl) hs)))
          rw [H.new] at h1
          cases h1
      have hb := H.s.below hl
      have e221 : a.eval (.tmp 221) = insV X (.slice none 0 0) := H.facts 221 rfl
      have hbx := bel1' W (.cells (rowI X (.slice none 0 0)) 46)
      refine ⟨.slice (some ⟨W.heap.size, 0, none⟩) 1 1, W.alloc (.cells (rowI X (.slice none 0 0)) 46), ?_, fun d hd => by cases hd; exact fun _ => ⟨W.heap.size, rfl, hb.size, heap_alloc_new W _⟩, ⟨fun _ => bel_of hb hbx, fun h => by have h' : l 21 = true := h; rw [hl] at h'; cases h'⟩, fun _ _ _ h => G32_mono h (by decide) (by decide) (by decide) (by decide) hbx⟩
      unfold insV at e221
      unfold rowI
      (simp only [execOp]; try simp only [Option.map]); (try simp only [List.map_toArray, List.map_cons, List.map_nil]); (simp only [e221]; go_simp)
    · refine L.asked_any rfl (fun l a W H => ?_)
      have hl : l 21 = false := by
        cases hs : l 21 with
        | false => rfl
        | true =>
          have h1 := (H.closed 18 11 (by rfl) (H.closed 21 18 (by rfl) hs))
          rw [H.new] at h1
          cases h1
      have hb := H.s.below hl
      have l18 : l 18 = false := by
        cases hq : l 18 with
        | false => rfl
        | true =>
          have h1 := H.closed 18 11 (by rfl) hq
          rw [H.new] at h1
          cases h1
      have l8 : l 8 = true := H.deps ⟨8, .data⟩ (by simp) rfl
      obtain ⟨h2, e222, hB2, hr2⟩ := (show l 11 = false → ∃ h, a.eval (.tmp 222) = .slice (some ⟨h, 0, none⟩) 1 1 ∧ wd.heap.size ≤ h ∧ W.heap[h]? = some (Obj.cells (rowI X (.slice none 0 0)) 46 (0, 0)) from H.facts 222 rfl) H.new
      have hown0 := (show l 8 = true → l 11 = false → W.ownsRow wd.heap.size 46 7 (a.eval (.tmp 220)) (ps.take kk).length (cellsI (ps.take kk)) from H.facts 220 rfl) l8 H.new
      have hs2 : SrcI W (.slice (some ⟨h2, 0, none⟩) 1 1) [(X, Value.slice none 0 0)] := .inr ⟨_, _, rfl, fun k u hk => by rw [Addr.add_lit, Nat.zero_add, cell_of_row _ _ _ _ _ _ hr2]; simpa [cellsI, rowI] using hk⟩
      refine appI_ok rfl rfl e222 hown0 hs2 (fun p hp => by simp at hp; subst hp; exact ⟨_, _, _, rfl⟩) (by simp only [List.length_cons, List.length_nil, List.length_take]; omega) hb.size fun v' w' g1 g2 => ?_
      exact ⟨fun d hd => by cases hd; exact fun _ _ => g1, ⟨fun _ => hb.grown g2 hb.size (fun k hk => (hown0.lt k hk).1), fun h => by have h' : l 21 = true := h; rw [hl] at h'; cases h'⟩, fun d _ hd h => G32_11 h (fun e => hd (by rw [e])) l8 l18⟩
    · refine L.asked_pure rfl rfl (fun _ _ h => h.skip (by decide)) (fun _ _ _ _ _ h => G32_mono h (by decide) (by decide) (by decide) (by decide) (Below.refl _ _)) (fun _ _ _ => rfl) (fun l a W H => ?_)
      have e18 : a.eval (.tmp 18) = .pointer (some ⟨g, jb * 5, none⟩) := (H.base 18 rfl).trans b18
      exact run_move rfl e18
    · refine L.asked_pure rfl rfl (fun _ _ h => h.skip (by decide)) (fun _ _ _ _ _ h => G32_mono h (by decide) (by decide) (by decide) (by decide) (Below.refl _ _)) (fun _ _ _ => rfl) (fun l a W H => ?_)
      have e224 : a.eval (.tmp 224) = .pointer (some ⟨g, jb * 5, none⟩) := H.facts 224 rfl
      (simp only [execOp]; try simp only [Option.map]); (try simp only [List.map_toArray, List.map_cons, List.map_nil]); (simp only [e224]; go_simp)
    · refine L.asked_pure rfl rfl (fun _ _ h => h.skip (by decide)) (fun _ _ _ _ _ h => G32_mono h (by decide) (by decide) (by decide) (by decide) (Below.refl _ _)) (fun _ _ _ => rfl) (fun l a W H => ?_)
      have e225 : a.eval (.tmp 225) = .pointer (some ⟨g, jb * 5, none⟩) := H.facts 225 rfl
      (simp only [execOp]; try simp only [Option.map]); (try simp only [List.map_toArray, List.map_cons, List.map_nil]); (simp only [e225]; go_simp)
    · refine L.asked_pure rfl rfl (fun _ _ h => h.skip (by decide)) (fun _ _ _ _ _ h => G32_mono h (by decide) (by decide) (by decide) (by decide) (Below.refl _ _)) (fun _ _ _ => rfl) (fun l a W H => ?_)
      have e226 : a.eval (.tmp 226) = .pointer (some ⟨g, jb * 5, none⟩) := H.facts 226 rfl
      have hl : l 21 = false := by
        cases hs : l 21 with
        | false => rfl
        | true =>
          have h1 := (H.closed 17 15 (by rfl) (H.closed 18 17 (by rfl) (H.closed 21 18 (by rfl) hs)))
          rw [H.new] at h1
          cases h1
      have hb := H.s.below hl
      have hcc := cell_below hb hc0
      (simp only [execOp]; try simp only [Option.map]); (try simp only [List.map_toArray, List.map_cons, List.map_nil]); (simp only [e226]; go_simp)
    · refine L.asked_pure rfl rfl (fun _ _ h => h.skip (by decide)) (fun _ _ _ _ _ h => G32_mono h (by decide) (by decide) (by decide) (by decide) (Below.refl _ _)) (fun _ _ _ => rfl) (fun l a W H => ?_)
      have e20 : a.eval (.tmp 20) = .int .i64 (kk : Nat) := (H.base 20 rfl).trans b20
      exact run_move rfl e20
    · refine L.asked_pure rfl rfl (fun _ _ h => h.skip (by decide)) (fun _ _ _ _ _ h => G32_mono h (by decide) (by decide) (by decide) (by decide) (Below.refl _ _)) (fun _ _ _ => rfl) (fun l a W H => ?_)
      have e227 : a.eval (.tmp 227) = .slice ua n ci := H.facts 227 rfl
      have e228 : a.eval (.tmp 228) = .int .i64 (kk : Nat) := H.facts 228 rfl
      generalize hρ : a.eval = ρ at *
      (simp only [execOp]; try simp only [Option.map]); (try simp only [List.map_toArray, List.map_cons, List.map_nil]); (simp only [e227, e228, run_cut2 hkn, Sem.run_bind, Sem.run_pure, Result.andThen_ok])
      cases ua <;> rfl
    · refine L.asked_any rfl (fun l a W H => ?_)
      have hl : l 21 = false := by
        cases hs : l 21 with
        | false => rfl
        | true =>
          have h1 := (H.closed 21 18 (by rfl) hs)
          rw [H.new] at h1
          cases h1
      have hb := H.s.below hl
      have l11 : l 11 = true := H.deps ⟨11, .data⟩ (by simp) rfl
      have l8 : l 8 = true := H.closed 11 8 (by rfl) l11
      have e229 : a.eval (.tmp 229) = .slice (if ci = kk then ua else ua.map (·.add (kk * 7))) (n - kk) (ci - kk) := H.facts 229 rfl
      have hown0 := (show l 11 = true → l 18 = false → W.ownsRow wd.heap.size 46 7 (a.eval (.tmp 223)) (ps.take kk ++ [(X, Value.slice none 0 0)]).length (cellsI (ps.take kk ++ [(X, Value.slice none 0 0)])) from H.facts 223 rfl) l11 H.new
      refine appI_ok rfl rfl e229 hown0 (hsrc2.below hb) (fun p hp => hsl p (List.mem_of_mem_drop hp)) (by simp only [List.length_append, List.length_cons, List.length_nil, List.length_take, List.length_drop]; omega) hb.size fun v' w' g1 g2 => ?_
      exact ⟨fun d hd => by cases hd; exact fun _ _ => g1, ⟨fun _ => hb.grown g2 hb.size (fun k hk => (hown0.lt k hk).1), fun h => by have h' : l 21 = true := h; rw [hl] at h'; cases h'⟩, fun d _ hd h => G32_18 h (fun e => hd (by rw [e])) l8 l11⟩
    · refine L.asked_pure rfl rfl (fun _ _ h => h.skip (by decide)) (fun _ _ _ _ _ h => G32_mono h (by decide) (by decide) (by decide) (by decide) (Below.refl _ _)) (fun _ _ _ => rfl) (fun l a W H => ?_)
      have e212 : a.eval (.tmp 212) = .pointer (some ⟨g, jb * 5, none⟩) := H.facts 212 rfl
      (simp only [execOp]; try simp only [Option.map]); (try simp only [List.map_toArray, List.map_cons, List.map_nil]); (simp only [e212]; go_simp)
    · refine L.asked_pure rfl rfl (fun _ _ h => h.skip (by decide)) (fun _ _ _ _ _ h => G32_mono h (by decide) (by decide) (by decide) (by decide) (Below.refl _ _)) (fun _ _ _ => rfl) (fun l a W H => ?_)
      have e231 : a.eval (.tmp 231) = .pointer (some ⟨g, jb * 5, none⟩) := H.facts 231 rfl
      (simp only [execOp]; try simp only [Option.map]); (try simp only [List.map_toArray, List.map_cons, List.map_nil]); (simp only [e231]; go_simp)
    · refine L.asked_skip rfl rfl (fun l a W H => ?_)
      have hb := H.s.below H.new
      have l18 : l 18 = true := H.deps ⟨18, .data⟩ (by simp) rfl
      have l11 : l 11 = true := H.closed 18 11 (by rfl) l18
      have l8 : l 8 = true := H.closed 11 8 (by rfl) l11
      have e232 : a.eval (.tmp 232) = .pointer (some ⟨g, jb * 5, none⟩) := H.facts 232 rfl
      have hO := (show l 18 = true → l 21 = false → W.ownsRow wd.heap.size 46 7 (a.eval (.tmp 230)) ((ps.take kk ++ [(X, Value.slice none 0 0)]) ++ ps.drop kk).length (cellsI ((ps.take kk ++ [(X, Value.slice none 0 0)]) ++ ps.drop kk)) from H.facts 230 rfl) l18 H.new
      generalize e230 : a.eval (.tmp 230) = yv at hO
      obtain ⟨ya, yn, yc, rfl⟩ : ∃ ya yn yc, yv = .slice ya yn yc := by
        rcases hO.2 with ⟨rfl, _⟩ | ⟨_, _, _, rfl, _⟩
        · exact ⟨_, _, _, rfl⟩
        · exact ⟨_, _, _, rfl⟩
      have hcc := cell_below hb hc0
      obtain ⟨csg, hcg⟩ := hrow
      have hrg := hb.block g (Array.getElem?_eq_some_iff.1 hcg).1
      rw [hcg] at hrg
      have hf : W.frozen? ⟨g, jb * 5, none⟩ = false := frozen_of_row _ _ _ _ _ hrg
      refine ⟨W.setCell ⟨g, jb * 5, none⟩ (.slice ya yn yc), ?_, ⟨fun h => by simp [upd] at h, fun _ => ⟨W, _, hb, hO, rfl⟩⟩, fun _ _ h => G32_21 h l8 l11 l18⟩
      (simp only [execOp]; try simp only [Option.map]); (try simp only [List.map_toArray, List.map_cons, List.map_nil]); (simp only [e230, e232]; go_simp)
  · intro l q W hall hS hq
    obtain ⟨W1, v, h1, h2, rfl⟩ := hS.done (hall 21 (by decide))
    exact hend q W1 v h1 h2

/-! ### What a round picks -/
theorem bytes3 {w : World} {ma : Option Addr} {mc i : Nat} {ms : List Int} (h : Byt w (.slice ma ms.length mc) ms) (hi : i + 2 < ms.length) : ∃ mb mo x0 x1 x2, ma = some ⟨mb, mo, none⟩ ∧ (w.cell? ⟨mb, mo + i, none⟩ = some (.int .u8 x0) ∧ 0 ≤ x0 ∧ x0 < 256) ∧ (w.cell? ⟨mb, mo + (i + 1), none⟩ = some (.int .u8 x1) ∧ 0 ≤ x1 ∧ x1 < 256) ∧ (w.cell? ⟨mb, mo + (i + 2), none⟩ = some (.int .u8 x2) ∧ 0 ≤ x2 ∧ x2 < 256) := by
  obtain ⟨mb, mo, rfl, hall⟩ := SlV.all h (by omega)
  have y0 := hall i (by omega)
  have y1 := hall (i + 1) (by omega)
  have y2 := hall (i + 2) (by omega)
  rw [Nat.mul_one] at y0 y1 y2
  exact ⟨mb, mo, _, _, _, rfl, y0, y1, y2⟩
theorem modN {x : Int} {j : Nat} (hx : 0 ≤ x) (hj : 0 < j) : ∃ jb : Nat, x.tmod (j : Int) = (jb : Int) ∧ jb < j := by
  have h0 := Int.emod_nonneg x (show (j : Int) ≠ 0 by omega)
  have h1 := Int.emod_lt_of_pos x (show (0 : Int) < (j : Int) by omega)
  exact ⟨(x % (j : Int)).toNat, by rw [Int.tmod_eq_emod_of_nonneg hx]; omega, by omega⟩
theorem modZ {x r : Int} (hx : 0 ≤ x) (hr : 0 < r) : ∃ z, x.tmod r = z ∧ 0 ≤ z ∧ z < r := ⟨_, rfl, tmod_in hr hx⟩
theorem divQ {x : Int} (hx : 0 ≤ x ∧ x < 256) (n : Nat) : ∃ (xq : Int) (kk : Nat), x.tdiv 8 = xq ∧ (0 ≤ xq ∧ xq < 256) ∧ xq.tmod ((n : Int) + 1) = (kk : Int) ∧ kk ≤ n := by
  have hq : 0 ≤ x.tdiv 8 ∧ x.tdiv 8 < 256 := by
    rw [Int.tdiv_eq_ediv_of_nonneg hx.1]
    omega
  obtain ⟨kk, h1, h2⟩ := modN (x := x.tdiv 8) (j := n + 1) hq.1 (by omega)
  exact ⟨_, kk, rfl, hq, by rw [← h1]; rfl, by omega⟩
theorem block5 {B pc pr g gc nb : Nat} {p r s : Int} {w : World} {i : Nat} {bs2 : List Blk} {wr : World} (h : I5 B pc pr g gc nb p r s w i bs2 wr) (hi : i < 60) {jb : Nat} (hj : jb < bs2.length) : ∃ ua ci, ∃ ps : List (Ins × Value), wr.cell? ⟨g, jb * 5, none⟩ = some (.slice ua ps.length ci) ∧ wr.ownsRow B 46 7 (.slice ua ps.length ci) ps.length (cellsI ps) ∧ ps.map (·.1) = bs2[jb].ins ∧ (∀ q ∈ ps, ArgsO B wr q.2 q.1.args) ∧ ps.length ≤ 100 := by
  obtain ⟨ui, hbc, hio⟩ := h.own.at jb hj
  obtain ⟨ps, hps, hown, hargs⟩ := hio
  have hpl : ps.length ≤ 100 := by
    have h1 := congrArg List.length hps
    rw [List.length_map] at h1
    have h2 := (h.right _ (List.getElem_mem hj)).2
    omega
  rcases hown.2 with ⟨rfl, h0⟩ | ⟨g', cap, cur, rfl, _⟩
  · refine ⟨none, 0, ps, ?_, ?_, hps, hargs, hpl⟩
    · rw [h0]
      exact hbc.c0
    · have := hown
      rw [h0] at this ⊢
      exact this
  · exact ⟨_, _, ps, hbc.c0, hown, hps, hargs, hpl⟩
end Go.Proofs.Ytbgedbahabbanaa
