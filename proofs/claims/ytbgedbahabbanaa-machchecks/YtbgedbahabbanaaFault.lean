/- Faults compared, and what is made is small. -/
import Derived.Test.YtbgedbahabbanaaAwake
import Derived.Test.YtbgedbahabbanaaMade
import Derived.Test.YtbgedbahabbanaaTurn
namespace Go.Proofs.Ytbgedbahabbanaa
open Go.RowKit Ir
variable {a : Act} {w : World} {o : Oper}
theorem run_neq33_same {x y : Operand} {t : TypeId} {c : Int × Int × Int} (hop : o.op = .binOp .neq 33 x y t) (ex : a.eval x = faultV c) (ey : a.eval y = faultV c) : (execOp a.eval o).run Try.prog w = .ok (.value (.bool false)) w := by
  have h := run_neq33 c.1 c.2.1 c.2.2 c.1 c.2.1 c.2.2 w
  unfold faultV at ex ey
  generalize a.eval = ρ at ex ey ⊢
  unfold execOp
  rw [hop]
  simp only [ex, ey]
  simp only [BEq.rfl, Bool.and_self, Bool.not_true] at h
  go_simp
theorem run_eql33_same {x y : Operand} {t : TypeId} {c : Int × Int × Int} (hop : o.op = .binOp .eql 33 x y t) (ex : a.eval x = faultV c) (ey : a.eval y = faultV c) : (execOp a.eval o).run Try.prog w = .ok (.value (.bool true)) w := by
  have h := run_eql33 c.1 c.2.1 c.2.2 c.1 c.2.1 c.2.2 w
  unfold faultV at ex ey
  generalize a.eval = ρ at ex ey ⊢
  unfold execOp
  rw [hop]
  simp only [ex, ey]
  simp only [BEq.rfl, Bool.and_self] at h
  go_simp
theorem run_build33 (hop : o.op = .build 33 #[]) : (execOp a.eval o).run Try.prog w = .ok (.value (faultV (0, 0, 0))) w := by
  generalize a.eval = ρ
  unfold execOp
  rw [hop]
  go_simp
  rfl
theorem right_small {F : Fun} (h : chk F = (0, 0, 0)) : ∀ x ∈ F.bs, x.ins.length < 100000 ∧ ∀ i ∈ x.ins, i.args.length ≤ 1000000 := by
  intro x hx
  obtain ⟨_, h2⟩ := chk_all (F := F) (by rw [h])
  obtain ⟨h3, h4, _⟩ := blkF_all (h2 x hx)
  exact ⟨by omega, fun i hi => by have := (inF_all (h4 i hi)).2.1; omega⟩
theorem BlksO.mono {B B' : Nat} {w : World} {v : Value} {bs : List Blk} (h : BlksO B w v bs) (hB : B' ≤ B) : BlksO B' w v bs := by
  obtain ⟨ps, h1, h2, h3⟩ := h
  exact ⟨ps, h1, owns_mono h2 hB, fun p hp => (h3 p hp).mono hB⟩
theorem BlksO.below {B : Nat} {w w' : World} {v : Value} {bs : List Blk} (h : BlksO B w v bs) (hB : Below w.heap.size w w') : BlksO B w' v bs := h.keeps (Keeps.below hB)
/-- Three cells of a function in a box of the call's own, in a later world. -/
theorem boxF {w w1 : World} {p v : Int} {u : Value} (hB : Below (w.alloc (.cells #[.int .i64 p, .int .i64 v, u] 53)).heap.size (w.alloc (.cells #[.int .i64 p, .int .i64 v, u] 53)) w1) :
    w1.cell? ⟨w.heap.size, 0, none⟩ = some (.int .i64 p) ∧ w1.cell? ⟨w.heap.size, 1, none⟩ = some (.int .i64 v) ∧ w1.cell? ⟨w.heap.size, 2, none⟩ = some u :=
  ⟨box_cell hB 0 rfl, box_cell hB 1 rfl, box_cell hB 2 rfl⟩
theorem boxS {w w1 : World} {a b c : Int} {u : Value} (hB : Below (w.alloc (.cells #[.int .u8 a, .int .u8 b, .int .u8 c, u] 27)).heap.size (w.alloc (.cells #[.int .u8 a, .int .u8 b, .int .u8 c, u] 27)) w1) :
    w1.cell? ⟨w.heap.size, 0, none⟩ = some (.int .u8 a) ∧ w1.cell? ⟨w.heap.size, 1, none⟩ = some (.int .u8 b) ∧ w1.cell? ⟨w.heap.size, 2, none⟩ = some (.int .u8 c) ∧ w1.cell? ⟨w.heap.size, 3, none⟩ = some u :=
  ⟨box_cell hB 0 rfl, box_cell hB 1 rfl, box_cell hB 2 rfl, box_cell hB 3 rfl⟩
theorem SpecV.below {w w' : World} {v : Value} {a b c : Int} {bs : List Int} (h : SpecV w v a b c bs) (hB : Below w.heap.size w w') : SpecV w' v a b c bs := by
  obtain ⟨u, h1, h2, h3, h4, h5⟩ := h
  exact ⟨u, h1, h2, h3, h4, h5.below hB⟩
end Go.Proofs.Ytbgedbahabbanaa
