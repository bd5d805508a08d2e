/- ir.insFault: an instruction's fault. -/
import Derived.Test.YtblcbccchlljhaaEnds
import Derived.Test.YtblcbccchlljhaaInts
import Derived.Test.YtblcbccchlljhaaFormed
import Derived.Test.YtblcbccchlljhaaOps
namespace Go.Proofs.Ytblcbccchlljhaa
open Go.RowKit Ir

/-- An instruction in a box of the call's own, in a later world. -/
theorem boxI {w w1 : World} {i : Ins} {u : Value} (hB : Below (w.alloc (.cells #[.int .u8 i.k, .int .u8 i.op, .int .i64 i.d, .int .i64 i.a, .int .i64 i.b, .int .i64 i.n, u] 79)).heap.size (w.alloc (.cells #[.int .u8 i.k, .int .u8 i.op, .int .i64 i.d, .int .i64 i.a, .int .i64 i.b, .int .i64 i.n, u] 79)) w1) : InsCells w1 w.heap.size 0 i u :=
  ⟨box_cell hB 0 rfl, box_cell hB 1 rfl, box_cell hB 2 rfl, box_cell hB 3 rfl, box_cell hB 4 rfl, box_cell hB 5 rfl, box_cell hB 6 rfl⟩
/-- The same, its cells one by one. -/
theorem InsCells.zero {w : World} {b : Nat} {i : Ins} {u : Value} (h : InsCells w b 0 i u) : w.cell? ⟨b, 0, none⟩ = some (.int .u8 i.k) ∧ w.cell? ⟨b, 1, none⟩ = some (.int .u8 i.op) ∧ w.cell? ⟨b, 2, none⟩ = some (.int .i64 i.d) ∧ w.cell? ⟨b, 3, none⟩ = some (.int .i64 i.a) ∧ w.cell? ⟨b, 4, none⟩ = some (.int .i64 i.b) ∧ w.cell? ⟨b, 5, none⟩ = some (.int .i64 i.n) ∧ w.cell? ⟨b, 6, none⟩ = some u :=
  ⟨h.c0, h.c1, h.c2, h.c3, h.c4, h.c5, h.c6⟩
theorem uses_len {i : Ins} (h : i.args.length ≤ 3) : (uses i).length ≤ 3 := by
  unfold uses
  (repeat' split) <;> first | exact h | simp

end Go.Proofs.Ytblcbccchlljhaa
namespace Go.Proofs.Ytblcbccchlljhaa
open Go.RowKit Ir

/-- What is known of each temporary that blockFault's last statement writes. -/
def Gbf (g : Nat) (v nb : Int) (e : En) (ua : Option Addr) (n ca : Nat) : Tmp → Value → World → Prop
  | 31, xx, _ => xx = .pointer (some ⟨g, 1, none⟩)
  | 32, xx, _ => xx = endV e
  | 33, xx, _ => xx = .int .i64 v
  | 34, xx, _ => xx = .int .i64 nb
  | 35, xx, _ => xx = .int .i64 (endF e v nb)
  | 36, xx, _ => xx = .pointer (some ⟨g, 0, none⟩)
  | 37, xx, _ => xx = .slice ua n ca
  | 38, xx, _ => xx = .int .i64 (n : Nat)
  | 6, xx, _ => xx = .int .i64 (endF e v nb)
  | 7, xx, _ => xx = .int .i64 (n : Nat)
  | _, _, _ => True

theorem boxB {w w1 : World} {u : Value} {e : En} (hB : Below (w.alloc (.cells #[u, .int .u8 e.k, .int .i64 e.a, .int .i64 e.to, .int .i64 e.el] 69)).heap.size (w.alloc (.cells #[u, .int .u8 e.k, .int .i64 e.a, .int .i64 e.to, .int .i64 e.el] 69)) w1) : BlkCells w1 w.heap.size 0 u e :=
  ⟨box_cell hB 0 rfl, box_cell hB 1 rfl, box_cell hB 2 rfl, box_cell hB 3 rfl, box_cell hB 4 rfl⟩
theorem BlkCells.zero {w : World} {b : Nat} {u : Value} {e : En} (h : BlkCells w b 0 u e) : w.cell? ⟨b, 0, none⟩ = some u ∧ w.cell? ⟨b, 1, none⟩ = some (.int .u8 e.k) ∧ w.cell? ⟨b, 2, none⟩ = some (.int .i64 e.a) ∧ w.cell? ⟨b, 3, none⟩ = some (.int .i64 e.to) ∧ w.cell? ⟨b, 4, none⟩ = some (.int .i64 e.el) :=
  ⟨h.c0, h.c1, h.c2, h.c3, h.c4⟩

end Go.Proofs.Ytblcbccchlljhaa
namespace Go.Proofs.Ytblcbccchlljhaa
open Go.RowKit Ir

theorem sized_eq (F : Fun) : sized F = (decide (0 ≤ F.p) && (decide (F.p ≤ 4) && (decide (F.p ≤ F.v) && (decide (F.v ≤ 32) && (decide (1 ≤ (F.bs.length : Int)) && decide ((F.bs.length : Int) ≤ 16)))))) := by
  rw [Bool.eq_iff_iff]
  simp [sized]
  omega
def faultV (c : Int × Int × Int) : Value := .agg #[.int .i64 c.1, .int .i64 c.2.1, .int .i64 c.2.2]
/-- Three cells of a result of the call's own, in a later world. -/
theorem box33 {w w1 : World} (hB : Below (w.alloc (.cells #[.int .i64 0, .int .i64 0, .int .i64 0] 70)).heap.size (w.alloc (.cells #[.int .i64 0, .int .i64 0, .int .i64 0] 70)) w1) :
    w1.cell? ⟨w.heap.size, 0, none⟩ = some (.int .i64 0) ∧ w1.cell? ⟨w.heap.size, 1, none⟩ = some (.int .i64 0) ∧ w1.cell? ⟨w.heap.size, 2, none⟩ = some (.int .i64 0) ∧
    w1.frozen? ⟨w.heap.size, 0, none⟩ = false ∧ w1.frozen? ⟨w.heap.size, 1, none⟩ = false ∧ w1.frozen? ⟨w.heap.size, 2, none⟩ = false := by
  have hn := heap_alloc_new w (.cells #[.int .i64 0, .int .i64 0, .int .i64 0] 70)
  have hb : w1.heap[w.heap.size]? = some (.cells #[.int .i64 0, .int .i64 0, .int .i64 0] 70) := by
    rw [hB.block _ (by simp)]
    exact hn
  exact ⟨box_cell hB 0 rfl, box_cell hB 1 rfl, box_cell hB 2 rfl, frozen_of_row _ _ _ _ _ hb, frozen_of_row _ _ _ _ _ hb, frozen_of_row _ _ _ _ _ hb⟩

/-- Three cells, stored one behind the other. -/
theorem set3 {w : World} {g : Nat} {x0 x1 x2 : Value} (a b c : Value) (r0 : w.cell? ⟨g, 0, none⟩ = some x0) (r1 : w.cell? ⟨g, 1, none⟩ = some x1) (r2 : w.cell? ⟨g, 2, none⟩ = some x2) :
    (w.setCell ⟨g, 0, none⟩ a).cell? ⟨g, 0, none⟩ = some a ∧ ((w.setCell ⟨g, 0, none⟩ a).setCell ⟨g, 1, none⟩ b).cell? ⟨g, 1, none⟩ = some b ∧ (((w.setCell ⟨g, 0, none⟩ a).setCell ⟨g, 1, none⟩ b).setCell ⟨g, 2, none⟩ c).cell? ⟨g, 2, none⟩ = some c := by
  have h1 : (w.setCell ⟨g, 0, none⟩ a).cell? ⟨g, 1, none⟩ = some x1 := (World.cell?_setCell_other (w := w) (a := ⟨g, 0, none⟩) (b := ⟨g, 1, none⟩) (v := a) (by simp)).trans r1
  have h2 : (w.setCell ⟨g, 0, none⟩ a).cell? ⟨g, 2, none⟩ = some x2 := (World.cell?_setCell_other (w := w) (a := ⟨g, 0, none⟩) (b := ⟨g, 2, none⟩) (v := a) (by simp)).trans r2
  have h3 : ((w.setCell ⟨g, 0, none⟩ a).setCell ⟨g, 1, none⟩ b).cell? ⟨g, 2, none⟩ = some x2 := (World.cell?_setCell_other (w := w.setCell ⟨g, 0, none⟩ a) (a := ⟨g, 1, none⟩) (b := ⟨g, 2, none⟩) (v := b) (by simp)).trans h2
  exact ⟨World.cell?_setCell_same (w := w) (a := ⟨g, 0, none⟩) (v := a) r0, World.cell?_setCell_same (w := w.setCell ⟨g, 0, none⟩ a) (a := ⟨g, 1, none⟩) (v := b) h1, World.cell?_setCell_same (w := (w.setCell ⟨g, 0, none⟩ a).setCell ⟨g, 1, none⟩ b) (a := ⟨g, 2, none⟩) (v := c) h3⟩
theorem bel_set3 {B : Nat} {w w1 : World} (h : Below B w w1) {g : Nat} (hg : B ≤ g) (a b c : Value) : Below B w (((w1.setCell ⟨g, 0, none⟩ a).setCell ⟨g, 1, none⟩ b).setCell ⟨g, 2, none⟩ c) :=
  ((h.setCell (p := ⟨g, 0, none⟩) hg a).setCell (p := ⟨g, 1, none⟩) hg b).setCell (p := ⟨g, 2, none⟩) hg c
end Go.Proofs.Ytblcbccchlljhaa
