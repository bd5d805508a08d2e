/- A row of instructions of the call's own: one's arguments stored anew. -/
import Derived.Test.YtbgedbahabbanaaPairs
import Derived.Test.YtbgedbahabbanaaSoft
namespace Go.Proofs.Ytbgedbahabbanaa
open Go.RowKit Ir
theorem cellsI_cons (p : Ins × Value) (ps : List (Ins × Value)) : cellsI (p :: ps) = [.int .u8 p.1.k, .int .u8 p.1.op, .int .i64 p.1.d, .int .i64 p.1.a, .int .i64 p.1.b, .int .i64 p.1.n, p.2] ++ cellsI ps := by simp [cellsI]
theorem cellsI_set : ∀ (ps : List (Ins × Value)) (j : Nat) (u : Value) (hj : j < ps.length), cellsI (ps.set j (ps[j].1, u)) = (cellsI ps).set (j * 7 + 6) u
  | [], j, _, hj => by simp at hj
  | p :: ps, 0, u, _ => by
    rw [List.set_cons_zero, cellsI_cons, cellsI_cons]
    rfl
  | p :: ps, j + 1, u, hj => by
    have hj' : j < ps.length := by simpa using hj
    rw [List.set_cons_succ, cellsI_cons, cellsI_cons, show (p :: ps)[j + 1] = ps[j] from rfl, cellsI_set ps j u hj', show (j + 1) * 7 + 6 = 7 + (j * 7 + 6) by omega]
    rw [List.set_append_right _ _ (by simp)]
    simp
theorem row_set {B : Nat} {w : World} {g n cap : Nat} {ps : List (Ins × Value)} (h : w.ownsRow B 46 7 (.slice (some ⟨g, 0, none⟩) n cap) ps.length (cellsI ps)) (j : Nat) (hj : j < ps.length) (u : Value) :
    (w.setCell ⟨g, j * 7 + 6, none⟩ u).ownsRow B 46 7 (.slice (some ⟨g, 0, none⟩) n cap) (ps.set j (ps[j].1, u)).length (cellsI (ps.set j (ps[j].1, u))) := by
  rcases h.2 with ⟨h0, _⟩ | ⟨g', cap', cur, hv, hb, hg, h1, h2, h3, h4⟩
  · simp at h0
  · simp only [Value.slice.injEq, Option.some.injEq, Addr.mk.injEq] at hv
    obtain ⟨⟨rfl, _⟩, rfl, rfl⟩ := hv
    refine ⟨by rw [cellsI_len], .inr ⟨g, cap, _, by rw [List.length_set], hb, heap_setCell_same w g _ _ _ u hg, by rw [List.length_set]; exact h1, h2, by simpa using h3, ?_⟩⟩
    rw [cellsI_set ps j u hj, List.length_set, ← h4]
    simp [List.take_set]
end Go.Proofs.Ytbgedbahabbanaa
