/- The document's Order. -/
import Derived.Test.YtblcbccchlljhaaR2
import Derived.OwnWalk
namespace Go.Proofs.Ytblcbccchlljhaa
open Go.RowKit Ir Wy

theorem info4b : (Try.prog.info? 4).map (fun i => (i.zero, i.size, i.bytes)) = some (some (.bool false), 1, 1) := by kernel_rfl
theorem bools_made {w : World} {g n : Nat} {xs : List Value} (h : w.ownsRow g 4 1 (.slice (some ⟨g, 0, none⟩) n n) n xs) (hx : ∀ i, i < n → xs[i]? = some (.bool false)) : BoolsAt w g n (fun _ => false) := by
  rcases h.2 with ⟨e, _⟩ | ⟨g', cap, cur, e, _, hg, hn, _, hs, ht⟩
  · cases e
  · simp only [Value.slice.injEq, Option.some.injEq, Addr.mk.injEq, and_true, true_and] at e
    obtain ⟨rfl, rfl⟩ := e
    refine ⟨cur, hg, by omega, fun i hi => ?_⟩
    have : (cur.toList.take (n * 1))[i]? = some (.bool false) := by rw [ht]; exact hx i hi
    rw [List.getElem?_take] at this
    rw [if_pos (by omega)] at this
    simpa using this
theorem getD_rev {l : List Int} {j : Nat} (h : j < l.length) : l.reverse.take (l.length - j) = l.reverse.take (l.length - (j + 1)) ++ [l.getD j 0] := by
  rw [show l.length - j = l.length - (j + 1) + 1 by omega, List.take_succ_eq_append_getElem (by simp; omega), List.getElem_reverse, getD_get _ _ _ h]
  congr 3
  omega
end Go.Proofs.Ytblcbccchlljhaa
