/- Two tables of rows of numbers, side by side: a number more in a row of one. -/
import Derived.Test.YtblcbccchlljhaaLw
import Derived.Test.YtblcbccchlljhaaCv
namespace Go.Proofs.Ytblcbccchlljhaa
open Go.RowKit Ir Wy

theorem RowsO.keep {B g n : Nat} {w w1 : World} {V : Nat → Value} {R : Nat → List Int} (h : RowsO B g n w V R) (hg : w1.heap[g]? = w.heap[g]?) (hr : ∀ b, b < n → ∀ k, (V b).ownBlock = some k → w1.heap[k]? = w.heap[k]?) : RowsO B g n w1 V R := by
  obtain ⟨cs, h1, h2⟩ := h.cell
  exact ⟨⟨cs, hg.trans h1, h2⟩, fun b hb => (h.row b hb).stays fun k hk => hr b hb k hk, h.apart⟩
/-- A row of numbers lies beside another table. -/
theorem RowsO.off {B C g n : Nat} {w : World} {V : Nat → Value} {R : Nat → List Int} {u : Value} {us : List Int} (h : RowsO B g n w V R) (k : ArgsO C w u us) : u.ownBlock ≠ some g := by
  intro e
  obtain ⟨_, _, cur, hc⟩ := k.block g e
  obtain ⟨cs, h1, _⟩ := h.cell
  rw [hc] at h1
  simp at h1
/-- Both tables. -/
structure Wst (w0 : World) (gf gt n : Nat) (W : World) (Vf Vt : Nat → Value) (Rf Rt : Nat → List Int) : Prop where
  f : RowsO w0.heap.size gf n W Vf Rf
  t : RowsO w0.heap.size gt n W Vt Rt
  ne : gf ≠ gt
  ap : ∀ a b, a < n → b < n → ∀ k, (Vf a).ownBlock = some k → (Vt b).ownBlock ≠ some k
  below : Below w0.heap.size w0 W
  f0 : w0.heap.size ≤ gf
  t0 : w0.heap.size ≤ gt
/-- A row that is read, apart from all of both. -/
structure Urow (C n : Nat) (W : World) (u : Value) (us : List Int) (Vf Vt : Nat → Value) : Prop where
  own : ArgsO C W u us
  f : ∀ b, b < n → ∀ k, (Vf b).ownBlock = some k → u.ownBlock ≠ some k
  t : ∀ b, b < n → ∀ k, (Vt b).ownBlock = some k → u.ownBlock ≠ some k
section
variable {w0 W W' w5 : World} {gf gt n C x : Nat} {Vf Vt : Nat → Value} {Rf Rt : Nat → List Int} {u v' : Value} {us L' : List Int} {y : Int}
theorem Wst.swap (h : Wst w0 gf gt n W Vf Vt Rf Rt) : Wst w0 gt gf n W Vt Vf Rt Rf := ⟨h.t, h.f, fun e => h.ne e.symm, fun a b ha hb k h1 h2 => h.ap b a hb ha k h2 h1, h.below, h.t0, h.f0⟩
theorem Urow.swap (h : Urow C n W u us Vf Vt) : Urow C n W u us Vt Vf := ⟨h.own, h.t, h.f⟩
theorem Wst.grow (h : Wst w0 gf gt n W Vf Vt Rf Rt) (hB : Below W.heap.size W W') : Wst w0 gf gt n W' Vf Vt Rf Rt := ⟨h.f.below hB, h.t.below hB, h.ne, h.ap, bel_of h.below hB, h.f0, h.t0⟩
/-- A new row that is read. -/
theorem Wst.urow (h : Wst w0 gf gt n W Vf Vt Rf Rt) (hu : ArgsO W.heap.size W' u us) : Urow W.heap.size n W' u us Vf Vt := by
  refine ⟨hu, fun b hb k hk e => ?_, fun b hb k hk e => ?_⟩
  · have h1 := ((h.f.row b hb).lt k hk).2
    have h2 := (hu.lt k e).1
    omega
  · have h1 := ((h.t.row b hb).lt k hk).2
    have h2 := (hu.lt k e).1
    omega
theorem Wst.snoc (h : Wst w0 gf gt n W Vf Vt Rf Rt) (q : Urow C n W u us Vf Vt) (hx : x < n) (hg : (W.alloc (.cells #[.int .i64 y] 3)).grownBy w5 (Vf x).ownBlock) (ho : ArgsO w0.heap.size w5 v' L') (how : ∀ k, v'.ownBlock = some k → (Vf x).ownBlock = some k ∨ (W.alloc (.cells #[.int .i64 y] 3)).heap.size ≤ k) :
    Wst w0 gf gt n (w5.setCell ⟨gf, x, none⟩ v') (upV Vf x v') Vt (upV Rf x L') Rt ∧ Urow C n (w5.setCell ⟨gf, x, none⟩ v') u us (upV Vf x v') Vt ∧ w5.cell? ⟨gf, x, none⟩ = some (Vf x) ∧ w5.frozen? ⟨gf, x, none⟩ = false := by
  have hB := bel1' W (.cells #[.int .i64 y] 3)
  have h4 := h.grow hB
  have q4 : ArgsO C (W.alloc (.cells #[.int .i64 y] 3)) u us := q.own.below hB
  have hWs : (W.alloc (.cells #[.int .i64 y] 3)).heap.size = W.heap.size + 1 := World.size_alloc ..
  generalize W.alloc (.cells #[.int .i64 y] 3) = w4 at *
  have hset := set_grown w5 gf x v'
  have oth : ∀ k, k ≠ gf → (w5.setCell ⟨gf, x, none⟩ v').heap[k]? = w5.heap[k]? := fun k hk => Below.heap_setCell _ _ _ _ hk
  have hot : ∀ k, k < w4.heap.size → k ≠ gf → (Vf x).ownBlock ≠ some k → (w5.setCell ⟨gf, x, none⟩ v').heap[k]? = w4.heap[k]? := fun k hk h1 h2 => (oth k h1).trans (hg.block k hk (fun e => h2 e.symm))
  have hb5 : Below w0.heap.size w0 (w5.setCell ⟨gf, x, none⟩ v') := by
    have h1 := h4.below.grown hg h4.below.size (fun k e1 => ((h4.f.row x hx).lt k e1).1)
    exact h1.grown hset h1.size (fun k e1 => by cases e1; exact h4.f0)
  refine ⟨⟨h4.f.snoc hx hg ho how, h4.t.keep (hot gt h4.t.lt (fun e => h4.ne e.symm) (h4.t.off (h4.f.row x hx))) (fun b hb k hk => hot k ((h4.t.row b hb).lt k hk).2 (fun e => h4.f.off (h4.t.row b hb) (by rw [hk, e])) (fun e => h4.ap x b hx hb k e hk)), h4.ne, fun a b ha hb k hk e => ?_, hb5, h4.f0, h4.t0⟩, ⟨q4.stays fun k hk => hot k (q4.lt k hk).2 (fun e => h4.f.off q4 (by rw [hk, e])) (fun e => q.f x hx k e hk), fun b hb k hk e => ?_, q.t⟩, ?_⟩
  · by_cases ea : a = x
    · subst ea
      rw [upV_same] at hk
      rcases how k hk with q1 | q1
      · exact h4.ap a b ha hb k q1 e
      · have := ((h4.t.row b hb).lt k e).2
        omega
    · rw [upV_ne _ _ ea] at hk
      exact h4.ap a b ha hb k hk e
  · by_cases eb : b = x
    · subst eb
      rw [upV_same] at hk
      rcases how k hk with q1 | q1
      · exact q.f b hb k q1 e
      · have := (q4.lt k e).2
        omega
    · rw [upV_ne _ _ eb] at hk
      exact q.f b hb k hk e
  · obtain ⟨cs, h1, h2, h3⟩ := h4.f.cell
    have hg1 : w5.heap[gf]? = some (.cells cs 48 (0, 0)) := (hg.block _ (heap_lt' h1) (fun e1 => h4.f.away x hx e1.symm)).trans h1
    exact ⟨by rw [cell_of_row _ _ _ _ _ _ hg1, h3 x hx], frozen_of_row _ _ _ _ _ hg1⟩
end
end Go.Proofs.Ytblcbccchlljhaa
