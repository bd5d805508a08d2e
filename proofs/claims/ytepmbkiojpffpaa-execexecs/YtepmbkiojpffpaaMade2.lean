/- Made: what a block's end and its append leave. -/
import Derived.Test.YtepmbkiojpffpaaMade1
namespace Go.Proofs.Ytepmbkiojpffpaa
open Go.RowKit Ir

/-- A block's end, stored. -/
def sets4 (W : World) (g : Nat) (e : En) : World := (((W.setCell ⟨g, 1, none⟩ (.int .u8 e.k)).setCell ⟨g, 2, none⟩ (.int .i64 e.a)).setCell ⟨g, 3, none⟩ (.int .i64 e.to)).setCell ⟨g, 4, none⟩ (.int .i64 e.el)
theorem grown_sets4 (W : World) (g : Nat) (e : En) : W.grownBy (sets4 W g e) (some g) :=
  grown_trans (grown_trans (grown_trans (grown_set _ g 1 _) (grown_set _ g 2 _)) (grown_set _ g 3 _)) (grown_set _ g 4 _)
theorem sets4_facts {W : World} {g : Nat} {u : Value} (e : En) (h : W.heap[g]? = some (Obj.cells (rowB u) 60 (0, 0))) :
    W.cell? ⟨g, 0, none⟩ = some u ∧ W.cell? ⟨g, 1, none⟩ = some (.int .u8 0) ∧ W.cell? ⟨g, 2, none⟩ = some (.int .i64 0) ∧ W.cell? ⟨g, 3, none⟩ = some (.int .i64 0) ∧ W.cell? ⟨g, 4, none⟩ = some (.int .i64 0) ∧
    (W.frozen? ⟨g, 1, none⟩ = false ∧ W.frozen? ⟨g, 2, none⟩ = false ∧ W.frozen? ⟨g, 3, none⟩ = false ∧ W.frozen? ⟨g, 4, none⟩ = false) ∧
    (W.setCell ⟨g, 1, none⟩ (.int .u8 e.k)).cell? ⟨g, 1, none⟩ = some (.int .u8 e.k) ∧
    ((W.setCell ⟨g, 1, none⟩ (.int .u8 e.k)).setCell ⟨g, 2, none⟩ (.int .i64 e.a)).cell? ⟨g, 2, none⟩ = some (.int .i64 e.a) ∧
    (((W.setCell ⟨g, 1, none⟩ (.int .u8 e.k)).setCell ⟨g, 2, none⟩ (.int .i64 e.a)).setCell ⟨g, 3, none⟩ (.int .i64 e.to)).cell? ⟨g, 3, none⟩ = some (.int .i64 e.to) ∧
    ((((W.setCell ⟨g, 1, none⟩ (.int .u8 e.k)).setCell ⟨g, 2, none⟩ (.int .i64 e.a)).setCell ⟨g, 3, none⟩ (.int .i64 e.to)).setCell ⟨g, 4, none⟩ (.int .i64 e.el)).cell? ⟨g, 4, none⟩ = some (.int .i64 e.el) := by
  have hc : ∀ j x, (rowB u)[j]? = some x → W.cell? ⟨g, j, none⟩ = some x := fun j x hx => by rw [cell_of_row _ _ _ _ _ _ h]; exact hx
  have hf : ∀ j, W.frozen? ⟨g, j, none⟩ = false := fun j => frozen_of_row _ _ _ _ _ h
  have other : ∀ (W : World) (i j : Nat) (y x : Value), i ≠ j → W.cell? ⟨g, j, none⟩ = some x → (W.setCell ⟨g, i, none⟩ y).cell? ⟨g, j, none⟩ = some x := fun W i j y x hij h => (World.cell?_setCell_other (w := W) (a := ⟨g, i, none⟩) (b := ⟨g, j, none⟩) (v := y) (by simp <;> omega)).trans h
  have c1 := hc 1 _ rfl
  have c2 := hc 2 _ rfl
  have c3 := hc 3 _ rfl
  have c4 := hc 4 _ rfl
  exact ⟨hc 0 _ rfl, c1, c2, c3, c4, ⟨hf 1, hf 2, hf 3, hf 4⟩, World.cell?_setCell_same (w := W) (a := ⟨g, 1, none⟩) (v := .int .u8 e.k) c1,
    World.cell?_setCell_same (w := W.setCell ⟨g, 1, none⟩ (.int .u8 e.k)) (a := ⟨g, 2, none⟩) (v := .int .i64 e.a) (other _ 1 2 _ _ (by decide) c2),
    World.cell?_setCell_same (w := (W.setCell ⟨g, 1, none⟩ (.int .u8 e.k)).setCell ⟨g, 2, none⟩ (.int .i64 e.a)) (a := ⟨g, 3, none⟩) (v := .int .i64 e.to) (other _ 2 3 _ _ (by decide) (other _ 1 3 _ _ (by decide) c3)),
    World.cell?_setCell_same (w := ((W.setCell ⟨g, 1, none⟩ (.int .u8 e.k)).setCell ⟨g, 2, none⟩ (.int .i64 e.a)).setCell ⟨g, 3, none⟩ (.int .i64 e.to)) (a := ⟨g, 4, none⟩) (v := .int .i64 e.el) (other _ 3 4 _ _ (by decide) (other _ 2 4 _ _ (by decide) (other _ 1 4 _ _ (by decide) c4)))⟩

def zero24 : Array Value := #[.int .i64 0, .int .i64 0, .slice none 0 0]
/-- What holds between two blocks. -/
structure MadeInv (B pm pf pres : Nat) (p vv : Int) (w : World) (bs : List Blk) (rest : List Int) (ub : Value) (W : World) : Prop where
  maker : MkAt B W pm rest
  fld : W.heap[pf]? = some (Obj.cells (rowF p vv ub) 53 (0, 0))
  blks : BlksO B W ub bs
  res : W.heap[pres]? = some (Obj.cells zero24 53 (0, 0))
  below : Below B w W
  sz : B ≤ W.heap.size

theorem made_tail {B pm pf pres : Nat} {p vv : Int} {w wr W : World} {bs : List Blk} {rest rest' : List Int} {ub ui : Value} {is : List Ins} {ps : List (Blk × Value)} (e : En)
    (h : MadeInv B pm pf pres p vv w bs rest ub wr) (hps1 : ps.map (·.1) = bs) (hps2 : wr.ownsRow B 60 5 ub ps.length (cellsB ps)) (hps3 : ∀ q ∈ ps, InssO B wr q.2 q.1.ins) (hBp : B ≤ pf ∧ B ≤ pres ∧ pf ≠ pres)
    (hg : wr.grownBy W (some pm)) (hM : MkAt B W pm rest') (hrow : W.heap[wr.heap.size]? = some (Obj.cells (rowB ui) 60 (0, 0))) (hI : InssO wr.heap.size W ui is) (o : Obj) :
    ((sets4 W wr.heap.size e).alloc o).ownsRow B 60 5 ub ps.length (cellsB ps) ∧ B ≤ ((sets4 W wr.heap.size e).alloc o).heap.size ∧
    ∀ v' w9, w9.ownsRow B 60 5 v' (ps.length + 1) (cellsB ps ++ [ui, .int .u8 e.k, .int .i64 e.a, .int .i64 e.to, .int .i64 e.el]) → ((sets4 W wr.heap.size e).alloc o).grownBy w9 ub.ownBlock →
      w9.cell? ⟨pf, 2, none⟩ = some ub ∧ w9.frozen? ⟨pf, 2, none⟩ = false ∧ MadeInv B pm pf pres p vv w (bs ++ [⟨is, e⟩]) rest' v' (w9.setCell ⟨pf, 2, none⟩ v') := by
  have hgs := grown_sets4 W wr.heap.size e
  have hga : W.grownBy ((sets4 W wr.heap.size e).alloc o) (some wr.heap.size) := grown_trans hgs (World.grownBy_alloc _ o _)
  have hpmB : B ≤ pm := h.maker.1
  have hpmlt := h.maker.lt
  have hg8 : wr.grownBy ((sets4 W wr.heap.size e).alloc o) (some pm) := grown_own hg hga (fun k hk => by simp at hk; omega)
  have hk8 : Keeps (fun t => t != 81) wr ((sets4 W wr.heap.size e).alloc o) := Keeps.pm h.maker hg8
  have hkI : Keeps T46 W ((sets4 W wr.heap.size e).alloc o) := by
    have k1 : Keeps T46 W (sets4 W wr.heap.size e) := by
      intro g cs t fr ht h0
      rw [hgs.block g (Array.getElem?_eq_some_iff.1 h0).1 ?_]
      · exact h0
      · intro e1
        simp at e1
        subst e1
        rw [h0] at hrow
        simp only [Option.some.injEq, Obj.cells.injEq] at hrow
        rw [hrow.2.1] at ht
        simp [T46] at ht
    exact k1.trans (Keeps.below ((Below.refl _ _).alloc (Nat.le_refl _) o))
  have hM8 : MkAt B ((sets4 W wr.heap.size e).alloc o) pm rest' := hM.grown hga (Nat.le_trans h.sz hg.size) (fun k hk => by simp at hk; subst hk; exact ⟨h.sz, by omega⟩)
  have hsz8 : wr.heap.size ≤ ((sets4 W wr.heap.size e).alloc o).heap.size := hg8.size
  generalize (sets4 W wr.heap.size e).alloc o = W8 at *
  have hO8 := owns_keeps hps2 hk8 rfl
  refine ⟨hO8, Nat.le_trans h.sz hsz8, fun v' w9 hO9 hg9 => ?_⟩
  have hk9 : Keeps (fun t => t != 60) W8 w9 := Keeps.grown hO8 rfl hg9
  have hpf9 : w9.heap[pf]? = some (Obj.cells (rowF p vv ub) 53 (0, 0)) := hk9 _ _ _ _ rfl (hk8 _ _ _ _ rfl h.fld)
  have hres9 : w9.heap[pres]? = some (Obj.cells zero24 53 (0, 0)) := hk9 _ _ _ _ rfl (hk8 _ _ _ _ rfl h.res)
  have hown : ∀ k, ub.ownBlock = some k → B ≤ k ∧ k ≠ pm := by
    intro k ek
    refine ⟨(hO8.lt k ek).1, ?_⟩
    rcases hO8.2 with ⟨rfl, _⟩ | ⟨k', cap, cur, rfl, _, hkk, _⟩
    · simp [Value.ownBlock] at ek
    · simp [Value.ownBlock] at ek
      subst ek
      exact row_ne68 hM8 hkk (by decide)
  have hM9 := hM8.grown hg9 (Nat.le_trans h.sz hsz8) hown
  have hks : Keeps (fun t => t != 53) w9 (w9.setCell ⟨pf, 2, none⟩ v') := Keeps.set hpf9 rfl v'
  have hgp := grown_set w9 pf 2 v'
  have hpfm := row_ne68 hM9 hpf9 (by decide)
  have hsz9 : B ≤ w9.heap.size := Nat.le_trans (Nat.le_trans h.sz hsz8) hg9.size
  refine ⟨by rw [cell_of_row _ _ _ _ _ _ hpf9]; rfl, frozen_of_row _ _ _ _ _ hpf9, ?_, ?_, ?_, ?_, ?_, ?_⟩
  · exact hM9.grown hgp hsz9 (fun k hk => by simp at hk; subst hk; exact ⟨hBp.1, hpfm⟩)
  · rw [heap_setCell_same w9 pf 2 _ _ v' hpf9]
    rfl
  · have t46 : ∀ {T : TypeId → Bool} {a b : World}, Keeps T a b → T 3 = true → T 65 = true → Keeps T46 a b := fun hk h3 h46 => hk.weak fun t ht => by simp [T46] at ht; rcases ht with rfl | rfl <;> assumption
    have hkk : Keeps T46 W8 (w9.setCell ⟨pf, 2, none⟩ v') := (t46 hk9 rfl rfl).trans (t46 hks rfl rfl)
    refine ⟨ps ++ [(⟨is, e⟩, ui)], by simp [hps1], ?_, fun q hq => ?_⟩
    · rw [cellsB_snoc, List.length_append]
      exact owns_keeps hO9 hks rfl
    · rcases List.mem_append.1 hq with h1 | h1
      · exact ((hps3 q h1).keeps (t46 hk8 rfl rfl)).keeps hkk
      · simp at h1
        subst h1
        exact (((hI.mono h.sz).keeps hkI)).keeps hkk
  · rw [Below.heap_setCell _ _ _ _ (by simpa using fun e1 => hBp.2.2 e1.symm)]
    exact hres9
  · refine h.below.trans ⟨?_, ?_, ?_, ?_, fun k hk => ?_⟩
    · exact (hgp.os.trans hg9.os).trans hg8.os
    · exact (hgp.tape.trans hg9.tape).trans hg8.tape
    · exact (hgp.output.trans hg9.output).trans hg8.output
    · exact Nat.le_trans hg8.size (Nat.le_trans hg9.size hgp.size)
    · rw [Below.heap_setCell _ _ _ _ (by simp; omega), hg9.block k (by have := h.sz; omega) (fun e1 => by have := (hown k e1.symm).1; omega), hg8.block k (by have := h.sz; omega) (fun e1 => by simp at e1; omega)]
  · exact Nat.le_trans hsz9 hgp.size
end Go.Proofs.Ytepmbkiojpffpaa
