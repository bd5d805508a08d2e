/- Code while spills and fills are put in: what stands, and one step of it. -/
import Derived.Test.YtbgedbahabbanaaPut5
namespace Go.Proofs.Ytbgedbahabbanaa
open Go.RowKit Ir

def rowC (p r s : Int) (u : Value) : Array Value := #[.int .i64 p, .int .i64 r, .int .i64 s, u]
theorem rowC_cells {w : World} {g : Nat} {p r s : Int} {u : Value} (h : w.heap[g]? = some (Obj.cells (rowC p r s u) 24 (0, 0))) : w.cell? ⟨g, 0, none⟩ = some (.int .i64 p) ∧ w.cell? ⟨g, 1, none⟩ = some (.int .i64 r) ∧ w.cell? ⟨g, 2, none⟩ = some (.int .i64 s) ∧ w.cell? ⟨g, 3, none⟩ = some u := by
  refine ⟨?_, ?_, ?_, ?_⟩
  all_goals (rw [cell_of_row _ _ _ _ _ _ h]; rfl)
/-- What stands while spills and fills are put in. -/
structure I5 (B pc pr g gc nb : Nat) (p r s : Int) (w : World) (i : Nat) (bs2 : List Blk) (wr : World) : Prop where
  own : BlksO B wr (.slice (some ⟨g, 0, none⟩) nb gc) bs2
  len : bs2.length = nb
  right : ∀ b ∈ bs2, (mbF b r s nb).1 = 0 ∧ b.ins.length ≤ 32 + i
  pcr : wr.heap[pc]? = some (Obj.cells (rowC p r s (.slice (some ⟨g, 0, none⟩) nb gc)) 24 (0, 0))
  prr : wr.heap[pr]? = some (Obj.cells (rowC 0 0 0 (.slice none 0 0)) 24 (0, 0))
  below : Below B w wr
  sz : B ≤ wr.heap.size
section
variable {B pc pr g gc nb : Nat} {p r s : Int} {w : World} {i : Nat} {bs2 : List Blk} {w1 w2 : World}
theorem I5.next (h : I5 B pc pr g gc nb p r s w i bs2 w1) (hb : Below w1.heap.size w1 w2) : I5 B pc pr g gc nb p r s w i bs2 w2 :=
  ⟨h.own.keeps (Keeps.below hb), h.len, h.right, Keeps.below (T := fun _ => true) hb _ _ _ _ rfl h.pcr, Keeps.below (T := fun _ => true) hb _ _ _ _ rfl h.prr, h.below.trans (hb.mono h.sz), Nat.le_trans h.sz hb.size⟩
theorem BlksO.at {n cap : Nat} {bs : List Blk} (h : BlksO B w (.slice (some ⟨g, 0, none⟩) n cap) bs) (j : Nat) (hj : j < bs.length) : ∃ u, BlkCells w g (j * 5) u bs[j].e ∧ InssO B w u bs[j].ins := by
  obtain ⟨ps, rfl, h2, h3⟩ := h
  rw [List.length_map] at hj
  have hp : ps[j]? = some ps[j] := List.getElem?_eq_getElem hj
  obtain ⟨g0, g1, g2, g3, g4⟩ := cellsB_get ps j _ hp
  have hc : ∀ k x, (cellsB ps)[j * 5 + k]? = some x → w.cell? ⟨g, j * 5 + k, none⟩ = some x := by
    intro k x hx
    have := h2.cells (g := g) rfl _ _ hx
    rwa [Addr.add_lit, Nat.zero_add] at this
  have e : (ps.map (·.1))[j]'(by rw [List.length_map]; exact hj) = ps[j].1 := by simp
  rw [e]
  exact ⟨ps[j].2, ⟨hc 0 _ g0, hc 1 _ g1, hc 2 _ g2, hc 3 _ g3, hc 4 _ g4⟩, h3 _ (List.getElem_mem hj)⟩
theorem BlksO.row {n cap : Nat} {bs : List Blk} (h : BlksO B w (.slice (some ⟨g, 0, none⟩) n cap) bs) : B ≤ g ∧ ∃ cs, w.heap[g]? = some (Obj.cells cs 41 (0, 0)) := by
  obtain ⟨ps, rfl, h2, h3⟩ := h
  rcases h2.2 with ⟨h0, _⟩ | ⟨g', cap', cur, hv, hb, hg, _⟩
  · simp at h0
  · simp only [Value.slice.injEq, Option.some.injEq, Addr.mk.injEq] at hv
    obtain ⟨⟨rfl, _⟩, _, _⟩ := hv
    exact ⟨hb, _, hg⟩
theorem I5.step {wd : World} (h : I5 B pc pr g gc nb p r s w i bs2 wd) {jb : Nat} (hj : jb < bs2.length) {ps : List (Ins × Value)} (hps : ps.map (·.1) = bs2[jb].ins) (hargs : ∀ q ∈ ps, ArgsO B wd q.2 q.1.args) {X : Ins} (hX : mF X r s = 0) (hXa : X.args = []) (hi : i < 60) (kk : Nat) {W1 : World} {v : Value}
    (hb : Below wd.heap.size wd W1) (hv : W1.ownsRow wd.heap.size 46 7 v ((ps.take kk ++ [(X, Value.slice none 0 0)]) ++ ps.drop kk).length (cellsI ((ps.take kk ++ [(X, Value.slice none 0 0)]) ++ ps.drop kk))) :
    I5 B pc pr g gc nb p r s w (i + 3) (bs2.set jb ⟨((ps.take kk ++ [(X, Value.slice none 0 0)]) ++ ps.drop kk).map (·.1), bs2[jb].e⟩) (W1.setCell ⟨g, jb * 5, none⟩ v) := by
  have h1 := h.next hb
  have hmem : ∀ q ∈ ((ps.take kk ++ [(X, Value.slice none 0 0)]) ++ ps.drop kk), q ∈ ps ∨ q = (X, Value.slice none 0 0) := by
    intro q hq
    rcases List.mem_append.1 hq with hq | hq
    · rcases List.mem_append.1 hq with hq | hq
      · exact .inl (List.mem_of_mem_take hq)
      · simp at hq
        exact .inr hq
    · exact .inl (List.mem_of_mem_drop hq)
  have hO : InssO B W1 v (((ps.take kk ++ [(X, Value.slice none 0 0)]) ++ ps.drop kk).map (·.1)) := by
    refine ⟨_, rfl, owns_mono hv h.sz, fun q hq => ?_⟩
    rcases hmem q hq with hq | rfl
    · exact (hargs q hq).keeps (Keeps.below hb)
    · simp only [hXa]
      exact ArgsO.nil _ _
  obtain ⟨hBg, cs, hcs⟩ := h1.own.row
  have hk : Keeps (fun t => t == 24) W1 (W1.setCell ⟨g, jb * 5, none⟩ v) := Keeps.set hcs rfl v
  refine ⟨h1.own.put jb hj hO, by rw [List.length_set]; exact h.len, fun b hbm => ?_, hk _ _ _ _ rfl h1.pcr, hk _ _ _ _ rfl h1.prr, h1.below.setCell (p := ⟨g, jb * 5, none⟩) hBg v, by simpa using h1.sz⟩
  rcases List.mem_or_eq_of_mem_set hbm with hbm | rfl
  · obtain ⟨q1, q2⟩ := h.right b hbm
    exact ⟨q1, by omega⟩
  · obtain ⟨q1, q2⟩ := h.right _ (List.getElem_mem hj)
    obtain ⟨k1, k2, k3⟩ := mbF_all q1
    have hlen : (((ps.take kk ++ [(X, Value.slice none 0 0)]) ++ ps.drop kk).map (·.1)).length = bs2[jb].ins.length + 1 := by
      rw [← hps]
      simp only [List.length_map, List.length_append, List.length_take, List.length_drop, List.length_cons, List.length_nil]
      omega
    refine ⟨mbF_zero ?_ ?_ k3, ?_⟩
    · simp only [hlen]
      omega
    · intro q hq
      obtain ⟨pq, hpq, rfl⟩ := List.mem_map.1 hq
      rcases hmem pq hpq with hpq | rfl
      · exact k2 _ (by rw [← hps]; exact List.mem_map_of_mem hpq)
      · exact hX
    · simp only [hlen]
      omega
theorem set4 {w : World} {g : Nat} {x0 x1 x2 x3 : Value} (a b c d : Value) (r0 : w.cell? ⟨g, 0, none⟩ = some x0) (r1 : w.cell? ⟨g, 1, none⟩ = some x1) (r2 : w.cell? ⟨g, 2, none⟩ = some x2) (r3 : w.cell? ⟨g, 3, none⟩ = some x3) :
    (w.setCell ⟨g, 0, none⟩ a).cell? ⟨g, 0, none⟩ = some a ∧ ((w.setCell ⟨g, 0, none⟩ a).setCell ⟨g, 1, none⟩ b).cell? ⟨g, 1, none⟩ = some b ∧ (((w.setCell ⟨g, 0, none⟩ a).setCell ⟨g, 1, none⟩ b).setCell ⟨g, 2, none⟩ c).cell? ⟨g, 2, none⟩ = some c ∧ ((((w.setCell ⟨g, 0, none⟩ a).setCell ⟨g, 1, none⟩ b).setCell ⟨g, 2, none⟩ c).setCell ⟨g, 3, none⟩ d).cell? ⟨g, 3, none⟩ = some d := by
  have other : ∀ (W : World) (i j : Nat) (y u : Value), i ≠ j → W.cell? ⟨g, j, none⟩ = some u → (W.setCell ⟨g, i, none⟩ y).cell? ⟨g, j, none⟩ = some u := fun W i j y u hij h => (World.cell?_setCell_other (w := W) (a := ⟨g, i, none⟩) (b := ⟨g, j, none⟩) (v := y) (by simp <;> omega)).trans h
  have s0 := World.cell?_setCell_same (w := w) (a := ⟨g, 0, none⟩) (v := a) r0
  have s1 := World.cell?_setCell_same (w := (w.setCell ⟨g, 0, none⟩ a)) (a := ⟨g, 1, none⟩) (v := b) (other _ 0 1 a x1 (by decide) r1)
  have s2 := World.cell?_setCell_same (w := ((w.setCell ⟨g, 0, none⟩ a).setCell ⟨g, 1, none⟩ b)) (a := ⟨g, 2, none⟩) (v := c) (other _ 1 2 b x2 (by decide) (other _ 0 2 a x2 (by decide) r2))
  have s3 := World.cell?_setCell_same (w := (((w.setCell ⟨g, 0, none⟩ a).setCell ⟨g, 1, none⟩ b).setCell ⟨g, 2, none⟩ c)) (a := ⟨g, 3, none⟩) (v := d) (other _ 2 3 c x3 (by decide) (other _ 1 3 b x3 (by decide) (other _ 0 3 a x3 (by decide) r3)))
  exact ⟨s0, s1, s2, s3⟩
theorem keeps_set4 {w : World} {g : Nat} {cs : Array Value} (h : w.heap[g]? = some (Obj.cells cs 24 (0, 0))) (y0 y1 y2 y3 : Value) : Keeps T41 w ((((w.setCell ⟨g, 0, none⟩ y0).setCell ⟨g, 1, none⟩ y1).setCell ⟨g, 2, none⟩ y2).setCell ⟨g, 3, none⟩ y3) :=
  ((((Keeps.set h rfl y0).trans (Keeps.set (heap_setCell_same _ g 0 _ _ y0 h) rfl y1)).trans (Keeps.set (heap_setCell_same _ g 1 _ _ y1 (heap_setCell_same _ g 0 _ _ y0 h)) rfl y2)).trans (Keeps.set (heap_setCell_same _ g 2 _ _ y2 (heap_setCell_same _ g 1 _ _ y1 (heap_setCell_same _ g 0 _ _ y0 h))) rfl y3))
theorem bel_set4 {B : Nat} {w0 w : World} {g : Nat} (hb : Below B w0 w) (hg : B ≤ g) (y0 y1 y2 y3 : Value) : Below B w0 ((((w.setCell ⟨g, 0, none⟩ y0).setCell ⟨g, 1, none⟩ y1).setCell ⟨g, 2, none⟩ y2).setCell ⟨g, 3, none⟩ y3) :=
  ((((hb.setCell (p := ⟨g, 0, none⟩) hg y0).setCell (p := ⟨g, 1, none⟩) hg y1).setCell (p := ⟨g, 2, none⟩) hg y2).setCell (p := ⟨g, 3, none⟩) hg y3)
end
theorem spill_right {z1 z2 r s : Int} (h1 : 0 ≤ z1 ∧ z1 < s) (h2 : 0 ≤ z2 ∧ z2 < r) : mF ⟨7, 0, z1, z2, 0, 0, []⟩ r s = 0 := by
  unfold mF
  rw [if_pos rfl]
  exact slF_zero ⟨rfl, rfl, rfl, rfl⟩ h2 h1
theorem fill_right {z1 z2 r s : Int} (h1 : 0 ≤ z1 ∧ z1 < r) (h2 : 0 ≤ z2 ∧ z2 < s) : mF ⟨8, 0, z1, z2, 0, 0, []⟩ r s = 0 := by
  unfold mF
  rw [if_neg (by simp), if_pos rfl]
  exact slF_zero ⟨rfl, rfl, rfl, rfl⟩ h1 h2
end Go.Proofs.Ytbgedbahabbanaa
