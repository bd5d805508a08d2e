/- 'b.Ins = append(b.Ins, m.ins(f.Vregs))': what is known while it is done, in whatever order. -/
import Derived.Test.YtblcbccchlljhaaMk6
namespace Go.Proofs.Ytblcbccchlljhaa
open Go.RowKit Ir

def rowI (i : Ins) (u : Value) : Array Value := #[.int .u8 i.k, .int .u8 i.op, .int .i64 i.d, .int .i64 i.a, .int .i64 i.b, .int .i64 i.n, u]
def rowB (u : Value) : Array Value := #[u, .int .u8 0, .int .i64 0, .int .i64 0, .int .i64 0]
def rowF (p v : Int) (u : Value) : Array Value := #[.int .i64 p, .int .i64 v, u]
theorem info46 : (Try.prog.info? 79).map (fun i => (i.zero, i.size, i.bytes)) = some (some (.agg #[.int .u8 0, .int .u8 0, .int .i64 0, .int .i64 0, .int .i64 0, .int .i64 0, .slice none 0 0]), 7, 64) := by kernel_rfl
theorem info41 : (Try.prog.info? 69).map (fun i => (i.zero, i.size, i.bytes)) = some (some (.agg #[.slice none 0 0, .int .u8 0, .int .i64 0, .int .i64 0, .int .i64 0]), 5, 56) := by kernel_rfl
/-- What is known of each temporary. -/
def Gbl (pb pm pf : Nat) (vv : Int) (ui : Value) (x : Ins) (is : List Ins) : Tmp → Value → World → Prop
  | 37, xx, _ => xx = .pointer (some ⟨pb, 0, none⟩)
  | 38, xx, _ => xx = ui
  | 39, xx, _ => xx = .pointer (some ⟨pm, 0, none⟩)
  | 40, xx, _ => xx = .pointer (some ⟨pf, 1, none⟩)
  | 41, xx, _ => xx = .int .i64 vv
  | 42, xx, ww => (∃ u, xx = insV x u ∧ ArgsO pb ww u x.args)
  | 43, xx, ww => (∃ h u, xx = .slice (some ⟨h, 0, none⟩) 1 1 ∧ ww.heap[h]? = some (Obj.cells (rowI x u) 79 (0, 0)) ∧ ArgsO pb ww u x.args ∧ ui.ownBlock ≠ some h)
  | 44, xx, ww => InssO pb ww xx (is ++ [x])
  | 45, xx, _ => xx = .pointer (some ⟨pb, 0, none⟩)
  | _, _, _ => True

/-- What stands in the world. -/
structure Sbl (B pm : Nat) (x : Ins) (ui : Value) (is : List Ins) (b0 b1 : List Int) (w : World) (l : Nat → Bool) (W : World) : Prop where
  maker : MkAt B W pm (if l 5 = true then b1 else b0)
  grown : w.grownBy W (some pm)
  own : ∀ k, ui.ownBlock = some k → k < W.heap.size
  inss : l 7 = false → InssO w.heap.size W ui is
  row : l 9 = false → W.heap[w.heap.size]? = some (Obj.cells (rowB ui) 69 (0, 0))
  done : l 9 = true → ∃ u, W.heap[w.heap.size]? = some (Obj.cells (rowB u) 69 (0, 0)) ∧ InssO w.heap.size W u (is ++ [x])
  szB : B ≤ W.heap.size
/-- One instruction more, behind. -/
theorem InssO.snoc {B : Nat} {w w' : World} {v' u : Value} {is : List Ins} {x : Ins} {ps : List (Ins × Value)} (h1 : ps.map (·.1) = is) (h3 : ∀ p ∈ ps, ArgsO B w p.2 p.1.args) (hO : w'.ownsRow B 79 7 v' (ps.length + 1) (cellsI ps ++ (rowI x u).toList)) (hk : Keeps T3 w w') (hA : ArgsO B w u x.args) : InssO B w' v' (is ++ [x]) := by
  refine ⟨ps ++ [(x, u)], by simp [h1], ?_, fun p hp => ?_⟩
  · rw [cellsI_snoc, List.length_append]
    exact hO
  · rcases List.mem_append.1 hp with h | h
    · exact (h3 p h).keeps hk
    · simp at h
      subst h
      exact hA.keeps hk
theorem InssO.ownlt {B : Nat} {w : World} {v : Value} {is : List Ins} (h : InssO B w v is) : ∀ k, v.ownBlock = some k → B ≤ k ∧ k < w.heap.size ∧ ∃ cs, w.heap[k]? = some (Obj.cells cs 79 (0, 0)) := by
  obtain ⟨ps, _, h2, _⟩ := h
  intro k e
  refine ⟨(h2.lt k e).1, (h2.lt k e).2, ?_⟩
  rcases h2.2 with ⟨rfl, _⟩ | ⟨k', cap, cur, rfl, _, hkk, _⟩
  · simp [Value.ownBlock] at e
  · simp [Value.ownBlock] at e
    subst e
    exact ⟨_, hkk⟩
theorem InssO.grown3 {B : Nat} {w w' : World} {v : Value} {is : List Ins} (h : InssO B w v is) (hg : w.grownBy w' v.ownBlock) : Keeps (fun t => t != 79) w w' := by
  obtain ⟨ps, _, h2, _⟩ := h
  exact Keeps.grown h2 rfl hg
theorem InssO.mono {B B' : Nat} {w : World} {v : Value} {is : List Ins} (h : InssO B w v is) (hB : B' ≤ B) : InssO B' w v is := by
  obtain ⟨ps, h1, h2, h3⟩ := h
  exact ⟨ps, h1, owns_mono h2 hB, fun p hp => owns_mono (h3 p hp) hB⟩
/-- 'append(is, x)' of one instruction, the call's own. -/
theorem app7_ok {B0 : Nat} {a : Act} {w : World} {o : Oper} {s y : Operand} {ui u : Value} {is : List Ins} {h : Nat} {x : Ins} {Q : Value → World → Prop} (hop : o.op = .call { callee := .builtin .append, args := #[s, y], argTypes := #[64, 64] }) (es : a.eval s = ui) (ey : a.eval y = .slice (some ⟨h, 0, none⟩) 1 1)
    (hO : InssO B0 w ui is) (hh : w.heap[h]? = some (Obj.cells (rowI x u) 79 (0, 0))) (hA : ArgsO B0 w u x.args) (hl : is.length ≤ 1000000) (hB : B0 ≤ w.heap.size) (hQ : ∀ v' w', InssO B0 w' v' (is ++ [x]) → w.grownBy w' ui.ownBlock → Q v' w') :
    ∃ v' w', (execOp a.eval o).run Try.prog w = .ok (.value v') w' ∧ Q v' w' := by
  obtain ⟨i, hi, hz, hsize, hby⟩ := info_parts info46
  have hO' := hO
  obtain ⟨ps, h1, h2, h3⟩ := hO
  have hlp : ps.length = is.length := by rw [← h1, List.length_map]
  have hone : u.oneCell' = true := by obtain ⟨ua, uc, rfl⟩ := hA.v.slice; rfl
  obtain ⟨v', w', hr, g2, g3, _⟩ := run_append_own (P := Try.prog) w B0 64 o.type 79 i _ 7 64 Try.underlying64 hi hz hsize hby rfl (by decide) ui _ _ h2 ⟨h, 0, none⟩ 1 1 (rowI x u).toList rfl
    (by intro j c hj; rw [Addr.add_lit, Nat.zero_add, cell_of_row _ _ _ _ _ _ hh]; simpa using hj) (by intro c hc; simp [rowI] at hc; rcases hc with rfl | rfl | rfl | rfl | rfl | rfl | rfl <;> first | rfl | exact hone) (by unfold maxLen; omega) (by omega) hB
  refine ⟨v', w', ?_, hQ v' w' (InssO.snoc h1 h3 g2 ((hO'.grown3 g3).weak fun t ht => by simp [T3] at *; subst ht; decide) hA) g3⟩
  unfold execOp
  simp only [hop, resolve, invoke, builtin, Sem.run_bind, Sem.run_pure, Result.andThen_ok, List.map_toArray, List.map_cons, List.map_nil, es, ey, hr]
section
variable {B pm pf : Nat} {vv : Int} {ui : Value} {x : Ins} {is : List Ins} {b0 b1 : List Int} {w : World} {l : Nat → Bool} {W W' : World}
theorem Gbl_keeps {pb : Nat} {t : Tmp} {y : Value} {T : TypeId → Bool} (h : Gbl pb pm pf vv ui x is t y W) (hk : Keeps T W W') (h3 : T 3 = true := by rfl) (h46 : T 79 = true := by rfl) : Gbl pb pm pf vv ui x is t y W' := by
  have hk3 : Keeps T3 W W' := hk.weak fun t ht => by simp [T3] at ht; rw [ht]; exact h3
  have hk46 : Keeps T46 W W' := hk.weak fun t ht => by simp [T46] at ht; rcases ht with rfl | rfl <;> assumption
  unfold Gbl at h ⊢
  split
  all_goals
    first
      | exact h
      | exact InssO.keeps h hk46
      | (obtain ⟨u, e1, e2⟩ := h; exact ⟨u, e1, e2.keeps hk3⟩)
      | (obtain ⟨k, u, e1, e2, e3, e4⟩ := h; exact ⟨k, u, e1, hk _ _ _ _ h46 e2, e3.keeps hk3, e4⟩)
      | trivial
theorem Gbl_app {pb : Nat} {t : Tmp} {y : Value} (h : Gbl pb pm pf vv ui x is t y W) (ht : some t ≠ some 44) (hO : InssO pb W ui is) (hg : W.grownBy W' ui.ownBlock) : Gbl pb pm pf vv ui x is t y W' := by
  have hk3 : Keeps T3 W W' := (hO.grown3 hg).weak fun t ht => by simp [T3] at ht; rw [ht]; decide
  unfold Gbl at h ⊢
  split
  all_goals
    first
      | exact h
      | exact absurd rfl ht
      | (obtain ⟨u, e1, e2⟩ := h; exact ⟨u, e1, e2.keeps hk3⟩)
      | (obtain ⟨k, u, e1, e2, e3, e4⟩ := h; exact ⟨k, u, e1, by rw [hg.block k (Array.getElem?_eq_some_iff.1 e2).1 (fun e => e4 e.symm)]; exact e2, e3.keeps hk3, e4⟩)
      | trivial
theorem Sbl.skip (h : Sbl B pm x ui is b0 b1 w l W) {j : Nat} (h5 : j ≠ 5) (h7 : j ≠ 7) (h9 : j ≠ 9) : Sbl B pm x ui is b0 b1 w (upd l j) W := by
  have u5 : upd l j 5 = l 5 := if_neg (fun e => h5 e.symm)
  have u7 : upd l j 7 = l 7 := if_neg (fun e => h7 e.symm)
  have u9 : upd l j 9 = l 9 := if_neg (fun e => h9 e.symm)
  exact ⟨by rw [u5]; exact h.maker, h.grown, h.own, by rw [u7]; exact h.inss, by rw [u9]; exact h.row, by rw [u9]; exact h.done, h.szB⟩
theorem Sbl.szp (h : Sbl B pm x ui is b0 b1 w l W) : w.heap.size ≤ W.heap.size := h.grown.size
theorem Sbl.maker0 (h : Sbl B pm x ui is b0 b1 w l W) (hl : l 5 = false) : MkAt B W pm b0 := by
  have := h.maker
  rwa [hl, if_neg (by simp)] at this
theorem Sbl.fld (h : Sbl B pm x ui is b0 b1 w l W) {cs : Array Value} {t : TypeId} (hpf : w.heap[pf]? = some (Obj.cells cs t (0, 0))) (hne : pf ≠ pm) : W.heap[pf]? = some (Obj.cells cs t (0, 0)) := by
  rw [h.grown.block pf (Array.getElem?_eq_some_iff.1 hpf).1 (by simpa using hne)]
  exact hpf
theorem Sbl.call (h : Sbl B pm x ui is b0 b1 w l W) (hM : MkAt B W' pm b1) (hg : W.grownBy W' (some pm)) : Sbl B pm x ui is b0 b1 w (upd l 5) W' := by
  have hk := Keeps.pm h.maker hg
  have hk46 : Keeps T46 W W' := hk.weak fun t ht => by simp [T46] at ht; rcases ht with rfl | rfl <;> decide
  refine ⟨hM, grown_trans h.grown hg, fun k hk' => Nat.lt_of_lt_of_le (h.own k hk') hg.size, fun h6 => (h.inss h6).keeps hk46, fun h8 => hk _ _ _ _ rfl (h.row h8), fun h8 => ?_, Nat.le_trans h.szB hg.size⟩
  obtain ⟨u, e1, e2⟩ := h.done h8
  exact ⟨u, hk _ _ _ _ rfl e1, e2.keeps hk46⟩
theorem Sbl.alloc (h : Sbl B pm x ui is b0 b1 w l W) (hB : Below W.heap.size W W') : Sbl B pm x ui is b0 b1 w (upd l 6) W' := by
  have hk : Keeps (fun _ => true) W W' := Keeps.below hB
  have hk46 : Keeps T46 W W' := Keeps.below hB
  refine ⟨h.maker.below hB h.szB, grown_trans h.grown (grown_below hB _), fun k hk' => Nat.lt_of_lt_of_le (h.own k hk') hB.size, fun h6 => (h.inss h6).keeps hk46, fun h8 => hk _ _ _ _ rfl (h.row h8), fun h8 => ?_, Nat.le_trans h.szB hB.size⟩
  obtain ⟨u, e1, e2⟩ := h.done h8
  exact ⟨u, hk _ _ _ _ rfl e1, e2.keeps hk46⟩
theorem Sbl.app (h : Sbl B pm x ui is b0 b1 w l W) (hO : InssO w.heap.size W ui is) (hg : W.grownBy W' ui.ownBlock) (hBw : B ≤ w.heap.size) (hl9 : l 9 = false) : Sbl B pm x ui is b0 b1 w (upd l 7) W' := by
  have hk := hO.grown3 hg
  have hown : ∀ k, ui.ownBlock = some k → w.heap.size ≤ k ∧ k ≠ pm := by
    intro k e
    obtain ⟨q1, _, cs, q3⟩ := hO.ownlt k e
    exact ⟨q1, row_ne68 h.maker q3 (by decide)⟩
  refine ⟨h.maker.grown hg h.szB (fun k e => ⟨Nat.le_trans hBw (hown k e).1, (hown k e).2⟩), grown_own h.grown hg (fun k e => (hown k e).1), fun k hk' => Nat.lt_of_lt_of_le (h.own k hk') hg.size, fun h6 => ?_, fun h8 => hk _ _ _ _ rfl (h.row h8), fun h8 => ?_, Nat.le_trans h.szB hg.size⟩
  · simp [upd] at h6
  · have h9' : l 9 = true := h8
    rw [hl9] at h9'
    cases h9'
theorem Sbl.store (h : Sbl B pm x ui is b0 b1 w l W) {u : Value} (hr : W.heap[w.heap.size]? = some (Obj.cells (rowB ui) 69 (0, 0))) (hO : InssO w.heap.size W u (is ++ [x])) (hBw : B ≤ w.heap.size) : Sbl B pm x ui is b0 b1 w (upd l 9) (W.setCell ⟨w.heap.size, 0, none⟩ u) := by
  have hg := grown_set W w.heap.size 0 u
  have hk : Keeps T46 W (W.setCell ⟨w.heap.size, 0, none⟩ u) := Keeps.set hr rfl u
  have hpm := row_ne68 h.maker hr (by decide)
  refine ⟨h.maker.grown hg h.szB (fun k e => by simp at e; subst e; exact ⟨by omega, hpm⟩), grown_own h.grown hg (fun k e => by simp at e; omega), fun k hk' => Nat.lt_of_lt_of_le (h.own k hk') hg.size, fun h6 => (h.inss h6).keeps hk, fun h8 => by simp [upd] at h8, fun _ => ⟨u, ?_, hO.keeps hk⟩, Nat.le_trans h.szB hg.size⟩
  rw [heap_setCell_same W w.heap.size 0 _ _ u hr]
  rfl
end
end Go.Proofs.Ytblcbccchlljhaa
namespace Go.Proofs.Ytblcbccchlljhaa
open Go.RowKit Ir

/-- A block's end, stored. -/
def sets4 (W : World) (g : Nat) (e : En) : World := (((W.setCell ⟨g, 1, none⟩ (.int .u8 e.k)).setCell ⟨g, 2, none⟩ (.int .i64 e.a)).setCell ⟨g, 3, none⟩ (.int .i64 e.to)).setCell ⟨g, 4, none⟩ (.int .i64 e.el)
theorem grown_sets4 (W : World) (g : Nat) (e : En) : W.grownBy (sets4 W g e) (some g) :=
  grown_trans (grown_trans (grown_trans (grown_set _ g 1 _) (grown_set _ g 2 _)) (grown_set _ g 3 _)) (grown_set _ g 4 _)
theorem sets4_facts {W : World} {g : Nat} {u : Value} (e : En) (h : W.heap[g]? = some (Obj.cells (rowB u) 69 (0, 0))) :
    W.cell? ⟨g, 0, none⟩ = some u ∧ W.cell? ⟨g, 1, none⟩ = some (.int .u8 0) ∧ W.cell? ⟨g, 2, none⟩ = some (.int .i64 0) ∧ W.cell? ⟨g, 3, none⟩ = some (.int .i64 0) ∧ W.cell? ⟨g, 4, none⟩ = some (.int .i64 0) ∧
    (W.frozen? ⟨g, 1, none⟩ = false ∧ W.frozen? ⟨g, 2, none⟩ = false ∧ W.frozen? ⟨g, 3, none⟩ = false ∧ W.frozen? ⟨g, 4, none⟩ = false) ∧
    (W.setCell ⟨g, 1, none⟩ (.int .u8 e.k)).cell? ⟨g, 1, none⟩ = some (.int .u8 e.k) ∧
    ((W.setCell ⟨g, 1, none⟩ (.int .u8 e.k)).setCell ⟨g, 2, none⟩ (.int .i64 e.a)).cell? ⟨g, 2, none⟩ = some (.int .i64 e.a) ∧
    (((W.setCell ⟨g, 1, none⟩ (.int .u8 e.k)).setCell ⟨g, 2, none⟩ (.int .i64 e.a)).setCell ⟨g, 3, none⟩ (.int .i64 e.to)).cell? ⟨g, 3, none⟩ = some (.int .i64 e.to) ∧
    ((((W.setCell ⟨g, 1, none⟩ (.int .u8 e.k)).setCell ⟨g, 2, none⟩ (.int .i64 e.a)).setCell ⟨g, 3, none⟩ (.int .i64 e.to)).setCell ⟨g, 4, none⟩ (.int .i64 e.el)).cell? ⟨g, 4, none⟩ = some (.int .i64 e.el) := by
  have hc : ∀ j x, (rowB u)[j]? = some x → W.cell? ⟨g, j, none⟩ = some x := fun j x hx => by rw [cell_of_row _ _ _ _ _ _ h]; exact hx
  have hf : ∀ j, W.frozen? ⟨g, j, none⟩ = false := fun j => frozen_of_row _ _ _ _ _ h
  have other : ∀ (W : World) (i j : Nat) (y x : Value), i ≠ j → W.cell? ⟨g, j, none⟩ = some x → (W.setCell ⟨g, i, none⟩ y).cell? ⟨g, j, none⟩ = some x := fun W i j y x hij h => (World.cell?_setCell_other (w := W) (a := ⟨g, i, none⟩) (b := ⟨g, j, none⟩) (v := y) (by simp <;> omega)).trans h
  have c1 := hc 1 _ rfl
  have c2 := hc 2 _ rfl
  have c3 := hc 3 _ rfl
  have c4 := hc 4 _ rfl
  exact ⟨hc 0 _ rfl, c1, c2, c3, c4, ⟨hf 1, hf 2, hf 3, hf 4⟩, World.cell?_setCell_same (w := W) (a := ⟨g, 1, none⟩) (v := .int .u8 e.k) c1,
    World.cell?_setCell_same (w := W.setCell ⟨g, 1, none⟩ (.int .u8 e.k)) (a := ⟨g, 2, none⟩) (v := .int .i64 e.a) (other _ 1 2 _ _ (by decide) c2),
    World.cell?_setCell_same (w := (W.setCell ⟨g, 1, none⟩ (.int .u8 e.k)).setCell ⟨g, 2, none⟩ (.int .i64 e.a)) (a := ⟨g, 3, none⟩) (v := .int .i64 e.to) (other _ 2 3 _ _ (by decide) (other _ 1 3 _ _ (by decide) c3)),
    World.cell?_setCell_same (w := ((W.setCell ⟨g, 1, none⟩ (.int .u8 e.k)).setCell ⟨g, 2, none⟩ (.int .i64 e.a)).setCell ⟨g, 3, none⟩ (.int .i64 e.to)) (a := ⟨g, 4, none⟩) (v := .int .i64 e.el) (other _ 3 4 _ _ (by decide) (other _ 2 4 _ _ (by decide) (other _ 1 4 _ _ (by decide) c4)))⟩

def zero24 : Array Value := #[.int .i64 0, .int .i64 0, .slice none 0 0]
/-- What holds between two blocks. -/
structure MadeInv (B pm pf pres : Nat) (p vv : Int) (w : World) (bs : List Blk) (rest : List Int) (ub : Value) (W : World) : Prop where
  maker : MkAt B W pm rest
  fld : W.heap[pf]? = some (Obj.cells (rowF p vv ub) 28 (0, 0))
  blks : BlksO B W ub bs
  res : W.heap[pres]? = some (Obj.cells zero24 28 (0, 0))
  below : Below B w W
  sz : B ≤ W.heap.size

theorem made_tail {B pm pf pres : Nat} {p vv : Int} {w wr W : World} {bs : List Blk} {rest rest' : List Int} {ub ui : Value} {is : List Ins} {ps : List (Blk × Value)} (e : En)
    (h : MadeInv B pm pf pres p vv w bs rest ub wr) (hps1 : ps.map (·.1) = bs) (hps2 : wr.ownsRow B 69 5 ub ps.length (cellsB ps)) (hps3 : ∀ q ∈ ps, InssO B wr q.2 q.1.ins) (hBp : B ≤ pf ∧ B ≤ pres ∧ pf ≠ pres)
    (hg : wr.grownBy W (some pm)) (hM : MkAt B W pm rest') (hrow : W.heap[wr.heap.size]? = some (Obj.cells (rowB ui) 69 (0, 0))) (hI : InssO wr.heap.size W ui is) (o : Obj) :
    ((sets4 W wr.heap.size e).alloc o).ownsRow B 69 5 ub ps.length (cellsB ps) ∧ B ≤ ((sets4 W wr.heap.size e).alloc o).heap.size ∧
    ∀ v' w9, w9.ownsRow B 69 5 v' (ps.length + 1) (cellsB ps ++ [ui, .int .u8 e.k, .int .i64 e.a, .int .i64 e.to, .int .i64 e.el]) → ((sets4 W wr.heap.size e).alloc o).grownBy w9 ub.ownBlock →
      w9.cell? ⟨pf, 2, none⟩ = some ub ∧ w9.frozen? ⟨pf, 2, none⟩ = false ∧ MadeInv B pm pf pres p vv w (bs ++ [⟨is, e⟩]) rest' v' (w9.setCell ⟨pf, 2, none⟩ v') := by
  have hgs := grown_sets4 W wr.heap.size e
  have hga : W.grownBy ((sets4 W wr.heap.size e).alloc o) (some wr.heap.size) := grown_trans hgs (World.grownBy_alloc _ o _)
  have hpmB : B ≤ pm := h.maker.1
  have hpmlt := h.maker.lt
  have hg8 : wr.grownBy ((sets4 W wr.heap.size e).alloc o) (some pm) := grown_own hg hga (fun k hk => by simp at hk; omega)
  have hk8 : Keeps (fun t => t != 75) wr ((sets4 W wr.heap.size e).alloc o) := Keeps.pm h.maker hg8
  have hkI : Keeps T46 W ((sets4 W wr.heap.size e).alloc o) := by
    have k1 : Keeps T46 W (sets4 W wr.heap.size e) := by
      intro g cs t fr ht h0
      rw [hgs.block g (Array.getElem?_eq_some_iff.1 h0).1 ?_]
      · exact h0
      · intro e1
        simp at e1
        subst e1
        rw [h0] at hrow
        simp only [Option.some.injEq, Obj.cells.injEq] at hrow
        rw [hrow.2.1] at ht
        simp [T46] at ht
    exact k1.trans (Keeps.below ((Below.refl _ _).alloc (Nat.le_refl _) o))
  have hM8 : MkAt B ((sets4 W wr.heap.size e).alloc o) pm rest' := hM.grown hga (Nat.le_trans h.sz hg.size) (fun k hk => by simp at hk; subst hk; exact ⟨h.sz, by omega⟩)
  have hsz8 : wr.heap.size ≤ ((sets4 W wr.heap.size e).alloc o).heap.size := hg8.size
  generalize (sets4 W wr.heap.size e).alloc o = W8 at *
  have hO8 := owns_keeps hps2 hk8 rfl
  refine ⟨hO8, Nat.le_trans h.sz hsz8, fun v' w9 hO9 hg9 => ?_⟩
  have hk9 : Keeps (fun t => t != 69) W8 w9 := Keeps.grown hO8 rfl hg9
  have hpf9 : w9.heap[pf]? = some (Obj.cells (rowF p vv ub) 28 (0, 0)) := hk9 _ _ _ _ rfl (hk8 _ _ _ _ rfl h.fld)
  have hres9 : w9.heap[pres]? = some (Obj.cells zero24 28 (0, 0)) := hk9 _ _ _ _ rfl (hk8 _ _ _ _ rfl h.res)
  have hown : ∀ k, ub.ownBlock = some k → B ≤ k ∧ k ≠ pm := by
    intro k ek
    refine ⟨(hO8.lt k ek).1, ?_⟩
    rcases hO8.2 with ⟨rfl, _⟩ | ⟨k', cap, cur, rfl, _, hkk, _⟩
    · simp [Value.ownBlock] at ek
    · simp [Value.ownBlock] at ek
      subst ek
      exact row_ne68 hM8 hkk (by decide)
  have hM9 := hM8.grown hg9 (Nat.le_trans h.sz hsz8) hown
  have hks : Keeps (fun t => t != 28) w9 (w9.setCell ⟨pf, 2, none⟩ v') := Keeps.set hpf9 rfl v'
  have hgp := grown_set w9 pf 2 v'
  have hpfm := row_ne68 hM9 hpf9 (by decide)
  have hsz9 : B ≤ w9.heap.size := Nat.le_trans (Nat.le_trans h.sz hsz8) hg9.size
  refine ⟨by rw [cell_of_row _ _ _ _ _ _ hpf9]; rfl, frozen_of_row _ _ _ _ _ hpf9, ?_, ?_, ?_, ?_, ?_, ?_⟩
  · exact hM9.grown hgp hsz9 (fun k hk => by simp at hk; subst hk; exact ⟨hBp.1, hpfm⟩)
  · rw [heap_setCell_same w9 pf 2 _ _ v' hpf9]
    rfl
  · have t46 : ∀ {T : TypeId → Bool} {a b : World}, Keeps T a b → T 3 = true → T 79 = true → Keeps T46 a b := fun hk h3 h46 => hk.weak fun t ht => by simp [T46] at ht; rcases ht with rfl | rfl <;> assumption
    have hkk : Keeps T46 W8 (w9.setCell ⟨pf, 2, none⟩ v') := (t46 hk9 rfl rfl).trans (t46 hks rfl rfl)
    refine ⟨ps ++ [(⟨is, e⟩, ui)], by simp [hps1], ?_, fun q hq => ?_⟩
    · rw [cellsB_snoc, List.length_append]
      exact owns_keeps hO9 hks rfl
    · rcases List.mem_append.1 hq with h1 | h1
      · exact ((hps3 q h1).keeps (t46 hk8 rfl rfl)).keeps hkk
      · simp at h1
        subst h1
        exact (((hI.mono h.sz).keeps hkI)).keeps hkk
  · rw [Below.heap_setCell _ _ _ _ (by simpa using fun e1 => hBp.2.2 e1.symm)]
    exact hres9
  · refine h.below.trans ⟨?_, ?_, ?_, ?_, fun k hk => ?_⟩
    · exact (hgp.os.trans hg9.os).trans hg8.os
    · exact (hgp.tape.trans hg9.tape).trans hg8.tape
    · exact (hgp.output.trans hg9.output).trans hg8.output
    · exact Nat.le_trans hg8.size (Nat.le_trans hg9.size hgp.size)
    · rw [Below.heap_setCell _ _ _ _ (by simp; omega), hg9.block k (by have := h.sz; omega) (fun e1 => by have := (hown k e1.symm).1; omega), hg8.block k (by have := h.sz; omega) (fun e1 => by simp at e1; omega)]
  · exact Nat.le_trans hsz9 hgp.size
end Go.Proofs.Ytblcbccchlljhaa
