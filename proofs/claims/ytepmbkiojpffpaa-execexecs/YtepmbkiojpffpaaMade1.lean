/- 'b.Ins = append(b.Ins, m.ins(f.Vregs))': what is known while it is done, in whatever order. -/
import Derived.Test.YtepmbkiojpffpaaMk6
namespace Go.Proofs.Ytepmbkiojpffpaa
open Go.RowKit Ir

def rowI (i : Ins) (u : Value) : Array Value := #[.int .u8 i.k, .int .u8 i.op, .int .i64 i.d, .int .i64 i.a, .int .i64 i.b, .int .i64 i.n, u]
def rowB (u : Value) : Array Value := #[u, .int .u8 0, .int .i64 0, .int .i64 0, .int .i64 0]
def rowF (p v : Int) (u : Value) : Array Value := #[.int .i64 p, .int .i64 v, u]
theorem info46 : (Try.prog.info? 65).map (fun i => (i.zero, i.size, i.bytes)) = some (some (.agg #[.int .u8 0, .int .u8 0, .int .i64 0, .int .i64 0, .int .i64 0, .int .i64 0, .slice none 0 0]), 7, 64) := by kernel_rfl
theorem info41 : (Try.prog.info? 60).map (fun i => (i.zero, i.size, i.bytes)) = some (some (.agg #[.slice none 0 0, .int .u8 0, .int .i64 0, .int .i64 0, .int .i64 0]), 5, 56) := by kernel_rfl
/-- What is known of each temporary. -/
def Gbl (pb pm pf : Nat) (vv : Int) (ui : Value) (x : Ins) (is : List Ins) : Tmp → Value → World → Prop
  | 37, xx, _ => xx = .pointer (some ⟨pb, 0, none⟩)
  | 38, xx, _ => xx = ui
  | 39, xx, _ => xx = .pointer (some ⟨pm, 0, none⟩)
  | 40, xx, _ => xx = .pointer (some ⟨pf, 1, none⟩)
  | 41, xx, _ => xx = .int .i64 vv
  | 42, xx, ww => (∃ u, xx = insV x u ∧ ArgsO pb ww u x.args)
  | 43, xx, ww => (∃ h u, xx = .slice (some ⟨h, 0, none⟩) 1 1 ∧ ww.heap[h]? = some (Obj.cells (rowI x u) 65 (0, 0)) ∧ ArgsO pb ww u x.args ∧ ui.ownBlock ≠ some h)
  | 44, xx, ww => InssO pb ww xx (is ++ [x])
  | 45, xx, _ => xx = .pointer (some ⟨pb, 0, none⟩)
  | _, _, _ => True

/-- What stands in the world. -/
structure Sbl (B pm : Nat) (x : Ins) (ui : Value) (is : List Ins) (b0 b1 : List Int) (w : World) (l : Nat → Bool) (W : World) : Prop where
  maker : MkAt B W pm (if l 5 = true then b1 else b0)
  grown : w.grownBy W (some pm)
  own : ∀ k, ui.ownBlock = some k → k < W.heap.size
  inss : l 7 = false → InssO w.heap.size W ui is
  row : l 9 = false → W.heap[w.heap.size]? = some (Obj.cells (rowB ui) 60 (0, 0))
  done : l 9 = true → ∃ u, W.heap[w.heap.size]? = some (Obj.cells (rowB u) 60 (0, 0)) ∧ InssO w.heap.size W u (is ++ [x])
  szB : B ≤ W.heap.size
/-- One instruction more, behind. -/
theorem InssO.snoc {B : Nat} {w w' : World} {v' u : Value} {is : List Ins} {x : Ins} {ps : List (Ins × Value)} (h1 : ps.map (·.1) = is) (h3 : ∀ p ∈ ps, ArgsO B w p.2 p.1.args) (hO : w'.ownsRow B 65 7 v' (ps.length + 1) (cellsI ps ++ (rowI x u).toList)) (hk : Keeps T3 w w') (hA : ArgsO B w u x.args) : InssO B w' v' (is ++ [x]) := by
  refine ⟨ps ++ [(x, u)], by simp [h1], ?_, fun p hp => ?_⟩
  · rw [cellsI_snoc, List.length_append]
    exact hO
  · rcases List.mem_append.1 hp with h | h
    · exact (h3 p h).keeps hk
    · simp at h
      subst h
      exact hA.keeps hk
theorem InssO.ownlt {B : Nat} {w : World} {v : Value} {is : List Ins} (h : InssO B w v is) : ∀ k, v.ownBlock = some k → B ≤ k ∧ k < w.heap.size ∧ ∃ cs, w.heap[k]? = some (Obj.cells cs 65 (0, 0)) := by
  obtain ⟨ps, _, h2, _⟩ := h
  intro k e
  refine ⟨(h2.lt k e).1, (h2.lt k e).2, ?_⟩
  rcases h2.2 with ⟨rfl, _⟩ | ⟨k', cap, cur, rfl, _, hkk, _⟩
  · simp [Value.ownBlock] at e
  · simp [Value.ownBlock] at e
    subst e
    exact ⟨_, hkk⟩
theorem InssO.grown3 {B : Nat} {w w' : World} {v : Value} {is : List Ins} (h : InssO B w v is) (hg : w.grownBy w' v.ownBlock) : Keeps (fun t => t != 65) w w' := by
  obtain ⟨ps, _, h2, _⟩ := h
  exact Keeps.grown h2 rfl hg
theorem InssO.mono {B B' : Nat} {w : World} {v : Value} {is : List Ins} (h : InssO B w v is) (hB : B' ≤ B) : InssO B' w v is := by
  obtain ⟨ps, h1, h2, h3⟩ := h
  exact ⟨ps, h1, owns_mono h2 hB, fun p hp => owns_mono (h3 p hp) hB⟩
/-- 'append(is, x)' of one instruction, the call's own. -/
theorem app7_ok {B0 : Nat} {a : Act} {w : World} {o : Oper} {s y : Operand} {ui u : Value} {is : List Ins} {h : Nat} {x : Ins} {Q : Value → World → Prop} (hop : o.op = .call { callee := .builtin .append, args := #[s, y], argTypes := #[55, 55] }) (es : a.eval s = ui) (ey : a.eval y = .slice (some ⟨h, 0, none⟩) 1 1)
    (hO : InssO B0 w ui is) (hh : w.heap[h]? = some (Obj.cells (rowI x u) 65 (0, 0))) (hA : ArgsO B0 w u x.args) (hl : is.length ≤ 1000000) (hB : B0 ≤ w.heap.size) (hQ : ∀ v' w', InssO B0 w' v' (is ++ [x]) → w.grownBy w' ui.ownBlock → Q v' w') :
    ∃ v' w', (execOp a.eval o).run Try.prog w = .ok (.value v') w' ∧ Q v' w' := by
  obtain ⟨i, hi, hz, hsize, hby⟩ := info_parts info46
  have hO' := hO
  obtain ⟨ps, h1, h2, h3⟩ := hO
  have hlp : ps.length = is.length := by rw [← h1, List.length_map]
  have hone : u.oneCell' = true := by obtain ⟨ua, uc, rfl⟩ := hA.v.slice; rfl
  obtain ⟨v', w', hr, g2, g3, _⟩ := run_append_own (P := Try.prog) w B0 55 o.type 65 i _ 7 64 Try.underlying55 hi hz hsize hby rfl (by decide) ui _ _ h2 ⟨h, 0, none⟩ 1 1 (rowI x u).toList rfl
    (by intro j c hj; rw [Addr.add_lit, Nat.zero_add, cell_of_row _ _ _ _ _ _ hh]; simpa using hj) (by intro c hc; simp [rowI] at hc; rcases hc with rfl | rfl | rfl | rfl | rfl | rfl | rfl <;> first | rfl | exact hone) (by unfold maxLen; omega) (by omega) hB
  refine ⟨v', w', ?_, hQ v' w' (InssO.snoc h1 h3 g2 ((hO'.grown3 g3).weak fun t ht => by simp [T3] at *; subst ht; decide) hA) g3⟩
  unfold execOp
  simp only [hop, resolve, invoke, builtin, Sem.run_bind, Sem.run_pure, Result.andThen_ok, List.map_toArray, List.map_cons, List.map_nil, es, ey, hr]
section
variable {B pm pf : Nat} {vv : Int} {ui : Value} {x : Ins} {is : List Ins} {b0 b1 : List Int} {w : World} {l : Nat → Bool} {W W' : World}
theorem Gbl_keeps {pb : Nat} {t : Tmp} {y : Value} {T : TypeId → Bool} (h : Gbl pb pm pf vv ui x is t y W) (hk : Keeps T W W') (h3 : T 3 = true := by rfl) (h46 : T 65 = true := by rfl) : Gbl pb pm pf vv ui x is t y W' := by
  have hk3 : Keeps T3 W W' := hk.weak fun t ht => by simp [T3] at ht; rw [ht]; exact h3
  have hk46 : Keeps T46 W W' := hk.weak fun t ht => by simp [T46] at ht; rcases ht with rfl | rfl <;> assumption
  unfold Gbl at h ⊢
  split
  all_goals
    first
      | exact h
      | exact InssO.keeps h hk46
      | (obtain ⟨u, e1, e2⟩ := h; exact ⟨u, e1, e2.keeps hk3⟩)
      | (obtain ⟨k, u, e1, e2, e3, e4⟩ := h; exact ⟨k, u, e1, hk _ _ _ _ h46 e2, e3.keeps hk3, e4⟩)
      | trivial
theorem Gbl_app {pb : Nat} {t : Tmp} {y : Value} (h : Gbl pb pm pf vv ui x is t y W) (ht : some t ≠ some 44) (hO : InssO pb W ui is) (hg : W.grownBy W' ui.ownBlock) : Gbl pb pm pf vv ui x is t y W' := by
  have hk3 : Keeps T3 W W' := (hO.grown3 hg).weak fun t ht => by simp [T3] at ht; rw [ht]; decide
  unfold Gbl at h ⊢
  split
  all_goals
    first
      | exact h
      | exact absurd rfl ht
      | (obtain ⟨u, e1, e2⟩ := h; exact ⟨u, e1, e2.keeps hk3⟩)
      | (obtain ⟨k, u, e1, e2, e3, e4⟩ := h; exact ⟨k, u, e1, by rw [hg.block k (Array.getElem?_eq_some_iff.1 e2).1 (fun e => e4 e.symm)]; exact e2, e3.keeps hk3, e4⟩)
      | trivial
theorem Sbl.skip (h : Sbl B pm x ui is b0 b1 w l W) {j : Nat} (h5 : j ≠ 5) (h7 : j ≠ 7) (h9 : j ≠ 9) : Sbl B pm x ui is b0 b1 w (upd l j) W := by
  have u5 : upd l j 5 = l 5 := if_neg (fun e => h5 e.symm)
  have u7 : upd l j 7 = l 7 := if_neg (fun e => h7 e.symm)
  have u9 : upd l j 9 = l 9 := if_neg (fun e => h9 e.symm)
  exact ⟨by rw [u5]; exact h.maker, h.grown, h.own, by rw [u7]; exact h.inss, by rw [u9]; exact h.row, by rw [u9]; exact h.done, h.szB⟩
theorem Sbl.szp (h : Sbl B pm x ui is b0 b1 w l W) : w.heap.size ≤ W.heap.size := h.grown.size
theorem Sbl.maker0 (h : Sbl B pm x ui is b0 b1 w l W) (hl : l 5 = false) : MkAt B W pm b0 := by
  have := h.maker
  rwa [hl, if_neg (by simp)] at this
theorem Sbl.fld (h : Sbl B pm x ui is b0 b1 w l W) {cs : Array Value} {t : TypeId} (hpf : w.heap[pf]? = some (Obj.cells cs t (0, 0))) (hne : pf ≠ pm) : W.heap[pf]? = some (Obj.cells cs t (0, 0)) := by
  rw [h.grown.block pf (Array.getElem?_eq_some_iff.1 hpf).1 (by simpa using hne)]
  exact hpf
theorem Sbl.call (h : Sbl B pm x ui is b0 b1 w l W) (hM : MkAt B W' pm b1) (hg : W.grownBy W' (some pm)) : Sbl B pm x ui is b0 b1 w (upd l 5) W' := by
  have hk := Keeps.pm h.maker hg
  have hk46 : Keeps T46 W W' := hk.weak fun t ht => by simp [T46] at ht; rcases ht with rfl | rfl <;> decide
  refine ⟨hM, grown_trans h.grown hg, fun k hk' => Nat.lt_of_lt_of_le (h.own k hk') hg.size, fun h6 => (h.inss h6).keeps hk46, fun h8 => hk _ _ _ _ rfl (h.row h8), fun h8 => ?_, Nat.le_trans h.szB hg.size⟩
  obtain ⟨u, e1, e2⟩ := h.done h8
  exact ⟨u, hk _ _ _ _ rfl e1, e2.keeps hk46⟩
theorem Sbl.alloc (h : Sbl B pm x ui is b0 b1 w l W) (hB : Below W.heap.size W W') : Sbl B pm x ui is b0 b1 w (upd l 6) W' := by
  have hk : Keeps (fun _ => true) W W' := Keeps.below hB
  have hk46 : Keeps T46 W W' := Keeps.below hB
  refine ⟨h.maker.below hB h.szB, grown_trans h.grown (grown_below hB _), fun k hk' => Nat.lt_of_lt_of_le (h.own k hk') hB.size, fun h6 => (h.inss h6).keeps hk46, fun h8 => hk _ _ _ _ rfl (h.row h8), fun h8 => ?_, Nat.le_trans h.szB hB.size⟩
  obtain ⟨u, e1, e2⟩ := h.done h8
  exact ⟨u, hk _ _ _ _ rfl e1, e2.keeps hk46⟩
theorem Sbl.app (h : Sbl B pm x ui is b0 b1 w l W) (hO : InssO w.heap.size W ui is) (hg : W.grownBy W' ui.ownBlock) (hBw : B ≤ w.heap.size) (hl9 : l 9 = false) : Sbl B pm x ui is b0 b1 w (upd l 7) W' := by
  have hk := hO.grown3 hg
  have hown : ∀ k, ui.ownBlock = some k → w.heap.size ≤ k ∧ k ≠ pm := by
    intro k e
    obtain ⟨q1, _, cs, q3⟩ := hO.ownlt k e
    exact ⟨q1, row_ne68 h.maker q3 (by decide)⟩
  refine ⟨h.maker.grown hg h.szB (fun k e => ⟨Nat.le_trans hBw (hown k e).1, (hown k e).2⟩), grown_own h.grown hg (fun k e => (hown k e).1), fun k hk' => Nat.lt_of_lt_of_le (h.own k hk') hg.size, fun h6 => ?_, fun h8 => hk _ _ _ _ rfl (h.row h8), fun h8 => ?_, Nat.le_trans h.szB hg.size⟩
  · simp [upd] at h6
  · have h9' : l 9 = true := h8
    rw [hl9] at h9'
    cases h9'
theorem Sbl.store (h : Sbl B pm x ui is b0 b1 w l W) {u : Value} (hr : W.heap[w.heap.size]? = some (Obj.cells (rowB ui) 60 (0, 0))) (hO : InssO w.heap.size W u (is ++ [x])) (hBw : B ≤ w.heap.size) : Sbl B pm x ui is b0 b1 w (upd l 9) (W.setCell ⟨w.heap.size, 0, none⟩ u) := by
  have hg := grown_set W w.heap.size 0 u
  have hk : Keeps T46 W (W.setCell ⟨w.heap.size, 0, none⟩ u) := Keeps.set hr rfl u
  have hpm := row_ne68 h.maker hr (by decide)
  refine ⟨h.maker.grown hg h.szB (fun k e => by simp at e; subst e; exact ⟨by omega, hpm⟩), grown_own h.grown hg (fun k e => by simp at e; omega), fun k hk' => Nat.lt_of_lt_of_le (h.own k hk') hg.size, fun h6 => (h.inss h6).keeps hk, fun h8 => by simp [upd] at h8, fun _ => ⟨u, ?_, hO.keeps hk⟩, Nat.le_trans h.szB hg.size⟩
  rw [heap_setCell_same W w.heap.size 0 _ _ u hr]
  rfl
end
end Go.Proofs.Ytepmbkiojpffpaa
