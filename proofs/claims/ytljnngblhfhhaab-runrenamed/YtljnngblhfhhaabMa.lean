/- Made of layer 4 once more: what it makes lies in rows that are apart. -/
import Derived.Test.YtljnngblhfhhaabMade
namespace Go.Proofs.Ytljnngblhfhhaab.Ap
open Go.RowKit Ir

def Dif (a b : Value) : Prop := ∀ k, a.ownBlock = some k → b.ownBlock ≠ some k
/-- Instructions, each with its arguments' value; their arguments lie apart. -/
structure InssP (B : Nat) (w : World) (v : Value) (ps : List (Ins × Value)) : Prop where
  row : w.ownsRow B 53 7 v ps.length (cellsI ps)
  args : ∀ p ∈ ps, ArgsO B w p.2 p.1.args
  apart : (ps.map (·.2)).Pairwise Dif
theorem InssP.keeps {B : Nat} {w w' : World} {v : Value} {ps : List (Ins × Value)} (h : InssP B w v ps) (hk : Keeps T46 w w') : InssP B w' v ps :=
  ⟨owns_keeps h.row hk rfl, fun p hp => (h.args p hp).keeps (hk.weak fun t ht => by simp [T3, T46] at *; exact .inl ht), h.apart⟩
theorem InssP.mono {B B' : Nat} {w : World} {v : Value} {ps : List (Ins × Value)} (h : InssP B w v ps) (hB : B' ≤ B) : InssP B' w v ps := ⟨owns_mono h.row hB, fun p hp => owns_mono (h.args p hp) hB, h.apart⟩
theorem InssP.old {B : Nat} {w : World} {v : Value} {ps : List (Ins × Value)} (h : InssP B w v ps) : Go.Proofs.Ytljnngblhfhhaab.InssO B w v (ps.map (·.1)) := ⟨ps, rfl, h.row, h.args⟩
def InssO (B : Nat) (w : World) (v : Value) (is : List Ins) : Prop := ∃ ps : List (Ins × Value), ps.map (·.1) = is ∧ InssP B w v ps
/-- The same, all arguments below block M. -/
def InssM (M B : Nat) (w : World) (v : Value) (is : List Ins) : Prop := ∃ ps : List (Ins × Value), ps.map (·.1) = is ∧ InssP B w v ps ∧ ∀ p ∈ ps, ∀ k, p.2.ownBlock = some k → k < M
theorem args_lt {B : Nat} {w : World} {v : Value} {xs : List Int} (h : ArgsO B w v xs) : ∀ k, v.ownBlock = some k → B ≤ k ∧ k < w.heap.size := fun k e => h.lt k e
theorem InssO.m {B : Nat} {w : World} {v : Value} {is : List Ins} (h : InssO B w v is) : InssM w.heap.size B w v is := by
  obtain ⟨ps, h1, h2⟩ := h
  exact ⟨ps, h1, h2, fun p hp k e => (args_lt (h2.args p hp) k e).2⟩
theorem InssM.o {M B : Nat} {w : World} {v : Value} {is : List Ins} (h : InssM M B w v is) : InssO B w v is := by
  obtain ⟨ps, h1, h2, _⟩ := h
  exact ⟨ps, h1, h2⟩
theorem InssO.keeps {B : Nat} {w w' : World} {v : Value} {is : List Ins} (h : InssO B w v is) (hk : Keeps T46 w w') : InssO B w' v is := by
  obtain ⟨ps, h1, h2⟩ := h
  exact ⟨ps, h1, h2.keeps hk⟩
theorem InssM.keeps {M B : Nat} {w w' : World} {v : Value} {is : List Ins} (h : InssM M B w v is) (hk : Keeps T46 w w') : InssM M B w' v is := by
  obtain ⟨ps, h1, h2, h3⟩ := h
  exact ⟨ps, h1, h2.keeps hk, h3⟩
theorem InssO.nil (B : Nat) (w : World) : InssO B w (.slice none 0 0) [] := ⟨[], rfl, World.ownsRow_nil _ _ _ _, fun p hp => by simp at hp, by simp⟩
theorem InssO.v {B : Nat} {w : World} {v : Value} {is : List Ins} (h : InssO B w v is) : InssV w v is := by
  obtain ⟨ps, rfl, h2⟩ := h
  exact h2.old.v
theorem InssO.mono {B B' : Nat} {w : World} {v : Value} {is : List Ins} (h : InssO B w v is) (hB : B' ≤ B) : InssO B' w v is := by
  obtain ⟨ps, h1, h2⟩ := h
  exact ⟨ps, h1, h2.mono hB⟩
theorem InssO.ownlt {B : Nat} {w : World} {v : Value} {is : List Ins} (h : InssO B w v is) : ∀ k, v.ownBlock = some k → B ≤ k ∧ k < w.heap.size ∧ ∃ cs, w.heap[k]? = some (Obj.cells cs 53 (0, 0)) := by
  obtain ⟨ps, rfl, h2⟩ := h
  exact h2.old.ownlt
theorem InssO.grown3 {B : Nat} {w w' : World} {v : Value} {is : List Ins} (h : InssO B w v is) (hg : w.grownBy w' v.ownBlock) : Keeps (fun t => t != 53) w w' := by
  obtain ⟨ps, rfl, h2⟩ := h
  exact h2.old.grown3 hg
abbrev PB := Blk × Value × List (Ins × Value)
def cellsB' (qs : List PB) : List Value := cellsB (qs.map fun q => (q.1, q.2.1))
theorem cellsB'_snoc (qs : List PB) (q : PB) : cellsB' (qs ++ [q]) = cellsB' qs ++ [q.2.1, .int .u8 q.1.e.k, .int .i64 q.1.e.a, .int .i64 q.1.e.to, .int .i64 q.1.e.el] := by
  unfold cellsB'
  rw [List.map_append, List.map_cons, List.map_nil, cellsB_snoc]
structure Rest (B : Nat) (w : World) (qs : List PB) : Prop where
  each : ∀ q ∈ qs, q.2.2.map (·.1) = q.1.ins ∧ InssP B w q.2.1 q.2.2
  rows : (qs.map (·.2.1)).Pairwise Dif
  args : ((qs.flatMap (·.2.2)).map (·.2)).Pairwise Dif
theorem Rest.keeps {B : Nat} {w w' : World} {qs : List PB} (h : Rest B w qs) (hk : Keeps T46 w w') : Rest B w' qs := ⟨fun q hq => ⟨(h.each q hq).1, (h.each q hq).2.keeps hk⟩, h.rows, h.args⟩
/-- One block more, made behind all others. -/
theorem Rest.snoc {B M : Nat} {w w0 : World} {qs : List PB} {b : Blk} {ui : Value} {ps : List (Ins × Value)} (h : Rest B w qs) (h0 : Rest B w0 qs) (hM : w0.heap.size ≤ M) (hp : InssP M w ui ps) (he : ps.map (·.1) = b.ins) (hB : B ≤ M) : Rest B w (qs ++ [(b, ui, ps)]) := by
  have hlt : ∀ q ∈ qs, (∀ k, q.2.1.ownBlock = some k → k < M) ∧ ∀ p ∈ q.2.2, ∀ k, p.2.ownBlock = some k → k < M := by
    intro q hq
    have hq2 := (h0.each q hq).2
    exact ⟨fun k e => Nat.lt_of_lt_of_le (hq2.row.lt k e).2 hM, fun p hp' k e => Nat.lt_of_lt_of_le (args_lt (hq2.args p hp') k e).2 hM⟩
  refine ⟨fun q hq => ?_, ?_, ?_⟩
  · rcases List.mem_append.1 hq with hq | hq
    · exact h.each q hq
    · simp at hq
      subst hq
      exact ⟨he, hp.mono hB⟩
  · rw [List.map_append, List.pairwise_append]
    refine ⟨h.rows, by simp, fun a ha b' hb' => ?_⟩
    obtain ⟨q, hq, rfl⟩ := List.mem_map.1 ha
    simp at hb'
    subst hb'
    intro k e1 e2
    have h1 := (hlt q hq).1 k e1
    have h2 := (hp.row.lt k e2).1
    omega
  · rw [List.flatMap_append, List.map_append, List.pairwise_append]
    refine ⟨h.args, by simpa using hp.apart, fun a ha b' hb' => ?_⟩
    obtain ⟨p, hp', rfl⟩ := List.mem_map.1 ha
    obtain ⟨q, hq, hpq⟩ := List.mem_flatMap.1 hp'
    simp at hb'
    obtain ⟨i2, hb'⟩ := hb'
    intro k e1 e2
    have h1 := (hlt q hq).2 p hpq k e1
    have h2 := (args_lt (hp.args _ hb') k e2).1
    omega
def BlksO (B : Nat) (w : World) (v : Value) (bs : List Blk) : Prop := ∃ ps : List PB, ps.map (·.1) = bs ∧ w.ownsRow B 48 5 v ps.length (cellsB' ps) ∧ Rest B w ps
theorem BlksO.nil (B : Nat) (w : World) : BlksO B w (.slice none 0 0) [] := ⟨[], rfl, World.ownsRow_nil _ _ _ _, fun q hq => by simp at hq, by simp, by simp⟩
theorem BlksO.keeps {B : Nat} {w w' : World} {v : Value} {bs : List Blk} (h : BlksO B w v bs) (hk : Keeps T41 w w') : BlksO B w' v bs := by
  obtain ⟨ps, h1, h2, h3⟩ := h
  exact ⟨ps, h1, owns_keeps h2 hk rfl, h3.keeps (hk.weak fun t ht => by simp [T46, T41] at *; rcases ht with h | h <;> simp [h])⟩
theorem BlksO.old {B : Nat} {w : World} {v : Value} {bs : List Blk} (h : BlksO B w v bs) : Go.Proofs.Ytljnngblhfhhaab.BlksO B w v bs := by
  obtain ⟨ps, rfl, h2, h3⟩ := h
  refine ⟨ps.map fun q => (q.1, q.2.1), by simp [Function.comp_def], by rw [List.length_map]; exact h2, fun p hp => ?_⟩
  obtain ⟨q, hq, rfl⟩ := List.mem_map.1 hp
  have := (h3.each q hq).2.old
  rw [(h3.each q hq).1] at this
  exact this
/-- What is known of each temporary. -/
def Gbl (M pb pm pf : Nat) (vv : Int) (ui : Value) (x : Ins) (is : List Ins) : Tmp → Value → World → Prop
  | 37, xx, _ => xx = .pointer (some ⟨pb, 0, none⟩)
  | 38, xx, _ => xx = ui
  | 39, xx, _ => xx = .pointer (some ⟨pm, 0, none⟩)
  | 40, xx, _ => xx = .pointer (some ⟨pf, 1, none⟩)
  | 41, xx, _ => xx = .int .i64 vv
  | 42, xx, ww => (∃ u, xx = insV x u ∧ ArgsO pb ww u x.args ∧ ∀ k, u.ownBlock = some k → M ≤ k)
  | 43, xx, ww => (∃ h u, xx = .slice (some ⟨h, 0, none⟩) 1 1 ∧ ww.heap[h]? = some (Obj.cells (rowI x u) 53 (0, 0)) ∧ ArgsO pb ww u x.args ∧ ui.ownBlock ≠ some h ∧ ∀ k, u.ownBlock = some k → M ≤ k)
  | 44, xx, ww => InssO pb ww xx (is ++ [x])
  | 45, xx, _ => xx = .pointer (some ⟨pb, 0, none⟩)
  | _, _, _ => True

/-- What stands in the world. -/
structure Sbl (M B pm : Nat) (x : Ins) (ui : Value) (is : List Ins) (b0 b1 : List Int) (w : World) (l : Nat → Bool) (W : World) : Prop where
  maker : MkAt B W pm (if l 5 = true then b1 else b0)
  grown : w.grownBy W (some pm)
  own : ∀ k, ui.ownBlock = some k → k < W.heap.size
  inss : l 7 = false → InssM M w.heap.size W ui is
  row : l 9 = false → W.heap[w.heap.size]? = some (Obj.cells (rowB ui) 48 (0, 0))
  done : l 9 = true → ∃ u, W.heap[w.heap.size]? = some (Obj.cells (rowB u) 48 (0, 0)) ∧ InssO w.heap.size W u (is ++ [x])
  szB : B ≤ W.heap.size
  szM : M ≤ W.heap.size
/-- One instruction more, behind. -/
theorem InssO.snoc {M B : Nat} {w w' : World} {ui0 v' u : Value} {is : List Ins} {x : Ins} {ps : List (Ins × Value)} (h1 : ps.map (·.1) = is) (h3 : InssP B w ui0 ps) (hm : ∀ p ∈ ps, ∀ k, p.2.ownBlock = some k → k < M) (hO : w'.ownsRow B 53 7 v' (ps.length + 1) (cellsI ps ++ (rowI x u).toList)) (hk : Keeps T3 w w') (hA : ArgsO B w u x.args) (hf : ∀ k, u.ownBlock = some k → M ≤ k) : InssO B w' v' (is ++ [x]) := by
  refine ⟨ps ++ [(x, u)], by simp [h1], ?_, fun p hp => ?_, ?_⟩
  · rw [cellsI_snoc, List.length_append]
    exact hO
  · rcases List.mem_append.1 hp with h | h
    · exact (h3.args p h).keeps hk
    · simp at h
      subst h
      exact hA.keeps hk
  · rw [List.map_append, List.pairwise_append]
    refine ⟨h3.apart, by simp, fun a ha b hb => ?_⟩
    obtain ⟨p, hp, rfl⟩ := List.mem_map.1 ha
    simp at hb
    subst hb
    intro k e1 e2
    have := hm p hp k e1
    have := hf k e2
    omega
/-- 'append(is, x)' of one instruction, the call's own. -/
theorem app7_ok {M B0 : Nat} {a : Act} {w : World} {o : Oper} {s y : Operand} {ui u : Value} {is : List Ins} {h : Nat} {x : Ins} {Q : Value → World → Prop} (hop : o.op = .call { callee := .builtin .append, args := #[s, y], argTypes := #[43, 43] }) (es : a.eval s = ui) (ey : a.eval y = .slice (some ⟨h, 0, none⟩) 1 1)
    (hO : InssM M B0 w ui is) (hh : w.heap[h]? = some (Obj.cells (rowI x u) 53 (0, 0))) (hA : ArgsO B0 w u x.args) (hf : ∀ k, u.ownBlock = some k → M ≤ k) (hl : is.length ≤ 1000000) (hB : B0 ≤ w.heap.size) (hQ : ∀ v' w', InssO B0 w' v' (is ++ [x]) → w.grownBy w' ui.ownBlock → Q v' w') :
    ∃ v' w', (execOp a.eval o).run Try.prog w = .ok (.value v') w' ∧ Q v' w' := by
  obtain ⟨i, hi, hz, hsize, hby⟩ := info_parts info46
  have hO' := hO
  obtain ⟨ps, h1, hP, hm⟩ := hO
  have h2 := hP.row
  have hlp : ps.length = is.length := by rw [← h1, List.length_map]
  have hone : u.oneCell' = true := by obtain ⟨ua, uc, rfl⟩ := hA.v.slice; rfl
  obtain ⟨v', w', hr, g2, g3, _⟩ := run_append_own (P := Try.prog) w B0 43 o.type 53 i _ 7 64 Try.underlying43 hi hz hsize hby rfl (by decide) ui _ _ h2 ⟨h, 0, none⟩ 1 1 (rowI x u).toList rfl
    (by intro j c hj; rw [Addr.add_lit, Nat.zero_add, cell_of_row _ _ _ _ _ _ hh]; simpa using hj) (by intro c hc; simp [rowI] at hc; rcases hc with rfl | rfl | rfl | rfl | rfl | rfl | rfl <;> first | rfl | exact hone) (by unfold maxLen; omega) (by omega) hB
  refine ⟨v', w', ?_, hQ v' w' (InssO.snoc h1 hP hm g2 ((hO'.o.grown3 g3).weak fun t ht => by simp [T3] at *; subst ht; decide) hA hf) g3⟩
  unfold execOp
  simp only [hop, resolve, invoke, builtin, Sem.run_bind, Sem.run_pure, Result.andThen_ok, List.map_toArray, List.map_cons, List.map_nil, es, ey, hr]
section
variable {M B pm pf : Nat} {vv : Int} {ui : Value} {x : Ins} {is : List Ins} {b0 b1 : List Int} {w : World} {l : Nat → Bool} {W W' : World}
theorem Gbl_keeps {pb : Nat} {t : Tmp} {y : Value} {T : TypeId → Bool} (h : Gbl M pb pm pf vv ui x is t y W) (hk : Keeps T W W') (h3 : T 3 = true := by rfl) (h46 : T 53 = true := by rfl) : Gbl M pb pm pf vv ui x is t y W' := by
  have hk3 : Keeps T3 W W' := hk.weak fun t ht => by simp [T3] at ht; rw [ht]; exact h3
  have hk46 : Keeps T46 W W' := hk.weak fun t ht => by simp [T46] at ht; rcases ht with rfl | rfl <;> assumption
  unfold Gbl at h ⊢
  split
  all_goals
    first
      | exact h
      | exact InssO.keeps h hk46
      | (obtain ⟨u, e1, e2, e9⟩ := h; exact ⟨u, e1, e2.keeps hk3, e9⟩)
      | (obtain ⟨k, u, e1, e2, e3, e4, e9⟩ := h; exact ⟨k, u, e1, hk _ _ _ _ h46 e2, e3.keeps hk3, e4, e9⟩)
      | trivial
theorem Gbl_app {pb : Nat} {t : Tmp} {y : Value} (h : Gbl M pb pm pf vv ui x is t y W) (ht : some t ≠ some 44) (hO : InssO pb W ui is) (hg : W.grownBy W' ui.ownBlock) : Gbl M pb pm pf vv ui x is t y W' := by
  have hk3 : Keeps T3 W W' := (hO.grown3 hg).weak fun t ht => by simp [T3] at ht; rw [ht]; decide
  unfold Gbl at h ⊢
  split
  all_goals
    first
      | exact h
      | exact absurd rfl ht
      | (obtain ⟨u, e1, e2, e9⟩ := h; exact ⟨u, e1, e2.keeps hk3, e9⟩)
      | (obtain ⟨k, u, e1, e2, e3, e4, e9⟩ := h; exact ⟨k, u, e1, by rw [hg.block k (Array.getElem?_eq_some_iff.1 e2).1 (fun e => e4 e.symm)]; exact e2, e3.keeps hk3, e4, e9⟩)
      | trivial
theorem Sbl.skip (h : Sbl M B pm x ui is b0 b1 w l W) {j : Nat} (h5 : j ≠ 5) (h7 : j ≠ 7) (h9 : j ≠ 9) : Sbl M B pm x ui is b0 b1 w (upd l j) W := by
  have u5 : upd l j 5 = l 5 := if_neg (fun e => h5 e.symm)
  have u7 : upd l j 7 = l 7 := if_neg (fun e => h7 e.symm)
  have u9 : upd l j 9 = l 9 := if_neg (fun e => h9 e.symm)
  exact ⟨by rw [u5]; exact h.maker, h.grown, h.own, by rw [u7]; exact h.inss, by rw [u9]; exact h.row, by rw [u9]; exact h.done, h.szB, h.szM⟩
theorem Sbl.szp (h : Sbl M B pm x ui is b0 b1 w l W) : w.heap.size ≤ W.heap.size := h.grown.size
theorem Sbl.maker0 (h : Sbl M B pm x ui is b0 b1 w l W) (hl : l 5 = false) : MkAt B W pm b0 := by
  have := h.maker
  rwa [hl, if_neg (by simp)] at this
theorem Sbl.fld (h : Sbl M B pm x ui is b0 b1 w l W) {cs : Array Value} {t : TypeId} (hpf : w.heap[pf]? = some (Obj.cells cs t (0, 0))) (hne : pf ≠ pm) : W.heap[pf]? = some (Obj.cells cs t (0, 0)) := by
  rw [h.grown.block pf (Array.getElem?_eq_some_iff.1 hpf).1 (by simpa using hne)]
  exact hpf
theorem Sbl.call (h : Sbl M B pm x ui is b0 b1 w l W) (hM : MkAt B W' pm b1) (hg : W.grownBy W' (some pm)) : Sbl M B pm x ui is b0 b1 w (upd l 5) W' := by
  have hk := Keeps.pm h.maker hg
  have hk46 : Keeps T46 W W' := hk.weak fun t ht => by simp [T46] at ht; rcases ht with rfl | rfl <;> decide
  refine ⟨hM, grown_trans h.grown hg, fun k hk' => Nat.lt_of_lt_of_le (h.own k hk') hg.size, fun h6 => (h.inss h6).keeps hk46, fun h8 => hk _ _ _ _ rfl (h.row h8), fun h8 => ?_, Nat.le_trans h.szB hg.size, Nat.le_trans h.szM hg.size⟩
  obtain ⟨u, e1, e2⟩ := h.done h8
  exact ⟨u, hk _ _ _ _ rfl e1, e2.keeps hk46⟩
theorem Sbl.alloc (h : Sbl M B pm x ui is b0 b1 w l W) (hB : Below W.heap.size W W') : Sbl M B pm x ui is b0 b1 w (upd l 6) W' := by
  have hk : Keeps (fun _ => true) W W' := Keeps.below hB
  have hk46 : Keeps T46 W W' := Keeps.below hB
  refine ⟨h.maker.below hB h.szB, grown_trans h.grown (grown_below hB _), fun k hk' => Nat.lt_of_lt_of_le (h.own k hk') hB.size, fun h6 => (h.inss h6).keeps hk46, fun h8 => hk _ _ _ _ rfl (h.row h8), fun h8 => ?_, Nat.le_trans h.szB hB.size, Nat.le_trans h.szM hB.size⟩
  obtain ⟨u, e1, e2⟩ := h.done h8
  exact ⟨u, hk _ _ _ _ rfl e1, e2.keeps hk46⟩
theorem Sbl.app (h : Sbl M B pm x ui is b0 b1 w l W) (hO : InssO w.heap.size W ui is) (hg : W.grownBy W' ui.ownBlock) (hBw : B ≤ w.heap.size) (hl9 : l 9 = false) : Sbl M B pm x ui is b0 b1 w (upd l 7) W' := by
  have hk := hO.grown3 hg
  have hown : ∀ k, ui.ownBlock = some k → w.heap.size ≤ k ∧ k ≠ pm := by
    intro k e
    obtain ⟨q1, _, cs, q3⟩ := hO.ownlt k e
    exact ⟨q1, row_ne68 h.maker q3 (by decide)⟩
  refine ⟨h.maker.grown hg h.szB (fun k e => ⟨Nat.le_trans hBw (hown k e).1, (hown k e).2⟩), grown_own h.grown hg (fun k e => (hown k e).1), fun k hk' => Nat.lt_of_lt_of_le (h.own k hk') hg.size, fun h6 => ?_, fun h8 => hk _ _ _ _ rfl (h.row h8), fun h8 => ?_, Nat.le_trans h.szB hg.size, Nat.le_trans h.szM hg.size⟩
  · simp [upd] at h6
  · have h9' : l 9 = true := h8
    rw [hl9] at h9'
    cases h9'
theorem Sbl.store (h : Sbl M B pm x ui is b0 b1 w l W) {u : Value} (hr : W.heap[w.heap.size]? = some (Obj.cells (rowB ui) 48 (0, 0))) (hO : InssO w.heap.size W u (is ++ [x])) (hBw : B ≤ w.heap.size) : Sbl M B pm x ui is b0 b1 w (upd l 9) (W.setCell ⟨w.heap.size, 0, none⟩ u) := by
  have hg := grown_set W w.heap.size 0 u
  have hk : Keeps T46 W (W.setCell ⟨w.heap.size, 0, none⟩ u) := Keeps.set hr rfl u
  have hpm := row_ne68 h.maker hr (by decide)
  refine ⟨h.maker.grown hg h.szB (fun k e => by simp at e; subst e; exact ⟨by omega, hpm⟩), grown_own h.grown hg (fun k e => by simp at e; omega), fun k hk' => Nat.lt_of_lt_of_le (h.own k hk') hg.size, fun h6 => (h.inss h6).keeps hk, fun h8 => by simp [upd] at h8, fun _ => ⟨u, ?_, hO.keeps hk⟩, Nat.le_trans h.szB hg.size, Nat.le_trans h.szM hg.size⟩
  rw [heap_setCell_same W w.heap.size 0 _ _ u hr]
  rfl
end
/-- What holds between two blocks. -/
structure MadeInv (B pm pf pres : Nat) (p vv : Int) (w : World) (bs : List Blk) (rest : List Int) (ub : Value) (W : World) : Prop where
  maker : MkAt B W pm rest
  fld : W.heap[pf]? = some (Obj.cells (rowF p vv ub) 31 (0, 0))
  blks : BlksO B W ub bs
  res : W.heap[pres]? = some (Obj.cells zero24 31 (0, 0))
  below : Below B w W
  sz : B ≤ W.heap.size

theorem made_tail {B pm pf pres : Nat} {p vv : Int} {w wr W : World} {bs : List Blk} {rest rest' : List Int} {ub ui : Value} {is : List Ins} {ps : List PB} (e : En)
    (h : MadeInv B pm pf pres p vv w bs rest ub wr) (hps1 : ps.map (·.1) = bs) (hps2 : wr.ownsRow B 48 5 ub ps.length (cellsB' ps)) (hps3 : Rest B wr ps) (hBp : B ≤ pf ∧ B ≤ pres ∧ pf ≠ pres)
    (hg : wr.grownBy W (some pm)) (hM : MkAt B W pm rest') (hrow : W.heap[wr.heap.size]? = some (Obj.cells (rowB ui) 48 (0, 0))) (hI : InssO wr.heap.size W ui is) (o : Obj) :
    ((sets4 W wr.heap.size e).alloc o).ownsRow B 48 5 ub ps.length (cellsB' ps) ∧ B ≤ ((sets4 W wr.heap.size e).alloc o).heap.size ∧
    ∀ v' w9, w9.ownsRow B 48 5 v' (ps.length + 1) (cellsB' ps ++ [ui, .int .u8 e.k, .int .i64 e.a, .int .i64 e.to, .int .i64 e.el]) → ((sets4 W wr.heap.size e).alloc o).grownBy w9 ub.ownBlock →
      w9.cell? ⟨pf, 2, none⟩ = some ub ∧ w9.frozen? ⟨pf, 2, none⟩ = false ∧ MadeInv B pm pf pres p vv w (bs ++ [⟨is, e⟩]) rest' v' (w9.setCell ⟨pf, 2, none⟩ v') := by
  have hgs := grown_sets4 W wr.heap.size e
  have hga : W.grownBy ((sets4 W wr.heap.size e).alloc o) (some wr.heap.size) := grown_trans hgs (World.grownBy_alloc _ o _)
  have hpmB : B ≤ pm := h.maker.1
  have hpmlt := h.maker.lt
  have hg8 : wr.grownBy ((sets4 W wr.heap.size e).alloc o) (some pm) := grown_own hg hga (fun k hk => by simp at hk; omega)
  have hk8 : Keeps (fun t => t != 62) wr ((sets4 W wr.heap.size e).alloc o) := Keeps.pm h.maker hg8
  have hkI : Keeps T46 W ((sets4 W wr.heap.size e).alloc o) := by
    have k1 : Keeps T46 W (sets4 W wr.heap.size e) := by
      intro g cs t fr ht h0
      rw [hgs.block g (Array.getElem?_eq_some_iff.1 h0).1 ?_]
      · exact h0
      · intro e1
        simp at e1
        subst e1
        rw [h0] at hrow
        simp only [Option.some.injEq, Obj.cells.injEq] at hrow
        rw [hrow.2.1] at ht
        simp [T46] at ht
    exact k1.trans (Keeps.below ((Below.refl _ _).alloc (Nat.le_refl _) o))
  have hM8 : MkAt B ((sets4 W wr.heap.size e).alloc o) pm rest' := hM.grown hga (Nat.le_trans h.sz hg.size) (fun k hk => by simp at hk; subst hk; exact ⟨h.sz, by omega⟩)
  have hsz8 : wr.heap.size ≤ ((sets4 W wr.heap.size e).alloc o).heap.size := hg8.size
  generalize (sets4 W wr.heap.size e).alloc o = W8 at *
  have hO8 := owns_keeps hps2 hk8 rfl
  refine ⟨hO8, Nat.le_trans h.sz hsz8, fun v' w9 hO9 hg9 => ?_⟩
  have hk9 : Keeps (fun t => t != 48) W8 w9 := Keeps.grown hO8 rfl hg9
  have hpf9 : w9.heap[pf]? = some (Obj.cells (rowF p vv ub) 31 (0, 0)) := hk9 _ _ _ _ rfl (hk8 _ _ _ _ rfl h.fld)
  have hres9 : w9.heap[pres]? = some (Obj.cells zero24 31 (0, 0)) := hk9 _ _ _ _ rfl (hk8 _ _ _ _ rfl h.res)
  have hown : ∀ k, ub.ownBlock = some k → B ≤ k ∧ k ≠ pm := by
    intro k ek
    refine ⟨(hO8.lt k ek).1, ?_⟩
    rcases hO8.2 with ⟨rfl, _⟩ | ⟨k', cap, cur, rfl, _, hkk, _⟩
    · simp [Value.ownBlock] at ek
    · simp [Value.ownBlock] at ek
      subst ek
      exact row_ne68 hM8 hkk (by decide)
  have hM9 := hM8.grown hg9 (Nat.le_trans h.sz hsz8) hown
  have hks : Keeps (fun t => t != 31) w9 (w9.setCell ⟨pf, 2, none⟩ v') := Keeps.set hpf9 rfl v'
  have hgp := grown_set w9 pf 2 v'
  have hpfm := row_ne68 hM9 hpf9 (by decide)
  have hsz9 : B ≤ w9.heap.size := Nat.le_trans (Nat.le_trans h.sz hsz8) hg9.size
  refine ⟨by rw [cell_of_row _ _ _ _ _ _ hpf9]; rfl, frozen_of_row _ _ _ _ _ hpf9, ?_, ?_, ?_, ?_, ?_, ?_⟩
  · exact hM9.grown hgp hsz9 (fun k hk => by simp at hk; subst hk; exact ⟨hBp.1, hpfm⟩)
  · rw [heap_setCell_same w9 pf 2 _ _ v' hpf9]
    rfl
  · have t46 : ∀ {T : TypeId → Bool} {a b : World}, Keeps T a b → T 3 = true → T 53 = true → Keeps T46 a b := fun hk h3 h46 => hk.weak fun t ht => by simp [T46] at ht; rcases ht with rfl | rfl <;> assumption
    have hkk : Keeps T46 W8 (w9.setCell ⟨pf, 2, none⟩ v') := (t46 hk9 rfl rfl).trans (t46 hks rfl rfl)
    obtain ⟨qs, hq1, hq2⟩ := hI
    refine ⟨ps ++ [(⟨is, e⟩, ui, qs)], by simp [hps1], ?_, ?_⟩
    · rw [cellsB'_snoc, List.length_append]
      exact owns_keeps hO9 hks rfl
    · exact Rest.snoc ((hps3.keeps (t46 hk8 rfl rfl)).keeps hkk) hps3 (Nat.le_refl _) ((hq2.keeps hkI).keeps hkk) hq1 h.sz
  · rw [Below.heap_setCell _ _ _ _ (by simpa using fun e1 => hBp.2.2 e1.symm)]
    exact hres9
  · refine h.below.trans ⟨?_, ?_, ?_, ?_, fun k hk => ?_⟩
    · exact (hgp.os.trans hg9.os).trans hg8.os
    · exact (hgp.tape.trans hg9.tape).trans hg8.tape
    · exact (hgp.output.trans hg9.output).trans hg8.output
    · exact Nat.le_trans hg8.size (Nat.le_trans hg9.size hgp.size)
    · rw [Below.heap_setCell _ _ _ _ (by simp; omega), hg9.block k (by have := h.sz; omega) (fun e1 => by have := (hown k e1.symm).1; omega), hg8.block k (by have := h.sz; omega) (fun e1 => by simp at e1; omega)]
  · exact Nat.le_trans hsz9 hgp.size
def MadePost (w : World) (F : Fun) (e : Ending) (w' : World) : Prop := ∃ u, e = .returned (.agg #[.int .i64 F.p, .int .i64 F.v, u]) ∧ BlksO w.heap.size w' u F.bs ∧ Below w.heap.size w w'

theorem made_start {w : World} {a b c p vv : Int} {ao : Option Addr} {cap : Nat} {bs : List Int} (hu : Byt w (.slice ao bs.length cap) bs) :
    MadeInv w.heap.size (w.heap.size + 1 + 1 + 1) (w.heap.size + 1 + 1) (w.heap.size + 1) p vv w [] bs (.slice none 0 0) ((((w.alloc (.cells #[.int .u8 a, .int .u8 b, .int .u8 c, .slice ao bs.length cap] 24)).alloc (.cells #[.int .i64 0, .int .i64 0, .slice none 0 0] 31)).alloc (.cells #[.int .i64 p, .int .i64 vv, .slice none 0 0] 31)).alloc (.cells #[.slice ao bs.length cap] 62)) := by
  have z1 : (w.alloc (.cells #[.int .u8 a, .int .u8 b, .int .u8 c, .slice ao bs.length cap] 24)).heap.size = w.heap.size + 1 := by simp
  generalize hW1 : w.alloc (.cells #[.int .u8 a, .int .u8 b, .int .u8 c, .slice ao bs.length cap] 24) = W1 at *
  have B1 : Below w.heap.size w W1 := by rw [← hW1]; exact (Below.refl _ _).alloc (Nat.le_refl _) _
  have h2 := heap_alloc_new W1 (.cells #[.int .i64 0, .int .i64 0, .slice none 0 0] 31)
  have z2 : (W1.alloc (.cells #[.int .i64 0, .int .i64 0, .slice none 0 0] 31)).heap.size = w.heap.size + 1 + 1 := by simp [z1]
  rw [z1] at h2
  have B2 : Below W1.heap.size W1 (W1.alloc (.cells #[.int .i64 0, .int .i64 0, .slice none 0 0] 31)) := (Below.refl _ _).alloc (Nat.le_refl _) _
  generalize W1.alloc (.cells #[.int .i64 0, .int .i64 0, .slice none 0 0] 31) = W2 at *
  have h3 := heap_alloc_new W2 (.cells #[.int .i64 p, .int .i64 vv, .slice none 0 0] 31)
  have z3 : (W2.alloc (.cells #[.int .i64 p, .int .i64 vv, .slice none 0 0] 31)).heap.size = w.heap.size + 1 + 1 + 1 := by simp [z2]
  rw [z2] at h3
  have B3 : Below W2.heap.size W2 (W2.alloc (.cells #[.int .i64 p, .int .i64 vv, .slice none 0 0] 31)) := (Below.refl _ _).alloc (Nat.le_refl _) _
  generalize W2.alloc (.cells #[.int .i64 p, .int .i64 vv, .slice none 0 0] 31) = W3 at *
  have h4 := heap_alloc_new W3 (.cells #[.slice ao bs.length cap] 62)
  rw [z3] at h4
  have B4 : Below W3.heap.size W3 (W3.alloc (.cells #[.slice ao bs.length cap] 62)) := (Below.refl _ _).alloc (Nat.le_refl _) _
  generalize W3.alloc (.cells #[.slice ao bs.length cap] 62) = W4 at *
  have B14 := bel_of (bel_of (bel_of B1 B2) B3) B4
  refine ⟨⟨by omega, _, h4, (BytB.of hu (Nat.le_refl _)).kept fun b hb => B14.block b hb⟩, ?_, BlksO.nil _ _, ?_, B14, B14.size⟩
  · rw [B4.block _ (by omega)]
    exact h3
  · rw [B4.block _ (by omega), B3.block _ (by omega)]
    exact h2

set_option maxHeartbeats 8000000 in
set_option maxRecDepth 100000 in
theorem made_any (va : Value) (a b c : Int) (bs : List Int) (w : World) (h : SpecV w va a b c bs) : Calls Try.prog 6 #[va] w (MadePost w (made a b c bs)) := by
  obtain ⟨i41, hi41, hz41, hs41, hb41⟩ := info_parts info41
  obtain ⟨u, rfl, ha, hb, hc, hu⟩ := h
  obtain ⟨ao, cap, rfl⟩ := hu.slice
  have ta : a.tmod 5 = a % 5 := Int.tmod_eq_emod_of_nonneg ha.1
  have tb : b.tmod 28 = b % 28 := Int.tmod_eq_emod_of_nonneg hb.1
  have tc : c.tmod 7 = c % 7 := Int.tmod_eq_emod_of_nonneg hc.1
  have hvin := vOf_in a b
  obtain ⟨nN, hnN⟩ : ∃ nN : Nat, (nN : Int) = 1 + c % 7 := ⟨(1 + c % 7).toNat, by omega⟩
  have hF : Hid (made a b c bs = ⟨a % 5, vOf a b, (mkBlks (vOf a b) nN nN bs).1⟩) := by
    show _ = _
    unfold made
    rw [← hnN, Int.toNat_natCast]
  generalize hp : a % 5 = p at *
  generalize hq : b % 28 = q at *
  generalize hr : c % 7 = r at *
  have hp' : 0 ≤ p ∧ p < 5 := by omega
  have hq' : 0 ≤ q ∧ q < 28 := by omega
  have hr' : 0 ≤ r ∧ r < 7 := by omega
  obtain ⟨mx, hmx⟩ : ∃ mx, mx = max p 1 := ⟨_, rfl⟩
  have hmax : ∀ (ts : Array TypeId) (t : TypeId) (W : World), (Builtin.max_ ts t #[.int .i64 p, .int .i64 1]).run Try.prog W = .ok (.int .i64 mx) W := by
    intro ts t W
    rw [run_max_int2, hmx]
    congr 2
    split <;> omega
  have hmx' : 1 ≤ mx ∧ mx < 5 := by omega
  have hsum : mx + q = vOf a b := by
    unfold vOf
    omega
  have hI := made_start (a := a) (b := b) (c := c) (p := p) (vv := mx + q) hu
  rw [← hsum] at hF hvin
  have HI0 := hide hI
  have HNN := hide hnN
  have hvv : 0 < mx + q ∧ mx + q < 100 := by omega
  have hnn : 0 < nN ∧ nN ≤ 7 := by omega
  clear hu hp hq hr hmx hsum hI hnN hvin
  go_enter Try.func6, Try.ntmps6
  go_wp2_with fail
  generalize (((w.alloc (.cells #[.int .u8 a, .int .u8 b, .int .u8 c, .slice ao bs.length cap] 24)).alloc (.cells #[.int .i64 0, .int .i64 0, .slice none 0 0] 31)).alloc (.cells #[.int .i64 p, .int .i64 (mx + q), .slice none 0 0] 31)).alloc (.cells #[.slice ao bs.length cap] 62) = W4 at *
  generalize hvq : mx + q = vv at *
  rw [← HNN.out]
  have hpmf : w.heap.size + 1 + 1 ≠ w.heap.size + 1 + 1 + 1 ∧ w.heap.size ≤ w.heap.size + 1 + 1 ∧ w.heap.size ≤ w.heap.size + 1 ∧ w.heap.size + 1 + 1 ≠ w.heap.size + 1 := by omega
  generalize hpm : w.heap.size + 1 + 1 + 1 = pm at hpmf HI0 ⊢
  generalize hpf : w.heap.size + 1 + 1 = pf at hpmf HI0 ⊢
  generalize hpr : w.heap.size + 1 = pres at hpmf HI0 ⊢
  clear hpm hpf hpr ta tb tc hmax hvq HNN
  have hBp : w.heap.size ≤ pf ∧ w.heap.size ≤ pres ∧ pf ≠ pres := ⟨hpmf.2.1, hpmf.2.2.1, hpmf.2.2.2⟩
  have hpfm : pf ≠ pm := hpmf.1
  clear hpmf
  generalize hBB : w.heap.size = B at HI0 hBp
  have hvv0 := hvv.1
  go_loopw [31] (fun iv wr => ∃ (j : Nat) (ub : Value), j ≤ nN ∧ iv = .int .i64 j ∧ MadeInv B pm pf pres p vv w (mkBlks vv nN j bs).1 (mkBlks vv nN j bs).2 ub wr) (fun iv _ => nN - (intOf iv).toNat)
  case atStart => exact ⟨0, _, by omega, rfl, HI0.out⟩
  case round =>
    rename World => wo
    obtain ⟨j, ub, hj, rfl, hinv⟩ := hrel
    have HINV := hide hinv
    by_cases hlt : j < nN
    · obtain ⟨hsn1, hsn2⟩ := mkBlks_snoc vv nN j bs
      have HSN1 := hide hsn1
      have HSN2 := hide hsn2
      obtain ⟨ps, hps1, hps2, hps3⟩ := hinv.blks
      have hpsl : ps.length ≤ 7 := by have := congrArg List.length hps1; rw [List.length_map, mkBlks_len] at this; omega
      have HPS1 := hide hps1
      have HPS2 := hide hps2
      have HPS3 := hide hps3
      generalize hbj : (mkBlks vv nN j bs).2 = bj at *
      generalize hbb : (mkBlks vv nN j bs).1 = bb at *
      have hBx := (Below.refl wo.heap.size wo).alloc (Nat.le_refl _) (.cells (rowB (.slice none 0 0)) 48)
      have hM1 := hinv.maker.below hBx hinv.sz
      have n9 := hide (next_any B pm bj 9 _ hM1 (by omega))
      have hr1 : (wo.alloc (.cells (rowB (.slice none 0 0)) 48)).heap[wo.heap.size]? = some (Obj.cells (rowB (.slice none 0 0)) 48 (0, 0)) := heap_alloc_new wo _
      have HR1 := hide hr1
      have HG1 := hide (grown_below hBx (some pm))
      have hpmlt := hinv.maker.lt
      have hub : ∃ x1 x2 x3, ub = .slice x1 x2 x3 := by
        rcases hps2.2 with ⟨rfl, _⟩ | ⟨k', cap', cur', rfl, _⟩
        · exact ⟨_, _, _, rfl⟩
        · exact ⟨_, _, _, rfl⟩
      have hszB : B ≤ wo.heap.size := hinv.sz
      have hc9 := nxt_in (bs := bj) (n := 9) (by omega)
      unfold rowB at n9
      have hlt' : (j : Int) < (nN : Int) := by omega
      clear hinv hsn1 hsn2 hps1 hps2 hps3 hbj hbb hBx hM1 hr1 HI0
      go_wp2_with fail
      refine n9.out.mono ?_
      rintro e w2 ⟨rfl, hM, hg, hz⟩
      have HM2 := hide hM
      have HG2 := hide (grown_trans HG1.out hg)
      have HR2 := hide ((hg.block wo.heap.size (by simp) (by simp; omega)).trans HR1.out)
      generalize hcc : (nxt bj 9).1 = cc at hc9 ⊢
      generalize hbb1 : (nxt bj 9).2 = b1 at HM2
      obtain ⟨cn, rfl⟩ : ∃ cn : Nat, cc = (cn : Int) := ⟨cc.toNat, by omega⟩
      have HC := hide hcc
      have HB1 := hide hbb1
      clear n9 HR1 HG1 hM hg hz hcc hbb1
      go_wp2_with fail
      go_loopw [35] (fun iv ws => ∃ (i : Nat) (ui : Value), i ≤ cn ∧ iv = .int .i64 i ∧ MkAt B ws pm (mkInss vv i b1).2 ∧ ws.heap[wo.heap.size]? = some (Obj.cells (rowB ui) 48 (0, 0)) ∧ InssO wo.heap.size ws ui (mkInss vv i b1).1 ∧ wo.grownBy ws (some pm)) (fun iv _ => cn - (intOf iv).toNat)
      case atStart => exact ⟨0, _, by omega, rfl, HM2.out, HR2.out, InssO.nil _ _, HG2.out⟩
      case round =>
        rename World => ws
        obtain ⟨i, ui, hi, rfl, hM, hR, hI, hG⟩ := hrel
        by_cases hlti : i < cn
        · obtain ⟨hin1, hin2⟩ := mkInss_snoc vv i b1
          have HN1 := hide hin1
          have HN2 := hide hin2
          have hxl : (mkInss vv i b1).1.length ≤ 1000000 := by rw [mkInss_len]; omega
          have hown : ∀ k, ui.ownBlock = some k → k < ws.heap.size := fun k e => (hI.ownlt k e).2.1
          obtain ⟨aa, ac, hua0⟩ := hI.v.slice
          have hua : ∃ aa an ac, ui = .slice aa an ac := ⟨_, _, _, hua0⟩
          generalize hxs : (mkInss vv i b1).1 = is at *
          generalize hb0 : (mkInss vv i b1).2 = b0 at *
          generalize hxx : (mkIns vv b0).1 = x at HN1
          generalize hb2 : (mkIns vv b0).2 = b2 at HN2
          have HXX := hide hxx
          have HB1' := hide hb2
          have hpf := HINV.out.fld
          have hBp' : B ≤ wo.heap.size := hszB
          clear hin1 hin2 hua0 hxx hb2 hxs hb0
          have hlti' : (i : Int) < (cn : Int) := by omega
          go_wp2_with fail
          refine wp_region_each (by kernel_rfl) (fun t y W => Gbl ws.heap.size wo.heap.size pm pf vv ui x is t y W) (fun l W => Sbl ws.heap.size B pm x ui is b0 b2 wo l W) (by kernel_rfl) ⟨hM.below (Below.refl _ _).drew (Nat.le_trans hszB hG.size), grown_trans hG (grown_below (Below.refl _ _).drew _), hown, fun _ => hI.m.keeps (Keeps.drew _), fun _ => hR, fun h => by simp at h, Nat.le_trans hszB hG.size, Nat.le_refl _⟩ ?_ ?_
          · refine And.intro ?_ (And.intro ?_ (And.intro ?_ (And.intro ?_ (And.intro ?_ (And.intro ?_ (And.intro ?_ (And.intro ?_ (And.intro ?_ (And.intro ?_ trivial)))))))))
            · refine asked_pure rfl rfl (fun _ _ h => h.skip (by decide) (by decide) (by decide)) (fun _ _ _ => rfl) (fun l a W H => ?_)
              have e6 : a.eval (.tmp 6) = .pointer (some ⟨wo.heap.size, 0, none⟩) := H.base 6 rfl
              (simp only [execOp]; try simp only [Option.map]); (try simp only [List.map_toArray, List.map_cons, List.map_nil]); (simp only [e6]; go_simp)
            · refine asked_any rfl (fun l a W H => ?_)
              have e37 : a.eval (.tmp 37) = .pointer (some ⟨wo.heap.size, 0, none⟩) := H.facts 37 rfl
              have hl9 : l 9 = false := by
                cases h9 : l 9 with
                | false => rfl
                | true =>
                  have h1 := H.closed 7 1 (by rfl) (H.closed 9 7 (by rfl) h9)
                  rw [H.new] at h1
                  cases h1
              have hc : W.cell? ⟨wo.heap.size, 0, none⟩ = some ui := by rw [cell_of_row _ _ _ _ _ _ (H.s.row hl9)]; rfl
              refine ⟨ui, W, ?_, fun d hd => by cases hd; exact rfl, H.s.skip (by decide) (by decide) (by decide), fun _ _ _ h => h⟩
              obtain ⟨aa, an, ac, rfl⟩ := hua
              (simp only [execOp]; try simp only [Option.map]); (try simp only [List.map_toArray, List.map_cons, List.map_nil]); (simp only [e37]; go_simp)
            · refine asked_pure rfl rfl (fun _ _ h => h.skip (by decide) (by decide) (by decide)) (fun _ _ _ => rfl) (fun l a W H => ?_)
              have e4 : a.eval (.tmp 4) = .pointer (some ⟨pm, 0, none⟩) := H.base 4 rfl
              exact run_move rfl e4
            · refine asked_pure rfl rfl (fun _ _ h => h.skip (by decide) (by decide) (by decide)) (fun _ _ _ => rfl) (fun l a W H => ?_)
              have e3 : a.eval (.tmp 3) = .pointer (some ⟨pf, 0, none⟩) := H.base 3 rfl
              (simp only [execOp]; try simp only [Option.map]); (try simp only [List.map_toArray, List.map_cons, List.map_nil]); (simp only [e3]; go_simp)
            · refine asked_pure rfl rfl (fun _ _ h => h.skip (by decide) (by decide) (by decide)) (fun _ _ _ => rfl) (fun l a W H => ?_)
              have e40 : a.eval (.tmp 40) = .pointer (some ⟨pf, 1, none⟩) := H.facts 40 rfl
              have hc : W.cell? ⟨pf, 1, none⟩ = some (.int .i64 vv) := by rw [cell_of_row _ _ _ _ _ _ (H.s.fld hpf hpfm)]; rfl
              (simp only [execOp]; try simp only [Option.map]); (try simp only [List.map_toArray, List.map_cons, List.map_nil]); (simp only [e40]; go_simp)
            · refine asked_call rfl Try.func12 (by kernel_rfl) (by kernel_rfl) rfl rfl (fun l a W H => ?_)
              have e39 : a.eval (.tmp 39) = .pointer (some ⟨pm, 0, none⟩) := H.facts 39 rfl
              have e41 : a.eval (.tmp 41) = .int .i64 vv := H.facts 41 rfl
              have ea : (#[.tmp 39, .tmp 41] : Array Operand).map a.eval = #[.pointer (some ⟨pm, 0, none⟩), .int .i64 vv] := by
                simp only [List.map_toArray, List.map_cons, List.map_nil, e39, e41]
              rw [ea]
              refine (mkIns_any B pm b0 vv W (H.s.maker0 H.new) H.s.szB hvv0).mono ?_
              rintro e w' ⟨u, rfl, hA, hM, hg⟩
              exact ⟨_, rfl, ⟨u, by rw [HXX.out], by rw [HXX.out] at hA; exact owns_mono hA H.s.szp, fun k e => Nat.le_trans H.s.szM (args_lt hA k e).1⟩, H.s.call (by rw [← HB1'.out]; exact hM) hg, fun _ _ _ h => Gbl_keeps h (Keeps.pm H.s.maker hg)⟩
            · refine asked_any rfl (fun l a W H => ?_)
              obtain ⟨u, e42, hA, hfr⟩ : ∃ u, a.eval (.tmp 42) = insV x u ∧ ArgsO wo.heap.size W u x.args ∧ ∀ k, u.ownBlock = some k → ws.heap.size ≤ k := H.facts 42 rfl
              have hB := (Below.refl W.heap.size W).alloc (Nat.le_refl _) (.cells (rowI x u) 53)
              refine ⟨.slice (some ⟨W.heap.size, 0, none⟩) 1 1, W.alloc (.cells (rowI x u) 53), ?_, fun d hd => by cases hd; exact ⟨_, u, rfl, heap_alloc_new W _, hA.keeps (Keeps.below hB), fun e => by have := H.s.own _ e; omega, hfr⟩, H.s.alloc hB, fun _ _ _ h => Gbl_keeps (T := T46) h (Keeps.below hB)⟩
              obtain ⟨ua, uc, rfl⟩ := hA.v.slice
              unfold insV at e42
              unfold rowI
              (simp only [execOp]; try simp only [Option.map]); (try simp only [List.map_toArray, List.map_cons, List.map_nil]); (simp only [e42]; go_simp)
            · refine asked_any rfl (fun l a W H => ?_)
              have e38 : a.eval (.tmp 38) = ui := H.facts 38 rfl
              obtain ⟨h, u, e43, hh, hA, hne, hfr⟩ : ∃ h u, a.eval (.tmp 43) = .slice (some ⟨h, 0, none⟩) 1 1 ∧ W.heap[h]? = some (Obj.cells (rowI x u) 53 (0, 0)) ∧ ArgsO wo.heap.size W u x.args ∧ ui.ownBlock ≠ some h ∧ ∀ k, u.ownBlock = some k → ws.heap.size ≤ k := H.facts 43 rfl
              have hl9 : l 9 = false := by
                cases h9 : l 9 with
                | false => rfl
                | true =>
                  have h1 := H.closed 9 7 (by rfl) h9
                  rw [H.new] at h1
                  cases h1
              have hOm := H.s.inss H.new
              have hO : InssO wo.heap.size W ui is := hOm.o
              refine app7_ok rfl e38 e43 hOm hh hA hfr hxl H.s.szp fun v' w' e2 e3 => ?_
              exact ⟨fun d hd => by cases hd; exact e2, H.s.app hO e3 hBp' hl9, fun _ _ hd h => Gbl_app h hd hO e3⟩
            · refine asked_pure rfl rfl (fun _ _ h => h.skip (by decide) (by decide) (by decide)) (fun _ _ _ => rfl) (fun l a W H => ?_)
              have e6 : a.eval (.tmp 6) = .pointer (some ⟨wo.heap.size, 0, none⟩) := H.base 6 rfl
              (simp only [execOp]; try simp only [Option.map]); (try simp only [List.map_toArray, List.map_cons, List.map_nil]); (simp only [e6]; go_simp)
            · refine asked_skip rfl rfl (fun l a W H => ?_)
              have e45 : a.eval (.tmp 45) = .pointer (some ⟨wo.heap.size, 0, none⟩) := H.facts 45 rfl
              have hO : InssO wo.heap.size W (a.eval (.tmp 44)) (is ++ [x]) := H.facts 44 rfl
              generalize e44 : a.eval (.tmp 44) = y at hO
              obtain ⟨ya, yc, rfl⟩ := hO.v.slice
              have hr := H.s.row H.new
              have hc : W.cell? ⟨wo.heap.size, 0, none⟩ = some ui := by rw [cell_of_row _ _ _ _ _ _ hr]; rfl
              have hf : W.frozen? ⟨wo.heap.size, 0, none⟩ = false := frozen_of_row _ _ _ _ _ hr
              refine ⟨W.setCell ⟨wo.heap.size, 0, none⟩ (.slice ya (is ++ [x]).length yc), ?_, H.s.store hr hO hBp', fun _ _ h => Gbl_keeps (T := T46) h (Keeps.set hr rfl _)⟩
              (simp only [execOp]; try simp only [Option.map]); (try simp only [List.map_toArray, List.map_cons, List.map_nil]); (simp only [e44, e45]; go_simp)
          · intro l s W hall hS _
            obtain ⟨u, q1, q2⟩ := hS.done (hall 9 (by decide))
            have q3 := hS.maker
            rw [hall 5 (by decide), if_pos rfl] at q3
            have q5 := hS.grown
            clear hS hall
            simp [overlay, dstsOf]
            go_wp2
            go_roundw
            case rel => exact ⟨i + 1, u, by omega, by go_num, by rw [HN2.out]; exact q3, q1, by rw [HN1.out]; exact q2, q5⟩
            case measure => simp [intOf]; omega
        · obtain rfl : i = cn := by omega
          generalize hb5 : (mkInss vv i b1).2 = b5 at *
          have HB5 := hide hb5
          have n4 := hide (next_any B pm b5 4 ws hM (by omega))
          have h4 := nxt_in (bs := b5) (n := 4) (by omega)
          have HRs := hide hR
          have HIs := hide hI
          have HGs := hide hG
          have HMs := hide hM
          clear hR hI hG hM hb5 HM2 HG2 HR2
          go_wp2_with fail
          refine n4.out.mono ?_
          rintro e w6 ⟨rfl, hM, hg, hz⟩
          have hkp := Keeps.pm HMs.out hg
          have HG := hide (grown_trans HGs.out hg)
          have HR := hide (hkp _ _ _ _ rfl HRs.out)
          have HI := hide (HIs.out.keeps (hkp.weak fun t ht => by simp [T46] at ht; rcases ht with rfl | rfl <;> decide))
          have HM := hide hM
          clear hM n4 hz hg hkp HRs HIs HGs HMs
          generalize hk4 : (nxt b5 4).1 = k4 at h4 ⊢
          generalize hb6 : (nxt b5 4).2 = b6 at HM
          have HK4' := hide hk4
          have HB6 := hide hb6
          clear hk4 hb6
          have hnn0 : (0 : Int) < (nN : Int) := by omega
          by_cases h0 : k4 = 0
          · subst h0
            have HK4 := HK4'
            clear HK4'
            have n0 := hide (next_any B pm b6 vv w6 HM.out (by omega))
            have hpc : w6.cell? ⟨pf, 1, none⟩ = some (.int .i64 vv) := by rw [cell_of_row _ _ _ _ _ _ ((HG.out.block pf (Array.getElem?_eq_some_iff.1 HINV.out.fld).1 (by simpa using hpfm)).trans HINV.out.fld)]; rfl
            go_wp2_with fail
            refine n0.out.mono ?_
            rintro e w7 ⟨rfl, hM, hg, hz⟩
            have hkp := Keeps.pm HM.out hg
            have HG := hide (grown_trans HG.out hg)
            have HR := hide (hkp _ _ _ _ rfl HR.out)
            have HI := hide (HI.out.keeps (hkp.weak fun t ht => by simp [T46] at ht; rcases ht with rfl | rfl <;> decide))
            have HM := hide hM
            clear hpc
            clear hM n0 hz hg hkp
            generalize hx0 : (nxt b6 vv).1 = y0 at ⊢
            generalize hy0 : (nxt b6 vv).2 = b7 at HM
            have HX0 := hide hx0
            have HY0 := hide hy0
            clear hx0 hy0
            have hend : Hid (mkEnd vv nN b5 = (⟨3, y0, 0, 0⟩, b7)) := by
              show _ = _
              unfold mkEnd
              rw [HK4.out, HB6.out]
              simp [endOf, HX0.out, HY0.out]
            obtain ⟨r0, r1, r2, r3, r4, ⟨f1, f2, f3, f4⟩, q1, q2, q3, q4⟩ := sets4_facts ⟨3, y0, 0, 0⟩ HR.out
            obtain ⟨hO8, hB8, hafter⟩ := made_tail (is := (mkInss vv i b1).1) ⟨3, y0, 0, 0⟩ HINV.out HPS1.out HPS2.out HPS3.out hBp HG.out HM.out HR.out HI.out (.cells #[ui, .int .u8 3, .int .i64 y0, .int .i64 0, .int .i64 0] 48)
            unfold sets4 at hO8 hB8 hafter
            simp only at q1 q2 q3 q4 hO8 hB8 hafter
            have HAFTER := hide hafter
            have hpc2 : w7.cell? ⟨pf, 2, none⟩ = some ub := by rw [cell_of_row _ _ _ _ _ _ ((HG.out.block pf (Array.getElem?_eq_some_iff.1 HINV.out.fld).1 (by simpa using hpfm)).trans HINV.out.fld)]; rfl
            have hpb1 : pf ≠ wo.heap.size := by have := (Array.getElem?_eq_some_iff.1 HINV.out.fld).1; omega
            have hpb2 : wo.heap.size ≠ pf := fun h => hpb1 h.symm
            have hpc3 : (sets4 w7 wo.heap.size ⟨3, y0, 0, 0⟩).cell? ⟨pf, 2, none⟩ = some ub := (grown_sets4 w7 wo.heap.size ⟨3, y0, 0, 0⟩).cell hpc2 (by simpa using hpb1)
            unfold sets4 at hpc3
            simp only at hpc3
            obtain ⟨aui, cui, rfl⟩ := HI.out.v.slice
            obtain ⟨x1, x2, x3, rfl⟩ := hub
            have hblk : Hid ((mkBlk vv nN bj).1 = ⟨(mkInss vv i b1).1, ⟨3, y0, 0, 0⟩⟩ ∧ (mkBlk vv nN bj).2 = b7) := by
              show _ ∧ _
              unfold mkBlk
              rw [HC.out, HB1.out, Int.toNat_natCast, HB5.out, hend.out]
              exact ⟨rfl, rfl⟩
            have h63 : ps.length + 1 ≤ maxLen := by unfold maxLen; omega
            have hby8 : (ps.length + 1) * 56 ≤ 140737488355328 := by omega
            have hcn : ∀ k u, [Value.slice aui (mkInss vv i b1).1.length cui, .int .u8 3, .int .i64 y0, .int .i64 0, .int .i64 0][k]? = some u → (((((w7.setCell ⟨wo.heap.size, 1, none⟩ (.int .u8 3)).setCell ⟨wo.heap.size, 2, none⟩ (.int .i64 y0)).setCell ⟨wo.heap.size, 3, none⟩ (.int .i64 0)).setCell ⟨wo.heap.size, 4, none⟩ (.int .i64 0)).alloc (.cells #[.slice aui (mkInss vv i b1).1.length cui, .int .u8 3, .int .i64 y0, .int .i64 0, .int .i64 0] 48)).cell? ((⟨w7.heap.size, 0, none⟩ : Addr).add k) = some u := by
              intro k u hk
              have hz4 : ((((w7.setCell ⟨wo.heap.size, 1, none⟩ (.int .u8 3)).setCell ⟨wo.heap.size, 2, none⟩ (.int .i64 y0)).setCell ⟨wo.heap.size, 3, none⟩ (.int .i64 0)).setCell ⟨wo.heap.size, 4, none⟩ (.int .i64 0)).heap.size = w7.heap.size := by simp
              rw [Addr.add_lit, Nat.zero_add, ← hz4, World.cell?_alloc_new]
              simpa using hk
            have h1n : ∀ u ∈ [Value.slice aui (mkInss vv i b1).1.length cui, .int .u8 3, .int .i64 y0, .int .i64 0, .int .i64 0], u.oneCell' = true := by
              intro u hu
              simp only [List.mem_cons, List.not_mem_nil, or_false] at hu
              rcases hu with rfl | rfl | rfl | rfl | rfl <;> rfl
            clear hafter HG HR HM HI hend HX0 HY0 HK4 HB6 HC HB1 HB5
            go_wp2_with (at_builtin; go_must (refine wpList_append_own _ rfl (.tmp 78) (.tmp 80) 29 rfl B 48 i41 (.agg #[.slice none 0 0, .int .u8 0, .int .i64 0, .int .i64 0, .int .i64 0]) 5 56 Try.underlying29 hi41 hz41 hs41 hb41 rfl (by decide) _ _ _ rfl hO8 ⟨w7.heap.size, 0, none⟩ 1 1 _ rfl rfl hcn h1n h63 hby8 hB8 ?_))
            intro v' w9 hO9 hg9 _
            obtain ⟨z1, z2, z3⟩ := HAFTER.out v' w9 hO9 hg9
            have hv' : ∃ va vn vc, v' = .slice va vn vc := by
              rcases hO9.2 with ⟨rfl, _⟩ | ⟨k', cap', cur', rfl, _⟩
              · exact ⟨_, _, _, rfl⟩
              · exact ⟨_, _, _, rfl⟩
            obtain ⟨va, vn, vc, rfl⟩ := hv'
            have Z3 := hide z3
            clear HAFTER hO9 hg9 hO8 hB8 hcn h1n q1 q2 q3 q4 r0 r1 r2 r3 r4 f1 f2 f3 f4 z3 hpc2 hpc3
            go_wp2_with fail
            go_roundw
            case rel => exact ⟨j + 1, _, by omega, by go_num, by rw [HSN1.out, HSN2.out, hblk.out.1, hblk.out.2]; exact Z3.out⟩
            case measure => simp [intOf]; omega
          by_cases h1 : k4 = 1
          · subst h1
            have HK4 := HK4'
            clear HK4'
            have n0 := hide (next_any B pm b6 (nN : Int) w6 HM.out (by omega))
            go_wp2_with fail
            refine n0.out.mono ?_
            rintro e w7 ⟨rfl, hM, hg, hz⟩
            have hkp := Keeps.pm HM.out hg
            have HG := hide (grown_trans HG.out hg)
            have HR := hide (hkp _ _ _ _ rfl HR.out)
            have HI := hide (HI.out.keeps (hkp.weak fun t ht => by simp [T46] at ht; rcases ht with rfl | rfl <;> decide))
            have HM := hide hM
            skip
            clear hM n0 hz hg hkp
            generalize hx0 : (nxt b6 (nN : Int)).1 = y0 at ⊢
            generalize hy0 : (nxt b6 (nN : Int)).2 = b7 at HM
            have HX0 := hide hx0
            have HY0 := hide hy0
            clear hx0 hy0
            have hend : Hid (mkEnd vv nN b5 = (⟨1, 0, y0, 0⟩, b7)) := by
              show _ = _
              unfold mkEnd
              rw [HK4.out, HB6.out]
              simp [endOf, HX0.out, HY0.out]
            obtain ⟨r0, r1, r2, r3, r4, ⟨f1, f2, f3, f4⟩, q1, q2, q3, q4⟩ := sets4_facts ⟨1, 0, y0, 0⟩ HR.out
            obtain ⟨hO8, hB8, hafter⟩ := made_tail (is := (mkInss vv i b1).1) ⟨1, 0, y0, 0⟩ HINV.out HPS1.out HPS2.out HPS3.out hBp HG.out HM.out HR.out HI.out (.cells #[ui, .int .u8 1, .int .i64 0, .int .i64 y0, .int .i64 0] 48)
            unfold sets4 at hO8 hB8 hafter
            simp only at q1 q2 q3 q4 hO8 hB8 hafter
            have HAFTER := hide hafter
            have hpc2 : w7.cell? ⟨pf, 2, none⟩ = some ub := by rw [cell_of_row _ _ _ _ _ _ ((HG.out.block pf (Array.getElem?_eq_some_iff.1 HINV.out.fld).1 (by simpa using hpfm)).trans HINV.out.fld)]; rfl
            have hpb1 : pf ≠ wo.heap.size := by have := (Array.getElem?_eq_some_iff.1 HINV.out.fld).1; omega
            have hpb2 : wo.heap.size ≠ pf := fun h => hpb1 h.symm
            have hpc3 : (sets4 w7 wo.heap.size ⟨1, 0, y0, 0⟩).cell? ⟨pf, 2, none⟩ = some ub := (grown_sets4 w7 wo.heap.size ⟨1, 0, y0, 0⟩).cell hpc2 (by simpa using hpb1)
            unfold sets4 at hpc3
            simp only at hpc3
            obtain ⟨aui, cui, rfl⟩ := HI.out.v.slice
            obtain ⟨x1, x2, x3, rfl⟩ := hub
            have hblk : Hid ((mkBlk vv nN bj).1 = ⟨(mkInss vv i b1).1, ⟨1, 0, y0, 0⟩⟩ ∧ (mkBlk vv nN bj).2 = b7) := by
              show _ ∧ _
              unfold mkBlk
              rw [HC.out, HB1.out, Int.toNat_natCast, HB5.out, hend.out]
              exact ⟨rfl, rfl⟩
            have h63 : ps.length + 1 ≤ maxLen := by unfold maxLen; omega
            have hby8 : (ps.length + 1) * 56 ≤ 140737488355328 := by omega
            have hcn : ∀ k u, [Value.slice aui (mkInss vv i b1).1.length cui, .int .u8 1, .int .i64 0, .int .i64 y0, .int .i64 0][k]? = some u → (((((w7.setCell ⟨wo.heap.size, 1, none⟩ (.int .u8 1)).setCell ⟨wo.heap.size, 2, none⟩ (.int .i64 0)).setCell ⟨wo.heap.size, 3, none⟩ (.int .i64 y0)).setCell ⟨wo.heap.size, 4, none⟩ (.int .i64 0)).alloc (.cells #[.slice aui (mkInss vv i b1).1.length cui, .int .u8 1, .int .i64 0, .int .i64 y0, .int .i64 0] 48)).cell? ((⟨w7.heap.size, 0, none⟩ : Addr).add k) = some u := by
              intro k u hk
              have hz4 : ((((w7.setCell ⟨wo.heap.size, 1, none⟩ (.int .u8 1)).setCell ⟨wo.heap.size, 2, none⟩ (.int .i64 0)).setCell ⟨wo.heap.size, 3, none⟩ (.int .i64 y0)).setCell ⟨wo.heap.size, 4, none⟩ (.int .i64 0)).heap.size = w7.heap.size := by simp
              rw [Addr.add_lit, Nat.zero_add, ← hz4, World.cell?_alloc_new]
              simpa using hk
            have h1n : ∀ u ∈ [Value.slice aui (mkInss vv i b1).1.length cui, .int .u8 1, .int .i64 0, .int .i64 y0, .int .i64 0], u.oneCell' = true := by
              intro u hu
              simp only [List.mem_cons, List.not_mem_nil, or_false] at hu
              rcases hu with rfl | rfl | rfl | rfl | rfl <;> rfl
            clear hafter HG HR HM HI hend HX0 HY0 HK4 HB6 HC HB1 HB5
            go_wp2_with (at_builtin; go_must (refine wpList_append_own _ rfl (.tmp 78) (.tmp 80) 29 rfl B 48 i41 (.agg #[.slice none 0 0, .int .u8 0, .int .i64 0, .int .i64 0, .int .i64 0]) 5 56 Try.underlying29 hi41 hz41 hs41 hb41 rfl (by decide) _ _ _ rfl hO8 ⟨w7.heap.size, 0, none⟩ 1 1 _ rfl rfl hcn h1n h63 hby8 hB8 ?_))
            intro v' w9 hO9 hg9 _
            obtain ⟨z1, z2, z3⟩ := HAFTER.out v' w9 hO9 hg9
            have hv' : ∃ va vn vc, v' = .slice va vn vc := by
              rcases hO9.2 with ⟨rfl, _⟩ | ⟨k', cap', cur', rfl, _⟩
              · exact ⟨_, _, _, rfl⟩
              · exact ⟨_, _, _, rfl⟩
            obtain ⟨va, vn, vc, rfl⟩ := hv'
            have Z3 := hide z3
            clear HAFTER hO9 hg9 hO8 hB8 hcn h1n q1 q2 q3 q4 r0 r1 r2 r3 r4 f1 f2 f3 f4 z3 hpc2 hpc3
            go_wp2_with fail
            go_roundw
            case rel => exact ⟨j + 1, _, by omega, by go_num, by rw [HSN1.out, HSN2.out, hblk.out.1, hblk.out.2]; exact Z3.out⟩
            case measure => simp [intOf]; omega
          by_cases h2 : k4 = 2
          · subst h2
            have HK4 := HK4'
            clear HK4'
            have n0 := hide (next_any B pm b6 vv w6 HM.out (by omega))
            have hpc : w6.cell? ⟨pf, 1, none⟩ = some (.int .i64 vv) := by rw [cell_of_row _ _ _ _ _ _ ((HG.out.block pf (Array.getElem?_eq_some_iff.1 HINV.out.fld).1 (by simpa using hpfm)).trans HINV.out.fld)]; rfl
            go_wp2_with fail
            refine n0.out.mono ?_
            rintro e w7 ⟨rfl, hM, hg, hz⟩
            have hkp := Keeps.pm HM.out hg
            have HG := hide (grown_trans HG.out hg)
            have HR := hide (hkp _ _ _ _ rfl HR.out)
            have HI := hide (HI.out.keeps (hkp.weak fun t ht => by simp [T46] at ht; rcases ht with rfl | rfl <;> decide))
            have HM := hide hM
            clear hpc
            clear hM n0 hz hg hkp
            generalize hx0 : (nxt b6 vv).1 = y0 at ⊢
            generalize hy0 : (nxt b6 vv).2 = b7 at HM
            have HX0 := hide hx0
            have HY0 := hide hy0
            clear hx0 hy0
            have n1 := hide (next_any B pm b7 (nN : Int) w7 HM.out (by omega))
            go_wp2_with fail
            refine n1.out.mono ?_
            rintro e w8 ⟨rfl, hM, hg, hz⟩
            have hkp := Keeps.pm HM.out hg
            have HG := hide (grown_trans HG.out hg)
            have HR := hide (hkp _ _ _ _ rfl HR.out)
            have HI := hide (HI.out.keeps (hkp.weak fun t ht => by simp [T46] at ht; rcases ht with rfl | rfl <;> decide))
            have HM := hide hM
            skip
            clear hM n1 hz hg hkp
            generalize hx1 : (nxt b7 (nN : Int)).1 = y1 at ⊢
            generalize hy1 : (nxt b7 (nN : Int)).2 = b8 at HM
            have HX1 := hide hx1
            have HY1 := hide hy1
            clear hx1 hy1
            have n2 := hide (next_any B pm b8 (nN : Int) w8 HM.out (by omega))
            go_wp2_with fail
            refine n2.out.mono ?_
            rintro e w9 ⟨rfl, hM, hg, hz⟩
            have hkp := Keeps.pm HM.out hg
            have HG := hide (grown_trans HG.out hg)
            have HR := hide (hkp _ _ _ _ rfl HR.out)
            have HI := hide (HI.out.keeps (hkp.weak fun t ht => by simp [T46] at ht; rcases ht with rfl | rfl <;> decide))
            have HM := hide hM
            skip
            clear hM n2 hz hg hkp
            generalize hx2 : (nxt b8 (nN : Int)).1 = y2 at ⊢
            generalize hy2 : (nxt b8 (nN : Int)).2 = b9 at HM
            have HX2 := hide hx2
            have HY2 := hide hy2
            clear hx2 hy2
            have hend : Hid (mkEnd vv nN b5 = (⟨2, y0, y1, y2⟩, b9)) := by
              show _ = _
              unfold mkEnd
              rw [HK4.out, HB6.out]
              simp [endOf, HX0.out, HY0.out, HX1.out, HY1.out, HX2.out, HY2.out]
            obtain ⟨r0, r1, r2, r3, r4, ⟨f1, f2, f3, f4⟩, q1, q2, q3, q4⟩ := sets4_facts ⟨2, y0, y1, y2⟩ HR.out
            obtain ⟨hO8, hB8, hafter⟩ := made_tail (is := (mkInss vv i b1).1) ⟨2, y0, y1, y2⟩ HINV.out HPS1.out HPS2.out HPS3.out hBp HG.out HM.out HR.out HI.out (.cells #[ui, .int .u8 2, .int .i64 y0, .int .i64 y1, .int .i64 y2] 48)
            unfold sets4 at hO8 hB8 hafter
            simp only at q1 q2 q3 q4 hO8 hB8 hafter
            have HAFTER := hide hafter
            have hpc2 : w9.cell? ⟨pf, 2, none⟩ = some ub := by rw [cell_of_row _ _ _ _ _ _ ((HG.out.block pf (Array.getElem?_eq_some_iff.1 HINV.out.fld).1 (by simpa using hpfm)).trans HINV.out.fld)]; rfl
            have hpb1 : pf ≠ wo.heap.size := by have := (Array.getElem?_eq_some_iff.1 HINV.out.fld).1; omega
            have hpb2 : wo.heap.size ≠ pf := fun h => hpb1 h.symm
            have hpc3 : (sets4 w9 wo.heap.size ⟨2, y0, y1, y2⟩).cell? ⟨pf, 2, none⟩ = some ub := (grown_sets4 w9 wo.heap.size ⟨2, y0, y1, y2⟩).cell hpc2 (by simpa using hpb1)
            unfold sets4 at hpc3
            simp only at hpc3
            obtain ⟨aui, cui, rfl⟩ := HI.out.v.slice
            obtain ⟨x1, x2, x3, rfl⟩ := hub
            have hblk : Hid ((mkBlk vv nN bj).1 = ⟨(mkInss vv i b1).1, ⟨2, y0, y1, y2⟩⟩ ∧ (mkBlk vv nN bj).2 = b9) := by
              show _ ∧ _
              unfold mkBlk
              rw [HC.out, HB1.out, Int.toNat_natCast, HB5.out, hend.out]
              exact ⟨rfl, rfl⟩
            have h63 : ps.length + 1 ≤ maxLen := by unfold maxLen; omega
            have hby8 : (ps.length + 1) * 56 ≤ 140737488355328 := by omega
            have hcn : ∀ k u, [Value.slice aui (mkInss vv i b1).1.length cui, .int .u8 2, .int .i64 y0, .int .i64 y1, .int .i64 y2][k]? = some u → (((((w9.setCell ⟨wo.heap.size, 1, none⟩ (.int .u8 2)).setCell ⟨wo.heap.size, 2, none⟩ (.int .i64 y0)).setCell ⟨wo.heap.size, 3, none⟩ (.int .i64 y1)).setCell ⟨wo.heap.size, 4, none⟩ (.int .i64 y2)).alloc (.cells #[.slice aui (mkInss vv i b1).1.length cui, .int .u8 2, .int .i64 y0, .int .i64 y1, .int .i64 y2] 48)).cell? ((⟨w9.heap.size, 0, none⟩ : Addr).add k) = some u := by
              intro k u hk
              have hz4 : ((((w9.setCell ⟨wo.heap.size, 1, none⟩ (.int .u8 2)).setCell ⟨wo.heap.size, 2, none⟩ (.int .i64 y0)).setCell ⟨wo.heap.size, 3, none⟩ (.int .i64 y1)).setCell ⟨wo.heap.size, 4, none⟩ (.int .i64 y2)).heap.size = w9.heap.size := by simp
              rw [Addr.add_lit, Nat.zero_add, ← hz4, World.cell?_alloc_new]
              simpa using hk
            have h1n : ∀ u ∈ [Value.slice aui (mkInss vv i b1).1.length cui, .int .u8 2, .int .i64 y0, .int .i64 y1, .int .i64 y2], u.oneCell' = true := by
              intro u hu
              simp only [List.mem_cons, List.not_mem_nil, or_false] at hu
              rcases hu with rfl | rfl | rfl | rfl | rfl <;> rfl
            clear hafter HG HR HM HI hend HX0 HY0 HK4 HB6 HC HB1 HB5
            go_wp2_with (at_builtin; go_must (refine wpList_append_own _ rfl (.tmp 78) (.tmp 80) 29 rfl B 48 i41 (.agg #[.slice none 0 0, .int .u8 0, .int .i64 0, .int .i64 0, .int .i64 0]) 5 56 Try.underlying29 hi41 hz41 hs41 hb41 rfl (by decide) _ _ _ rfl hO8 ⟨w9.heap.size, 0, none⟩ 1 1 _ rfl rfl hcn h1n h63 hby8 hB8 ?_))
            intro v' w9 hO9 hg9 _
            obtain ⟨z1, z2, z3⟩ := HAFTER.out v' w9 hO9 hg9
            have hv' : ∃ va vn vc, v' = .slice va vn vc := by
              rcases hO9.2 with ⟨rfl, _⟩ | ⟨k', cap', cur', rfl, _⟩
              · exact ⟨_, _, _, rfl⟩
              · exact ⟨_, _, _, rfl⟩
            obtain ⟨va, vn, vc, rfl⟩ := hv'
            have Z3 := hide z3
            clear HAFTER hO9 hg9 hO8 hB8 hcn h1n q1 q2 q3 q4 r0 r1 r2 r3 r4 f1 f2 f3 f4 z3 hpc2 hpc3
            go_wp2_with fail
            go_roundw
            case rel => exact ⟨j + 1, _, by omega, by go_num, by rw [HSN1.out, HSN2.out, hblk.out.1, hblk.out.2]; exact Z3.out⟩
            case measure => simp [intOf]; omega
          by_cases h3 : k4 = 3
          · subst h3
            have HK4 := HK4'
            clear HK4'
            have n0 := hide (next_any B pm b6 vv w6 HM.out (by omega))
            have hpc : w6.cell? ⟨pf, 1, none⟩ = some (.int .i64 vv) := by rw [cell_of_row _ _ _ _ _ _ ((HG.out.block pf (Array.getElem?_eq_some_iff.1 HINV.out.fld).1 (by simpa using hpfm)).trans HINV.out.fld)]; rfl
            go_wp2_with fail
            refine n0.out.mono ?_
            rintro e w7 ⟨rfl, hM, hg, hz⟩
            have hkp := Keeps.pm HM.out hg
            have HG := hide (grown_trans HG.out hg)
            have HR := hide (hkp _ _ _ _ rfl HR.out)
            have HI := hide (HI.out.keeps (hkp.weak fun t ht => by simp [T46] at ht; rcases ht with rfl | rfl <;> decide))
            have HM := hide hM
            clear hpc
            clear hM n0 hz hg hkp
            generalize hx0 : (nxt b6 vv).1 = y0 at ⊢
            generalize hy0 : (nxt b6 vv).2 = b7 at HM
            have HX0 := hide hx0
            have HY0 := hide hy0
            clear hx0 hy0
            have n1 := hide (next_any B pm b7 (nN : Int) w7 HM.out (by omega))
            go_wp2_with fail
            refine n1.out.mono ?_
            rintro e w8 ⟨rfl, hM, hg, hz⟩
            have hkp := Keeps.pm HM.out hg
            have HG := hide (grown_trans HG.out hg)
            have HR := hide (hkp _ _ _ _ rfl HR.out)
            have HI := hide (HI.out.keeps (hkp.weak fun t ht => by simp [T46] at ht; rcases ht with rfl | rfl <;> decide))
            have HM := hide hM
            skip
            clear hM n1 hz hg hkp
            generalize hx1 : (nxt b7 (nN : Int)).1 = y1 at ⊢
            generalize hy1 : (nxt b7 (nN : Int)).2 = b8 at HM
            have HX1 := hide hx1
            have HY1 := hide hy1
            clear hx1 hy1
            have n2 := hide (next_any B pm b8 (nN : Int) w8 HM.out (by omega))
            go_wp2_with fail
            refine n2.out.mono ?_
            rintro e w9 ⟨rfl, hM, hg, hz⟩
            have hkp := Keeps.pm HM.out hg
            have HG := hide (grown_trans HG.out hg)
            have HR := hide (hkp _ _ _ _ rfl HR.out)
            have HI := hide (HI.out.keeps (hkp.weak fun t ht => by simp [T46] at ht; rcases ht with rfl | rfl <;> decide))
            have HM := hide hM
            skip
            clear hM n2 hz hg hkp
            generalize hx2 : (nxt b8 (nN : Int)).1 = y2 at ⊢
            generalize hy2 : (nxt b8 (nN : Int)).2 = b9 at HM
            have HX2 := hide hx2
            have HY2 := hide hy2
            clear hx2 hy2
            have hend : Hid (mkEnd vv nN b5 = (⟨2, y0, y1, y2⟩, b9)) := by
              show _ = _
              unfold mkEnd
              rw [HK4.out, HB6.out]
              simp [endOf, HX0.out, HY0.out, HX1.out, HY1.out, HX2.out, HY2.out]
            obtain ⟨r0, r1, r2, r3, r4, ⟨f1, f2, f3, f4⟩, q1, q2, q3, q4⟩ := sets4_facts ⟨2, y0, y1, y2⟩ HR.out
            obtain ⟨hO8, hB8, hafter⟩ := made_tail (is := (mkInss vv i b1).1) ⟨2, y0, y1, y2⟩ HINV.out HPS1.out HPS2.out HPS3.out hBp HG.out HM.out HR.out HI.out (.cells #[ui, .int .u8 2, .int .i64 y0, .int .i64 y1, .int .i64 y2] 48)
            unfold sets4 at hO8 hB8 hafter
            simp only at q1 q2 q3 q4 hO8 hB8 hafter
            have HAFTER := hide hafter
            have hpc2 : w9.cell? ⟨pf, 2, none⟩ = some ub := by rw [cell_of_row _ _ _ _ _ _ ((HG.out.block pf (Array.getElem?_eq_some_iff.1 HINV.out.fld).1 (by simpa using hpfm)).trans HINV.out.fld)]; rfl
            have hpb1 : pf ≠ wo.heap.size := by have := (Array.getElem?_eq_some_iff.1 HINV.out.fld).1; omega
            have hpb2 : wo.heap.size ≠ pf := fun h => hpb1 h.symm
            have hpc3 : (sets4 w9 wo.heap.size ⟨2, y0, y1, y2⟩).cell? ⟨pf, 2, none⟩ = some ub := (grown_sets4 w9 wo.heap.size ⟨2, y0, y1, y2⟩).cell hpc2 (by simpa using hpb1)
            unfold sets4 at hpc3
            simp only at hpc3
            obtain ⟨aui, cui, rfl⟩ := HI.out.v.slice
            obtain ⟨x1, x2, x3, rfl⟩ := hub
            have hblk : Hid ((mkBlk vv nN bj).1 = ⟨(mkInss vv i b1).1, ⟨2, y0, y1, y2⟩⟩ ∧ (mkBlk vv nN bj).2 = b9) := by
              show _ ∧ _
              unfold mkBlk
              rw [HC.out, HB1.out, Int.toNat_natCast, HB5.out, hend.out]
              exact ⟨rfl, rfl⟩
            have h63 : ps.length + 1 ≤ maxLen := by unfold maxLen; omega
            have hby8 : (ps.length + 1) * 56 ≤ 140737488355328 := by omega
            have hcn : ∀ k u, [Value.slice aui (mkInss vv i b1).1.length cui, .int .u8 2, .int .i64 y0, .int .i64 y1, .int .i64 y2][k]? = some u → (((((w9.setCell ⟨wo.heap.size, 1, none⟩ (.int .u8 2)).setCell ⟨wo.heap.size, 2, none⟩ (.int .i64 y0)).setCell ⟨wo.heap.size, 3, none⟩ (.int .i64 y1)).setCell ⟨wo.heap.size, 4, none⟩ (.int .i64 y2)).alloc (.cells #[.slice aui (mkInss vv i b1).1.length cui, .int .u8 2, .int .i64 y0, .int .i64 y1, .int .i64 y2] 48)).cell? ((⟨w9.heap.size, 0, none⟩ : Addr).add k) = some u := by
              intro k u hk
              have hz4 : ((((w9.setCell ⟨wo.heap.size, 1, none⟩ (.int .u8 2)).setCell ⟨wo.heap.size, 2, none⟩ (.int .i64 y0)).setCell ⟨wo.heap.size, 3, none⟩ (.int .i64 y1)).setCell ⟨wo.heap.size, 4, none⟩ (.int .i64 y2)).heap.size = w9.heap.size := by simp
              rw [Addr.add_lit, Nat.zero_add, ← hz4, World.cell?_alloc_new]
              simpa using hk
            have h1n : ∀ u ∈ [Value.slice aui (mkInss vv i b1).1.length cui, .int .u8 2, .int .i64 y0, .int .i64 y1, .int .i64 y2], u.oneCell' = true := by
              intro u hu
              simp only [List.mem_cons, List.not_mem_nil, or_false] at hu
              rcases hu with rfl | rfl | rfl | rfl | rfl <;> rfl
            clear hafter HG HR HM HI hend HX0 HY0 HK4 HB6 HC HB1 HB5
            go_wp2_with (at_builtin; go_must (refine wpList_append_own _ rfl (.tmp 78) (.tmp 80) 29 rfl B 48 i41 (.agg #[.slice none 0 0, .int .u8 0, .int .i64 0, .int .i64 0, .int .i64 0]) 5 56 Try.underlying29 hi41 hz41 hs41 hb41 rfl (by decide) _ _ _ rfl hO8 ⟨w9.heap.size, 0, none⟩ 1 1 _ rfl rfl hcn h1n h63 hby8 hB8 ?_))
            intro v' w9 hO9 hg9 _
            obtain ⟨z1, z2, z3⟩ := HAFTER.out v' w9 hO9 hg9
            have hv' : ∃ va vn vc, v' = .slice va vn vc := by
              rcases hO9.2 with ⟨rfl, _⟩ | ⟨k', cap', cur', rfl, _⟩
              · exact ⟨_, _, _, rfl⟩
              · exact ⟨_, _, _, rfl⟩
            obtain ⟨va, vn, vc, rfl⟩ := hv'
            have Z3 := hide z3
            clear HAFTER hO9 hg9 hO8 hB8 hcn h1n q1 q2 q3 q4 r0 r1 r2 r3 r4 f1 f2 f3 f4 z3 hpc2 hpc3
            go_wp2_with fail
            go_roundw
            case rel => exact ⟨j + 1, _, by omega, by go_num, by rw [HSN1.out, HSN2.out, hblk.out.1, hblk.out.2]; exact Z3.out⟩
            case measure => simp [intOf]; omega
          exact absurd h4 (by omega)
    · obtain rfl : j = nN := by omega
      obtain ⟨c0, c1, c2⟩ := rowF_cells hinv.fld
      obtain ⟨z0, z1, z2, g0, g1, g2⟩ := zero24_cells hinv.res
      obtain ⟨x1, x2, x3, rfl⟩ : ∃ x1 x2 x3, ub = .slice x1 x2 x3 := by
        obtain ⟨ps, _, hps2, _⟩ := hinv.blks
        rcases hps2.2 with ⟨rfl, _⟩ | ⟨k', cap', cur', rfl, _⟩
        · exact ⟨_, _, _, rfl⟩
        · exact ⟨_, _, _, rfl⟩
      obtain ⟨q0, q1, q2⟩ := set3 (.int .i64 p) (.int .i64 vv) (.slice x1 x2 x3) z0 z1 z2
      have hks : Keeps T41 wo (((wo.setCell ⟨pres, 0, none⟩ (.int .i64 p)).setCell ⟨pres, 1, none⟩ (.int .i64 vv)).setCell ⟨pres, 2, none⟩ (.slice x1 x2 x3)) := by
        have k1 : Keeps T41 wo (wo.setCell ⟨pres, 0, none⟩ (.int .i64 p)) := Keeps.set hinv.res rfl _
        have r1 := heap_setCell_same wo pres 0 _ _ (.int .i64 p) hinv.res
        have k2 := Keeps.set (T := T41) (off := 1) r1 rfl (.int .i64 vv)
        have r2 := heap_setCell_same _ pres 1 _ _ (.int .i64 vv) r1
        exact (k1.trans k2).trans (Keeps.set r2 rfl _)
      have HBK := hide (hinv.blks.keeps hks)
      have HBL := hide (bel_set3 hinv.below (g := pres) hBp.2.1 (.int .i64 p) (.int .i64 vv) (.slice x1 x2 x3))
      clear hinv HI0 hks
      go_wp2_with fail
      refine bodyPost_ret (v := .agg #[.int .i64 p, .int .i64 vv, .slice x1 x2 x3]) (by simp [results, Try.results6, go_sem, q0, q1, q2]) rfl ?_
      unfold MadePost
      rw [hBB]
      exact ⟨_, by rw [hF.out], by rw [hF.out]; exact HBK.out, HBL.out⟩
end Go.Proofs.Ytljnngblhfhhaab.Ap
