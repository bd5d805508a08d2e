/- Numbers of blocks that the call has laid, brought below a limit one by one: what stays of the blocks, and that they are right in the end. -/
import Derived.Test.YtbgedbahabbanaaMch
import Derived.Test.YtbgedbahabbanaaSoft
namespace Go.Proofs.Ytbgedbahabbanaa
open Go.RowKit Ir

/-- Which cells are numbers of registers. -/
def may (t : TypeId) (j : Nat) : Bool := t == 3 || (t == 46 && (j % 7 == 2 || j % 7 == 3 || j % 7 == 4)) || (t == 41 && j % 5 == 2)
/-- y may stand in x's place. -/
def Rm (r x y : Int) : Prop := (x = 0 → y = 0) ∧ (0 ≤ x → 0 ≤ y) ∧ (0 ≤ x → x < r → y < r)
theorem Rm.refl (r x : Int) : Rm r x x := ⟨id, id, fun _ h => h⟩
theorem Rm.trans {r x y z : Int} (h1 : Rm r x y) (h2 : Rm r y z) : Rm r x z := ⟨fun h => h2.1 (h1.1 h), fun h => h2.2.1 (h1.2.1 h), fun h h' => h2.2.2 (h1.2.1 h) (h1.2.2 h h')⟩
theorem tmod_in {r x : Int} (hr : 0 < r) (hx : 0 ≤ x) : 0 ≤ x.tmod r ∧ x.tmod r < r := by
  rw [Int.tmod_eq_emod_of_nonneg hx]
  exact ⟨Int.emod_nonneg _ (by omega), Int.emod_lt_of_pos _ hr⟩
theorem Rm.tmod {r x : Int} (hr : 0 < r) (hx : 0 ≤ x) : Rm r x (x.tmod r) := ⟨fun h => by rw [h]; simp, fun _ => (tmod_in hr hx).1, fun _ _ => (tmod_in hr hx).2⟩
structure Md (B : Nat) (r : Int) (w w' : World) : Prop where
  cells : ∀ (g : Nat) (cs : Array Value) (t : TypeId), w.heap[g]? = some (Obj.cells cs t (0, 0)) → ∃ cs', w'.heap[g]? = some (Obj.cells cs' t (0, 0)) ∧ cs'.size = cs.size ∧
    ∀ (j : Nat) (c' : Value), cs'[j]? = some c' → ∃ c, cs[j]? = some c ∧ (c' = c ∨ (may t j = true ∧ ∃ x y, c = .int .i64 x ∧ c' = .int .i64 y ∧ Rm r x y))
  below : Below B w w'
theorem Md.refl (B : Nat) (r : Int) (w : World) : Md B r w w := ⟨fun _ cs _ h => ⟨cs, h, rfl, fun _ c hc => ⟨c, hc, .inl rfl⟩⟩, Below.refl _ _⟩
theorem Md.drew (B : Nat) (r : Int) (w : World) : Md B r w w.drew := ⟨fun _ cs _ h => ⟨cs, h, rfl, fun _ c hc => ⟨c, hc, .inl rfl⟩⟩, (Below.refl _ _).drew⟩
theorem Md.trans {B : Nat} {r : Int} {w w1 w2 : World} (h1 : Md B r w w1) (h2 : Md B r w1 w2) : Md B r w w2 := by
  refine ⟨fun g cs t h => ?_, h1.below.trans h2.below⟩
  obtain ⟨cs1, a1, a2, a3⟩ := h1.cells g cs t h
  obtain ⟨cs2, b1, b2, b3⟩ := h2.cells g cs1 t a1
  refine ⟨cs2, b1, by rw [b2, a2], fun j c2 hc2 => ?_⟩
  obtain ⟨c1, d1, d2⟩ := b3 j c2 hc2
  obtain ⟨c, e1, e2⟩ := a3 j c1 d1
  refine ⟨c, e1, ?_⟩
  rcases d2 with rfl | ⟨m, x, y, rfl, rfl, hr⟩
  · exact e2
  · rcases e2 with rfl | ⟨_, x', y', rfl, hy, hr'⟩
    · exact .inr ⟨m, x, y, rfl, rfl, hr⟩
    · simp only [Value.int.injEq, true_and] at hy
      subst hy
      exact .inr ⟨m, x', y, rfl, rfl, hr'.trans hr⟩
/-- One number brought below. -/
theorem Md.set {B : Nat} {r : Int} {w : World} {g j : Nat} {cs : Array Value} {t : TypeId} {x y : Int} (h0 : w.heap[g]? = some (Obj.cells cs t (0, 0))) (hx : cs[j]? = some (.int .i64 x)) (hm : may t j = true) (hr : Rm r x y) (hB : B ≤ g) : Md B r w (w.setCell ⟨g, j, none⟩ (.int .i64 y)) := by
  refine ⟨fun g' cs' t' h' => ?_, (Below.refl _ _).setCell (p := ⟨g, j, none⟩) hB _⟩
  by_cases e : g' = g
  · subst e
    rw [h0] at h'
    simp only [Option.some.injEq, Obj.cells.injEq] at h'
    obtain ⟨rfl, rfl, _⟩ := h'
    refine ⟨_, heap_setCell_same w g' j cs t _ h0, by simp, fun i c hc => ?_⟩
    by_cases hij : i = j
    · subst hij
      have hl : i < cs.size := (Array.getElem?_eq_some_iff.1 hx).1
      simp [hl] at hc
      subst hc
      exact ⟨_, hx, .inr ⟨hm, x, y, rfl, rfl, hr⟩⟩
    · rw [Array.getElem?_setIfInBounds_ne (fun h => hij h.symm)] at hc
      exact ⟨c, hc, .inl rfl⟩
  · refine ⟨cs', ?_, rfl, fun i c hc => ⟨c, hc, .inl rfl⟩⟩
    rw [Below.heap_setCell _ _ _ _ (fun h => e (by simpa using h))]
    exact h'
/-- Blocks of other types are as they were. -/
theorem Md.keeps {B : Nat} {r : Int} {w w' : World} (h : Md B r w w') {g : Nat} {cs : Array Value} {t : TypeId} (h0 : w.heap[g]? = some (Obj.cells cs t (0, 0))) (ht : t ≠ 3 ∧ t ≠ 46 ∧ t ≠ 41) : w'.heap[g]? = some (Obj.cells cs t (0, 0)) := by
  obtain ⟨cs', a1, a2, a3⟩ := h.cells g cs t h0
  have : cs' = cs := by
    apply Array.ext_getElem?
    intro i
    by_cases hi : i < cs'.size
    · obtain ⟨c, e1, e2⟩ := a3 i cs'[i] (Array.getElem?_eq_getElem hi)
      rcases e2 with e2 | ⟨m, _⟩
      · rw [e1, ← e2, Array.getElem?_eq_getElem hi]
      · simp [may, ht] at m
    · rw [Array.getElem?_eq_none (by omega), Array.getElem?_eq_none (by omega)]
  rw [a1, this]

/-! ### What the blocks' cells are, all the way -/
/-- A number from 0 on, in a row of type t. -/
def NN (t : TypeId) (w : World) (g o : Nat) : Prop := ∃ cs x, w.heap[g]? = some (Obj.cells cs t (0, 0)) ∧ cs[o]? = some (.int .i64 x) ∧ 0 ≤ x
/-- The same below r. -/
def Sm (t : TypeId) (r : Int) (w : World) (g o : Nat) : Prop := ∃ cs x, w.heap[g]? = some (Obj.cells cs t (0, 0)) ∧ cs[o]? = some (.int .i64 x) ∧ 0 ≤ x ∧ x < r
/-- A slice, in a row of type t. -/
def Sli (t : TypeId) (w : World) (g o : Nat) (a : Option Addr) (n c : Nat) : Prop := ∃ cs, w.heap[g]? = some (Obj.cells cs t (0, 0)) ∧ cs[o]? = some (.slice a n c)
section
variable {B : Nat} {r : Int} {w w' : World} {g o : Nat} {t : TypeId}
theorem Md.at (h : Md B r w w') {cs : Array Value} {c : Value} (h0 : w.heap[g]? = some (Obj.cells cs t (0, 0))) (hc : cs[o]? = some c) : ∃ cs' c', w'.heap[g]? = some (Obj.cells cs' t (0, 0)) ∧ cs'[o]? = some c' ∧ (c' = c ∨ (may t o = true ∧ ∃ x y, c = .int .i64 x ∧ c' = .int .i64 y ∧ Rm r x y)) := by
  obtain ⟨cs', a1, a2, a3⟩ := h.cells g cs t h0
  have ho : o < cs'.size := by rw [a2]; exact (Array.getElem?_eq_some_iff.1 hc).1
  obtain ⟨c0, e1, e2⟩ := a3 o cs'[o] (Array.getElem?_eq_getElem ho)
  rw [hc] at e1
  simp only [Option.some.injEq] at e1
  subst e1
  exact ⟨cs', cs'[o], a1, Array.getElem?_eq_getElem ho, e2⟩
theorem NN.md (h : NN t w g o) (hm : Md B r w w') : NN t w' g o := by
  obtain ⟨cs, x, h1, h2, h3⟩ := h
  obtain ⟨cs', c', a1, a2, a3⟩ := hm.at h1 h2
  rcases a3 with rfl | ⟨_, x', y, e1, rfl, e3⟩
  · exact ⟨cs', x, a1, a2, h3⟩
  · simp only [Value.int.injEq, true_and] at e1
    subst e1
    exact ⟨cs', y, a1, a2, e3.2.1 h3⟩
theorem Sm.md (h : Sm t r w g o) (hm : Md B r w w') : Sm t r w' g o := by
  obtain ⟨cs, x, h1, h2, h3, h4⟩ := h
  obtain ⟨cs', c', a1, a2, a3⟩ := hm.at h1 h2
  rcases a3 with rfl | ⟨_, x', y, e1, rfl, e3⟩
  · exact ⟨cs', x, a1, a2, h3, h4⟩
  · simp only [Value.int.injEq, true_and] at e1
    subst e1
    exact ⟨cs', y, a1, a2, e3.2.1 h3, e3.2.2 h3 h4⟩
theorem Sli.md {a : Option Addr} {n c : Nat} (h : Sli t w g o a n c) (hm : Md B r w w') : Sli t w' g o a n c := by
  obtain ⟨cs, h1, h2⟩ := h
  obtain ⟨cs', c', a1, a2, a3⟩ := hm.at h1 h2
  rcases a3 with rfl | ⟨_, x', y, e1, _⟩
  · exact ⟨cs', a1, a2⟩
  · cases e1
theorem NN.cell (h : NN t w g o) : ∃ cs x, w.heap[g]? = some (Obj.cells cs t (0, 0)) ∧ cs[o]? = some (.int .i64 x) ∧ w.cell? ⟨g, o, none⟩ = some (.int .i64 x) ∧ 0 ≤ x := by
  obtain ⟨cs, x, h1, h2, h3⟩ := h
  exact ⟨cs, x, h1, h2, by rw [cell_of_row _ _ _ _ _ _ h1]; exact h2, h3⟩
theorem Sli.cell {a : Option Addr} {n c : Nat} (h : Sli t w g o a n c) : w.cell? ⟨g, o, none⟩ = some (.slice a n c) := by
  obtain ⟨cs, h1, h2⟩ := h
  rw [cell_of_row _ _ _ _ _ _ h1]
  exact h2
end
/-- Arguments, instructions, blocks before. -/
def ArgsOk (B : Nat) (w : World) (a : Option Addr) (n : Nat) : Prop := ∀ k, k < n → ∃ g, a = some ⟨g, 0, none⟩ ∧ B ≤ g ∧ NN 3 w g k
def InsOk (B : Nat) (w : World) (g o : Nat) : Prop := NN 46 w g (o + 2) ∧ NN 46 w g (o + 3) ∧ NN 46 w g (o + 4) ∧ ∃ a n c, Sli 46 w g (o + 6) a n c ∧ n ≤ 1000 ∧ ArgsOk B w a n
def InssOk (B : Nat) (w : World) (a : Option Addr) (n : Nat) : Prop := ∀ k, k < n → ∃ g, a = some ⟨g, 0, none⟩ ∧ B ≤ g ∧ InsOk B w g (k * 7)
def BlkOk (B : Nat) (w : World) (g o : Nat) : Prop := NN 41 w g (o + 2) ∧ ∃ a n c, Sli 41 w g o a n c ∧ n ≤ 1000 ∧ InssOk B w a n
/-- The same behind. -/
def ArgsDone (r : Int) (w : World) (a : Option Addr) (n : Nat) : Prop := ∀ k, k < n → ∃ g, a = some ⟨g, 0, none⟩ ∧ Sm 3 r w g k
def InsDone (r : Int) (w : World) (g o : Nat) : Prop := Sm 46 r w g (o + 2) ∧ Sm 46 r w g (o + 3) ∧ Sm 46 r w g (o + 4) ∧ ∃ a n c, Sli 46 w g (o + 6) a n c ∧ ArgsDone r w a n
def InssDone (r : Int) (w : World) (a : Option Addr) (n : Nat) : Prop := ∀ k, k < n → ∃ g, a = some ⟨g, 0, none⟩ ∧ InsDone r w g (k * 7)
def BlkDone (r : Int) (w : World) (g o : Nat) : Prop := Sm 41 r w g (o + 2) ∧ ∃ a n c, Sli 41 w g o a n c ∧ InssDone r w a n
section
variable {B B' : Nat} {r : Int} {w w' : World} {g o n : Nat} {a : Option Addr}
theorem ArgsOk.md (h : ArgsOk B w a n) (hm : Md B' r w w') : ArgsOk B w' a n := fun k hk => by
  obtain ⟨g, h1, h2, h3⟩ := h k hk
  exact ⟨g, h1, h2, h3.md hm⟩
theorem InsOk.md (h : InsOk B w g o) (hm : Md B' r w w') : InsOk B w' g o := by
  obtain ⟨h1, h2, h3, a, n, c, h4, h6, h5⟩ := h
  exact ⟨h1.md hm, h2.md hm, h3.md hm, a, n, c, h4.md hm, h6, h5.md hm⟩
theorem InssOk.md (h : InssOk B w a n) (hm : Md B' r w w') : InssOk B w' a n := fun k hk => by
  obtain ⟨g, h1, h2, h3⟩ := h k hk
  exact ⟨g, h1, h2, h3.md hm⟩
theorem BlkOk.md (h : BlkOk B w g o) (hm : Md B' r w w') : BlkOk B w' g o := by
  obtain ⟨h1, a, n, c, h4, h5, h6⟩ := h
  exact ⟨h1.md hm, a, n, c, h4.md hm, h5, h6.md hm⟩
theorem ArgsDone.md (h : ArgsDone r w a n) (hm : Md B r w w') : ArgsDone r w' a n := fun k hk => by
  obtain ⟨g, h1, h3⟩ := h k hk
  exact ⟨g, h1, h3.md hm⟩
theorem InsDone.md (h : InsDone r w g o) (hm : Md B r w w') : InsDone r w' g o := by
  obtain ⟨h1, h2, h3, a, n, c, h4, h5⟩ := h
  exact ⟨h1.md hm, h2.md hm, h3.md hm, a, n, c, h4.md hm, h5.md hm⟩
theorem InssDone.md (h : InssDone r w a n) (hm : Md B r w w') : InssDone r w' a n := fun k hk => by
  obtain ⟨g, h1, h3⟩ := h k hk
  exact ⟨g, h1, h3.md hm⟩
theorem BlkDone.md (h : BlkDone r w g o) (hm : Md B r w w') : BlkDone r w' g o := by
  obtain ⟨h1, a, n, c, h4, h6⟩ := h
  exact ⟨h1.md hm, a, n, c, h4.md hm, h6.md hm⟩
end

/-! ### Before: out of what is right -/
theorem inF_nn {i : Ins} {v : Int} (h : inF i v = 0) : 0 ≤ i.d ∧ 0 ≤ i.a ∧ 0 ≤ i.b ∧ ∀ x ∈ i.args, 0 ≤ x := by
  obtain ⟨h1, _, h3⟩ := inF_all h
  obtain ⟨k, op, d, a, b, n, args⟩ := i
  simp only at *
  have h3' : ∀ x ∈ named ⟨k, op, d, a, b, n, args⟩, 0 ≤ x := fun x hx => (h3 x hx).1
  unfold formed at h1
  simp only at h1
  by_cases k1 : k = 1
  · subst k1
    simp [named, uses, gives] at h1 h3'
    obtain ⟨_, hh, rfl, rfl⟩ := h1
    subst hh
    simp [h3']
  by_cases k2 : k = 2 ∨ k = 4
  · have : named ⟨k, op, d, a, b, n, args⟩ = [a, d] := by rcases k2 with rfl | rfl <;> simp [named, uses, gives]
    rw [this] at h3'
    rw [if_neg k1, if_pos k2] at h1
    simp at h1 h3'
    obtain ⟨_, hh, rfl, rfl⟩ := h1
    subst hh
    simp [h3']
  by_cases k3 : k = 3
  · subst k3
    simp [named, uses, gives] at h1 h3'
    obtain ⟨_, _, rfl, hh⟩ := h1
    subst hh
    simp [h3']
  by_cases k5 : k = 5
  · subst k5
    simp [named, uses, gives] at h1 h3'
    obtain ⟨_, hh, rfl, rfl⟩ := h1
    subst hh
    simp [h3']
  by_cases k6 : k = 6
  · subst k6
    simp [named, uses, gives] at h1 h3'
    obtain ⟨_, rfl, rfl⟩ := h1
    refine ⟨h3' d (.inr rfl), by omega, by omega, fun x hx => h3' x (.inl hx)⟩
  · simp [k1, k2, k3, k5, k6] at h1
theorem endF_nn {e : En} {v nb : Int} (h : endF e v nb = 0) : 0 ≤ e.a := by
  obtain ⟨h1, h2, _⟩ := endF_all h
  obtain ⟨k, a, t, l⟩ := e
  unfold endFormed at h1
  simp only at *
  by_cases k1 : k = 1
  · subst k1
    simp at h1
    omega
  by_cases k2 : k = 2
  · subst k2
    exact (h2 rfl).1
  by_cases k3 : k = 3
  · subst k3
    exact (h2 rfl).1
  · simp [k1, k2, k3] at h1
theorem row_get {w : World} {B : Nat} {e : TypeId} {sz : Nat} {v : Value} {n : Nat} {xs : List Value} (h : w.ownsRow B e sz v n xs) (h0 : 0 < n) : ∃ g c cs, v = .slice (some ⟨g, 0, none⟩) n c ∧ B ≤ g ∧ w.heap[g]? = some (Obj.cells cs e (0, 0)) ∧ ∀ (j : Nat) (x : Value), xs[j]? = some x → cs[j]? = some x := by
  rcases h.2 with ⟨_, rfl⟩ | ⟨g, cap, cur, rfl, hb, hg, _, _, _, ht⟩
  · omega
  · refine ⟨g, cap, cur, rfl, hb, hg, fun j x hx => ?_⟩
    rw [← ht, List.getElem?_take] at hx
    split at hx
    · simpa using hx
    · cases hx
theorem ArgsO.ok {B : Nat} {w : World} {v : Value} {xs : List Int} (h : ArgsO B w v xs) (hx : ∀ x ∈ xs, 0 ≤ x) : ∃ a c, v = .slice a xs.length c ∧ ArgsOk B w a xs.length := by
  rcases Nat.eq_zero_or_pos xs.length with h0 | h0
  · obtain ⟨a, c, e⟩ := h.v.slice
    exact ⟨a, c, e, fun k hk => by omega⟩
  · obtain ⟨g, c, cs, rfl, hb, hg, hc⟩ := row_get h h0
    refine ⟨_, _, rfl, fun k hk => ⟨g, rfl, hb, cs, xs[k], hg, hc k _ (by simp [hk]), hx _ (List.getElem_mem hk)⟩⟩
theorem InssO.ok {B : Nat} {w : World} {v : Value} {is : List Ins} {vv : Int} (h : InssO B w v is) (hi : ∀ i ∈ is, inF i vv = 0) : ∃ a c, v = .slice a is.length c ∧ InssOk B w a is.length := by
  rcases Nat.eq_zero_or_pos is.length with h0 | h0
  · obtain ⟨a, c, e⟩ := h.v.slice
    exact ⟨a, c, e, fun k hk => by omega⟩
  · obtain ⟨ps, rfl, h2, h3⟩ := h
    rw [List.length_map] at h0 ⊢
    obtain ⟨g, c, cs, rfl, hb, hg, hc⟩ := row_get h2 h0
    refine ⟨_, _, rfl, fun k hk => ⟨g, rfl, hb, ?_⟩⟩
    have hp : ps[k]? = some ps[k] := List.getElem?_eq_getElem hk
    obtain ⟨_, _, g2, g3, g4, _, g6⟩ := cellsI_get ps k _ hp
    obtain ⟨n1, n2, n3, n4⟩ := inF_nn (hi ps[k].1 (List.mem_map_of_mem (List.getElem_mem hk)))
    obtain ⟨a, ca, e1, e2⟩ := (h3 _ (List.getElem_mem hk)).ok n4
    rw [e1] at g6
    exact ⟨⟨cs, _, hg, hc _ _ g2, n1⟩, ⟨cs, _, hg, hc _ _ g3, n2⟩, ⟨cs, _, hg, hc _ _ g4, n3⟩, a, _, ca, ⟨cs, hg, hc _ _ g6⟩, by have := (inF_all (hi ps[k].1 (List.mem_map_of_mem (List.getElem_mem hk)))).2.1; omega, e2⟩
theorem BlksO.ok {B : Nat} {w : World} {v : Value} {bs : List Blk} {vv nb : Int} (h : BlksO B w v bs) (hb : ∀ b ∈ bs, (blkF b vv nb).1 = 0) (h0 : 0 < bs.length) : ∃ g c, v = .slice (some ⟨g, 0, none⟩) bs.length c ∧ B ≤ g ∧ ∀ j, j < bs.length → BlkOk B w g (j * 5) := by
  obtain ⟨ps, rfl, h2, h3⟩ := h
  rw [List.length_map] at h0 ⊢
  obtain ⟨g, c, cs, rfl, hbg, hg, hc⟩ := row_get h2 h0
  refine ⟨g, c, rfl, hbg, fun j hj => ?_⟩
  have hp : ps[j]? = some ps[j] := List.getElem?_eq_getElem hj
  obtain ⟨g0, _, g2, _, _⟩ := cellsB_get ps j _ hp
  obtain ⟨q1, q2, q3⟩ := blkF_all (hb ps[j].1 (List.mem_map_of_mem (List.getElem_mem hj)))
  obtain ⟨a, ca, e1, e2⟩ := (h3 _ (List.getElem_mem hj)).ok q2
  rw [e1] at g0
  exact ⟨⟨cs, _, hg, hc _ _ g2, endF_nn q3⟩, a, _, ca, ⟨cs, hg, hc _ _ g0⟩, by omega, e2⟩

/-! ### Behind: they are right -/
theorem inF_fit {k op d a b n d' a' b' v r : Int} {args args' : List Int} (h : inF ⟨k, op, d, a, b, n, args⟩ v = 0) (hd : d = 0 → d' = 0) (ha : a = 0 → a' = 0) (hb : b = 0 → b' = 0) (hd' : 0 ≤ d' ∧ d' < r) (ha' : 0 ≤ a' ∧ a' < r) (hb' : 0 ≤ b' ∧ b' < r) (hl : args'.length = args.length) (hx : ∀ x ∈ args', 0 ≤ x ∧ x < r) : inF ⟨k, op, d', a', b', n, args'⟩ r = 0 := by
  obtain ⟨h1, h2, _⟩ := inF_all h
  refine inF_zero ?_ (by simp only at h2 ⊢; omega) fun x hx' => ?_
  · unfold formed at h1 ⊢
    simp only [hl] at h1 ⊢
    (repeat' split) <;> simp_all
  · unfold named uses at hx'
    simp only at hx'
    rcases List.mem_append.1 hx' with hx' | hx'
    · split at hx'
      · simp at hx'
        subst hx'
        exact ha'
      · split at hx'
        · simp at hx'
          rcases hx' with rfl | rfl
          · exact ha'
          · exact hb'
        · split at hx'
          · exact hx x hx'
          · simp at hx'
    · split at hx'
      · simp at hx'
        subst hx'
        exact hd'
      · simp at hx'
theorem endF_fit {k a t l a' v r nb : Int} (h : endF ⟨k, a, t, l⟩ v nb = 0) (ha : a = 0 → a' = 0) (ha' : 0 ≤ a' ∧ a' < r) : endF ⟨k, a', t, l⟩ r nb = 0 := by
  obtain ⟨h1, _, h3⟩ := endF_all h
  refine endF_zero ?_ (fun _ => ha') h3
  unfold endFormed at h1 ⊢
  simp only at h1 ⊢
  (repeat' split) <;> simp_all
end Go.Proofs.Ytbgedbahabbanaa
