/- Numbers of blocks that the call has laid, brought below a limit one by one: what stays of the blocks, and that they are right in the end. -/
import Derived.Test.YtbjnhicikkjadaaIr
import Derived.Test.YtbjnhicikkjadaaRowI
import Derived.Test.YtbjnhicikkjadaaBlk
import Derived.BigRegion
namespace Go.Proofs.Ytbjnhicikkjadaa
open Go.RowKit Ir

/-- Which cells are numbers of registers. -/
def may (t : TypeId) (j : Nat) : Bool := t == 3 || (t == 86 && (j % 7 == 2 || j % 7 == 3 || j % 7 == 4)) || (t == 82 && j % 5 == 2)
/-- y may stand in x's place. -/
def Rm (r x y : Int) : Prop := (x = 0 → y = 0) ∧ (0 ≤ x → 0 ≤ y) ∧ (0 ≤ x → x < r → y < r) ∧ (y = x ∨ y = x.tmod r)
theorem Rm.refl (r x : Int) : Rm r x x := ⟨id, id, fun _ h => h, .inl rfl⟩
theorem Rm.trans {r x y z : Int} (h1 : Rm r x y) (h2 : Rm r y z) : Rm r x z := by
  refine ⟨fun h => h2.1 (h1.1 h), fun h => h2.2.1 (h1.2.1 h), fun h h' => h2.2.2.1 (h1.2.1 h) (h1.2.2.1 h h'), ?_⟩
  rcases h1.2.2.2 with e1 | e1
  · rw [← e1]
    exact h2.2.2.2
  · rcases h2.2.2.2 with e2 | e2
    · exact .inr (by rw [e2, e1])
    · exact .inr (by rw [e2, e1, Int.tmod_tmod])
theorem Rm.tmod {r x : Int} (hr : 0 < r) (hx : 0 ≤ x) : Rm r x (x.tmod r) := ⟨fun h => by rw [h]; simp, fun _ => (tmod_in hr hx).1, fun _ _ => (tmod_in hr hx).2, .inr rfl⟩
/-- Below r there is one such number alone. -/
theorem Rm.eq {r x y : Int} (h : Rm r x y) (hy : 0 ≤ y ∧ y < r) : y = x.tmod r := by
  rcases h.2.2.2 with e | e
  · subst e
    exact (Int.tmod_eq_of_lt hy.1 hy.2).symm
  · exact e
structure Md (B : Nat) (r : Int) (w w' : World) : Prop where
  cells : ∀ (g : Nat) (cs : Array Value) (t : TypeId), w.heap[g]? = some (Obj.cells cs t (0, 0)) → ∃ cs', w'.heap[g]? = some (Obj.cells cs' t (0, 0)) ∧ cs'.size = cs.size ∧
    ∀ (j : Nat) (c' : Value), cs'[j]? = some c' → ∃ c, cs[j]? = some c ∧ (c' = c ∨ (may t j = true ∧ ∃ x y, c = .int .i64 x ∧ c' = .int .i64 y ∧ Rm r x y))
  below : Below B w w'
theorem Md.refl (B : Nat) (r : Int) (w : World) : Md B r w w := ⟨fun _ cs _ h => ⟨cs, h, rfl, fun _ c hc => ⟨c, hc, .inl rfl⟩⟩, Below.refl _ _⟩
theorem Md.drew (B : Nat) (r : Int) (w : World) : Md B r w w.drew := ⟨fun _ cs _ h => ⟨cs, h, rfl, fun _ c hc => ⟨c, hc, .inl rfl⟩⟩, (Below.refl _ _).drew⟩
theorem Md.trans {B : Nat} {r : Int} {w w1 w2 : World} (h1 : Md B r w w1) (h2 : Md B r w1 w2) : Md B r w w2 := by
  refine ⟨fun g cs t h => ?_, h1.below.trans h2.below⟩
  obtain ⟨cs1, a1, a2, a3⟩ := h1.cells g cs t h
  obtain ⟨cs2, b1, b2, b3⟩ := h2.cells g cs1 t a1
  refine ⟨cs2, b1, by rw [b2, a2], fun j c2 hc2 => ?_⟩
  obtain ⟨c1, d1, d2⟩ := b3 j c2 hc2
  obtain ⟨c, e1, e2⟩ := a3 j c1 d1
  refine ⟨c, e1, ?_⟩
  rcases d2 with rfl | ⟨m, x, y, rfl, rfl, hr⟩
  · exact e2
  · rcases e2 with rfl | ⟨_, x', y', rfl, hy, hr'⟩
    · exact .inr ⟨m, x, y, rfl, rfl, hr⟩
    · simp only [Value.int.injEq, true_and] at hy
      subst hy
      exact .inr ⟨m, x', y, rfl, rfl, hr'.trans hr⟩
/-- One number brought below. -/
theorem Md.set {B : Nat} {r : Int} {w : World} {g j : Nat} {cs : Array Value} {t : TypeId} {x y : Int} (h0 : w.heap[g]? = some (Obj.cells cs t (0, 0))) (hx : cs[j]? = some (.int .i64 x)) (hm : may t j = true) (hr : Rm r x y) (hB : B ≤ g) : Md B r w (w.setCell ⟨g, j, none⟩ (.int .i64 y)) := by
  refine ⟨fun g' cs' t' h' => ?_, (Below.refl _ _).setCell (p := ⟨g, j, none⟩) hB _⟩
  by_cases e : g' = g
  · subst e
    rw [h0] at h'
    simp only [Option.some.injEq, Obj.cells.injEq] at h'
    obtain ⟨rfl, rfl, _⟩ := h'
    refine ⟨_, heap_setCell_same w g' j cs t _ h0, by simp, fun i c hc => ?_⟩
    by_cases hij : i = j
    · subst hij
      have hl : i < cs.size := (Array.getElem?_eq_some_iff.1 hx).1
      simp [hl] at hc
      subst hc
      exact ⟨_, hx, .inr ⟨hm, x, y, rfl, rfl, hr⟩⟩
    · rw [Array.getElem?_setIfInBounds_ne (fun h => hij h.symm)] at hc
      exact ⟨c, hc, .inl rfl⟩
  · refine ⟨cs', ?_, rfl, fun i c hc => ⟨c, hc, .inl rfl⟩⟩
    rw [Below.heap_setCell _ _ _ _ (fun h => e (by simpa using h))]
    exact h'
/-- Blocks of other types are as they were. -/
theorem Md.keeps {B : Nat} {r : Int} {w w' : World} (h : Md B r w w') {g : Nat} {cs : Array Value} {t : TypeId} (h0 : w.heap[g]? = some (Obj.cells cs t (0, 0))) (ht : t ≠ 3 ∧ t ≠ 86 ∧ t ≠ 82) : w'.heap[g]? = some (Obj.cells cs t (0, 0)) := by
  obtain ⟨cs', a1, a2, a3⟩ := h.cells g cs t h0
  have : cs' = cs := by
    apply Array.ext_getElem?
    intro i
    by_cases hi : i < cs'.size
    · obtain ⟨c, e1, e2⟩ := a3 i cs'[i] (Array.getElem?_eq_getElem hi)
      rcases e2 with e2 | ⟨m, _⟩
      · rw [e1, ← e2, Array.getElem?_eq_getElem hi]
      · simp [may, ht] at m
    · rw [Array.getElem?_eq_none (by omega), Array.getElem?_eq_none (by omega)]
  rw [a1, this]

/-! ### What the blocks' cells are, all the way -/
/-- A number from 0 on, in a row of type t. -/
def NN (t : TypeId) (w : World) (g o : Nat) : Prop := ∃ cs x, w.heap[g]? = some (Obj.cells cs t (0, 0)) ∧ cs[o]? = some (.int .i64 x) ∧ 0 ≤ x
/-- The same below r. -/
def Sm (t : TypeId) (r : Int) (w : World) (g o : Nat) : Prop := ∃ cs x, w.heap[g]? = some (Obj.cells cs t (0, 0)) ∧ cs[o]? = some (.int .i64 x) ∧ 0 ≤ x ∧ x < r
/-- A slice, in a row of type t. -/
def Sli (t : TypeId) (w : World) (g o : Nat) (a : Option Addr) (n c : Nat) : Prop := ∃ cs, w.heap[g]? = some (Obj.cells cs t (0, 0)) ∧ cs[o]? = some (.slice a n c)
section
variable {B : Nat} {r : Int} {w w' : World} {g o : Nat} {t : TypeId}
theorem Md.at (h : Md B r w w') {cs : Array Value} {c : Value} (h0 : w.heap[g]? = some (Obj.cells cs t (0, 0))) (hc : cs[o]? = some c) : ∃ cs' c', w'.heap[g]? = some (Obj.cells cs' t (0, 0)) ∧ cs'[o]? = some c' ∧ (c' = c ∨ (may t o = true ∧ ∃ x y, c = .int .i64 x ∧ c' = .int .i64 y ∧ Rm r x y)) := by
  obtain ⟨cs', a1, a2, a3⟩ := h.cells g cs t h0
  have ho : o < cs'.size := by rw [a2]; exact (Array.getElem?_eq_some_iff.1 hc).1
  obtain ⟨c0, e1, e2⟩ := a3 o cs'[o] (Array.getElem?_eq_getElem ho)
  rw [hc] at e1
  simp only [Option.some.injEq] at e1
  subst e1
  exact ⟨cs', cs'[o], a1, Array.getElem?_eq_getElem ho, e2⟩
theorem NN.md (h : NN t w g o) (hm : Md B r w w') : NN t w' g o := by
  obtain ⟨cs, x, h1, h2, h3⟩ := h
  obtain ⟨cs', c', a1, a2, a3⟩ := hm.at h1 h2
  rcases a3 with rfl | ⟨_, x', y, e1, rfl, e3⟩
  · exact ⟨cs', x, a1, a2, h3⟩
  · simp only [Value.int.injEq, true_and] at e1
    subst e1
    exact ⟨cs', y, a1, a2, e3.2.1 h3⟩
theorem Sm.md (h : Sm t r w g o) (hm : Md B r w w') : Sm t r w' g o := by
  obtain ⟨cs, x, h1, h2, h3, h4⟩ := h
  obtain ⟨cs', c', a1, a2, a3⟩ := hm.at h1 h2
  rcases a3 with rfl | ⟨_, x', y, e1, rfl, e3⟩
  · exact ⟨cs', x, a1, a2, h3, h4⟩
  · simp only [Value.int.injEq, true_and] at e1
    subst e1
    exact ⟨cs', y, a1, a2, e3.2.1 h3, e3.2.2.1 h3 h4⟩
theorem Sli.md {a : Option Addr} {n c : Nat} (h : Sli t w g o a n c) (hm : Md B r w w') : Sli t w' g o a n c := by
  obtain ⟨cs, h1, h2⟩ := h
  obtain ⟨cs', c', a1, a2, a3⟩ := hm.at h1 h2
  rcases a3 with rfl | ⟨_, x', y, e1, _⟩
  · exact ⟨cs', a1, a2⟩
  · cases e1
theorem NN.cell (h : NN t w g o) : ∃ cs x, w.heap[g]? = some (Obj.cells cs t (0, 0)) ∧ cs[o]? = some (.int .i64 x) ∧ w.cell? ⟨g, o, none⟩ = some (.int .i64 x) ∧ 0 ≤ x := by
  obtain ⟨cs, x, h1, h2, h3⟩ := h
  exact ⟨cs, x, h1, h2, by rw [cell_of_row _ _ _ _ _ _ h1]; exact h2, h3⟩
theorem Sli.cell {a : Option Addr} {n c : Nat} (h : Sli t w g o a n c) : w.cell? ⟨g, o, none⟩ = some (.slice a n c) := by
  obtain ⟨cs, h1, h2⟩ := h
  rw [cell_of_row _ _ _ _ _ _ h1]
  exact h2
end
/-- Arguments, instructions, blocks before. -/
def ArgsOk (B : Nat) (w : World) (a : Option Addr) (n : Nat) : Prop := ∀ k, k < n → ∃ g, a = some ⟨g, 0, none⟩ ∧ B ≤ g ∧ NN 3 w g k
def InsOk (B : Nat) (w : World) (g o : Nat) : Prop := NN 86 w g (o + 2) ∧ NN 86 w g (o + 3) ∧ NN 86 w g (o + 4) ∧ ∃ a n c, Sli 86 w g (o + 6) a n c ∧ n ≤ 1000 ∧ ArgsOk B w a n
def InssOk (B : Nat) (w : World) (a : Option Addr) (n : Nat) : Prop := ∀ k, k < n → ∃ g, a = some ⟨g, 0, none⟩ ∧ B ≤ g ∧ InsOk B w g (k * 7)
def BlkOk (B : Nat) (w : World) (g o : Nat) : Prop := NN 82 w g (o + 2) ∧ ∃ a n c, Sli 82 w g o a n c ∧ n ≤ 1000 ∧ InssOk B w a n
/-- The same behind. -/
def ArgsDone (r : Int) (w : World) (a : Option Addr) (n : Nat) : Prop := ∀ k, k < n → ∃ g, a = some ⟨g, 0, none⟩ ∧ Sm 3 r w g k
def InsDone (r : Int) (w : World) (g o : Nat) : Prop := Sm 86 r w g (o + 2) ∧ Sm 86 r w g (o + 3) ∧ Sm 86 r w g (o + 4) ∧ ∃ a n c, Sli 86 w g (o + 6) a n c ∧ ArgsDone r w a n
def InssDone (r : Int) (w : World) (a : Option Addr) (n : Nat) : Prop := ∀ k, k < n → ∃ g, a = some ⟨g, 0, none⟩ ∧ InsDone r w g (k * 7)
def BlkDone (r : Int) (w : World) (g o : Nat) : Prop := Sm 82 r w g (o + 2) ∧ ∃ a n c, Sli 82 w g o a n c ∧ InssDone r w a n
section
variable {B B' : Nat} {r : Int} {w w' : World} {g o n : Nat} {a : Option Addr}
theorem ArgsOk.md (h : ArgsOk B w a n) (hm : Md B' r w w') : ArgsOk B w' a n := fun k hk => by
  obtain ⟨g, h1, h2, h3⟩ := h k hk
  exact ⟨g, h1, h2, h3.md hm⟩
theorem InsOk.md (h : InsOk B w g o) (hm : Md B' r w w') : InsOk B w' g o := by
  obtain ⟨h1, h2, h3, a, n, c, h4, h6, h5⟩ := h
  exact ⟨h1.md hm, h2.md hm, h3.md hm, a, n, c, h4.md hm, h6, h5.md hm⟩
theorem InssOk.md (h : InssOk B w a n) (hm : Md B' r w w') : InssOk B w' a n := fun k hk => by
  obtain ⟨g, h1, h2, h3⟩ := h k hk
  exact ⟨g, h1, h2, h3.md hm⟩
theorem BlkOk.md (h : BlkOk B w g o) (hm : Md B' r w w') : BlkOk B w' g o := by
  obtain ⟨h1, a, n, c, h4, h5, h6⟩ := h
  exact ⟨h1.md hm, a, n, c, h4.md hm, h5, h6.md hm⟩
theorem ArgsDone.md (h : ArgsDone r w a n) (hm : Md B r w w') : ArgsDone r w' a n := fun k hk => by
  obtain ⟨g, h1, h3⟩ := h k hk
  exact ⟨g, h1, h3.md hm⟩
theorem InsDone.md (h : InsDone r w g o) (hm : Md B r w w') : InsDone r w' g o := by
  obtain ⟨h1, h2, h3, a, n, c, h4, h5⟩ := h
  exact ⟨h1.md hm, h2.md hm, h3.md hm, a, n, c, h4.md hm, h5.md hm⟩
theorem InssDone.md (h : InssDone r w a n) (hm : Md B r w w') : InssDone r w' a n := fun k hk => by
  obtain ⟨g, h1, h3⟩ := h k hk
  exact ⟨g, h1, h3.md hm⟩
theorem BlkDone.md (h : BlkDone r w g o) (hm : Md B r w w') : BlkDone r w' g o := by
  obtain ⟨h1, a, n, c, h4, h6⟩ := h
  exact ⟨h1.md hm, a, n, c, h4.md hm, h6.md hm⟩
end

/-! ### Before: out of what is right -/
theorem inF_nn {i : Ins} {v : Int} (h : inF i v = 0) : 0 ≤ i.d ∧ 0 ≤ i.a ∧ 0 ≤ i.b ∧ ∀ x ∈ i.args, 0 ≤ x := by
  obtain ⟨h1, _, h3⟩ := inF_all h
  obtain ⟨k, op, d, a, b, n, args⟩ := i
  simp only at *
  have h3' : ∀ x ∈ named ⟨k, op, d, a, b, n, args⟩, 0 ≤ x := fun x hx => (h3 x hx).1
  unfold formed at h1
  simp only at h1
  by_cases k1 : k = 1
  · subst k1
    simp [named, uses, gives] at h1 h3'
    obtain ⟨_, hh, rfl, rfl⟩ := h1
    subst hh
    simp [h3']
  by_cases k2 : k = 2 ∨ k = 4
  · have : named ⟨k, op, d, a, b, n, args⟩ = [a, d] := by rcases k2 with rfl | rfl <;> simp [named, uses, gives]
    rw [this] at h3'
    rw [if_neg k1, if_pos k2] at h1
    simp at h1 h3'
    obtain ⟨_, hh, rfl, rfl⟩ := h1
    subst hh
    simp [h3']
  by_cases k3 : k = 3
  · subst k3
    simp [named, uses, gives] at h1 h3'
    obtain ⟨_, _, rfl, hh⟩ := h1
    subst hh
    simp [h3']
  by_cases k5 : k = 5
  · subst k5
    simp [named, uses, gives] at h1 h3'
    obtain ⟨_, hh, rfl, rfl⟩ := h1
    subst hh
    simp [h3']
  by_cases k6 : k = 6
  · subst k6
    simp [named, uses, gives] at h1 h3'
    obtain ⟨_, rfl, rfl⟩ := h1
    refine ⟨h3' d (.inr rfl), by omega, by omega, fun x hx => h3' x (.inl hx)⟩
  · simp [k1, k2, k3, k5, k6] at h1
theorem endF_nn {e : En} {v nb : Int} (h : endF e v nb = 0) : 0 ≤ e.a := by
  obtain ⟨h1, h2, _⟩ := endF_all h
  obtain ⟨k, a, t, l⟩ := e
  unfold endFormed at h1
  simp only at *
  by_cases k1 : k = 1
  · subst k1
    simp at h1
    omega
  by_cases k2 : k = 2
  · subst k2
    exact (h2 rfl).1
  by_cases k3 : k = 3
  · subst k3
    exact (h2 rfl).1
  · simp [k1, k2, k3] at h1
theorem row_get {w : World} {B : Nat} {e : TypeId} {sz : Nat} {v : Value} {n : Nat} {xs : List Value} (h : w.ownsRow B e sz v n xs) (h0 : 0 < n) : ∃ g c cs, v = .slice (some ⟨g, 0, none⟩) n c ∧ B ≤ g ∧ w.heap[g]? = some (Obj.cells cs e (0, 0)) ∧ ∀ (j : Nat) (x : Value), xs[j]? = some x → cs[j]? = some x := by
  rcases h.2 with ⟨_, rfl⟩ | ⟨g, cap, cur, rfl, hb, hg, _, _, _, ht⟩
  · omega
  · refine ⟨g, cap, cur, rfl, hb, hg, fun j x hx => ?_⟩
    rw [← ht, List.getElem?_take] at hx
    split at hx
    · simpa using hx
    · cases hx
theorem ArgsO.ok {B : Nat} {w : World} {v : Value} {xs : List Int} (h : ArgsO B w v xs) (hx : ∀ x ∈ xs, 0 ≤ x) : ∃ a c, v = .slice a xs.length c ∧ ArgsOk B w a xs.length := by
  rcases Nat.eq_zero_or_pos xs.length with h0 | h0
  · obtain ⟨a, c, e⟩ := h.v.slice
    exact ⟨a, c, e, fun k hk => by omega⟩
  · obtain ⟨g, c, cs, rfl, hb, hg, hc⟩ := row_get h h0
    refine ⟨_, _, rfl, fun k hk => ⟨g, rfl, hb, cs, xs[k], hg, hc k _ (by simp [hk]), hx _ (List.getElem_mem hk)⟩⟩
theorem InssO.ok {B : Nat} {w : World} {v : Value} {is : List Ins} {vv : Int} (h : InssO B w v is) (hi : ∀ i ∈ is, inF i vv = 0) : ∃ a c, v = .slice a is.length c ∧ InssOk B w a is.length := by
  rcases Nat.eq_zero_or_pos is.length with h0 | h0
  · obtain ⟨a, c, e⟩ := h.v.slice
    exact ⟨a, c, e, fun k hk => by omega⟩
  · obtain ⟨ps, rfl, h2, h3⟩ := h
    rw [List.length_map] at h0 ⊢
    obtain ⟨g, c, cs, rfl, hb, hg, hc⟩ := row_get h2 h0
    refine ⟨_, _, rfl, fun k hk => ⟨g, rfl, hb, ?_⟩⟩
    have hp : ps[k]? = some ps[k] := List.getElem?_eq_getElem hk
    obtain ⟨_, _, g2, g3, g4, _, g6⟩ := cellsI_get ps k _ hp
    obtain ⟨n1, n2, n3, n4⟩ := inF_nn (hi ps[k].1 (List.mem_map_of_mem (List.getElem_mem hk)))
    obtain ⟨a, ca, e1, e2⟩ := (h3 _ (List.getElem_mem hk)).ok n4
    rw [e1] at g6
    exact ⟨⟨cs, _, hg, hc _ _ g2, n1⟩, ⟨cs, _, hg, hc _ _ g3, n2⟩, ⟨cs, _, hg, hc _ _ g4, n3⟩, a, _, ca, ⟨cs, hg, hc _ _ g6⟩, by have := (inF_all (hi ps[k].1 (List.mem_map_of_mem (List.getElem_mem hk)))).2.1; omega, e2⟩
theorem BlksO.ok {B : Nat} {w : World} {v : Value} {bs : List Blk} {vv nb : Int} (h : BlksO B w v bs) (hb : ∀ b ∈ bs, (blkF b vv nb).1 = 0) (h0 : 0 < bs.length) : ∃ g c, v = .slice (some ⟨g, 0, none⟩) bs.length c ∧ B ≤ g ∧ ∀ j, j < bs.length → BlkOk B w g (j * 5) := by
  obtain ⟨ps, rfl, h2, h3⟩ := h
  rw [List.length_map] at h0 ⊢
  obtain ⟨g, c, cs, rfl, hbg, hg, hc⟩ := row_get h2 h0
  refine ⟨g, c, rfl, hbg, fun j hj => ?_⟩
  have hp : ps[j]? = some ps[j] := List.getElem?_eq_getElem hj
  obtain ⟨g0, _, g2, _, _⟩ := cellsB_get ps j _ hp
  obtain ⟨q1, q2, q3⟩ := blkF_all (hb ps[j].1 (List.mem_map_of_mem (List.getElem_mem hj)))
  obtain ⟨a, ca, e1, e2⟩ := (h3 _ (List.getElem_mem hj)).ok q2
  rw [e1] at g0
  exact ⟨⟨cs, _, hg, hc _ _ g2, endF_nn q3⟩, a, _, ca, ⟨cs, hg, hc _ _ g0⟩, by omega, e2⟩

/-! ### Behind: they are right -/
theorem inF_fit {k op d a b n d' a' b' v r : Int} {args args' : List Int} (h : inF ⟨k, op, d, a, b, n, args⟩ v = 0) (hd : d = 0 → d' = 0) (ha : a = 0 → a' = 0) (hb : b = 0 → b' = 0) (hd' : 0 ≤ d' ∧ d' < r) (ha' : 0 ≤ a' ∧ a' < r) (hb' : 0 ≤ b' ∧ b' < r) (hl : args'.length = args.length) (hx : ∀ x ∈ args', 0 ≤ x ∧ x < r) : inF ⟨k, op, d', a', b', n, args'⟩ r = 0 := by
  obtain ⟨h1, h2, _⟩ := inF_all h
  refine inF_zero ?_ (by simp only at h2 ⊢; omega) fun x hx' => ?_
  · unfold formed at h1 ⊢
    simp only [hl] at h1 ⊢
    (repeat' split) <;> simp_all
  · unfold named uses at hx'
    simp only at hx'
    rcases List.mem_append.1 hx' with hx' | hx'
    · split at hx'
      · simp at hx'
        subst hx'
        exact ha'
      · split at hx'
        · simp at hx'
          rcases hx' with rfl | rfl
          · exact ha'
          · exact hb'
        · split at hx'
          · exact hx x hx'
          · simp at hx'
    · split at hx'
      · simp at hx'
        subst hx'
        exact hd'
      · simp at hx'
theorem endF_fit {k a t l a' v r nb : Int} (h : endF ⟨k, a, t, l⟩ v nb = 0) (ha : a = 0 → a' = 0) (ha' : 0 ≤ a' ∧ a' < r) : endF ⟨k, a', t, l⟩ r nb = 0 := by
  obtain ⟨h1, _, h3⟩ := endF_all h
  refine endF_zero ?_ (fun _ => ha') h3
  unfold endFormed at h1 ⊢
  simp only at h1 ⊢
  (repeat' split) <;> simp_all
end Go.Proofs.Ytbjnhicikkjadaa
namespace Go.Proofs.Ytbjnhicikkjadaa
open Go.RowKit Ir

/-- An instruction, a block, code with each number of a register brought below r. -/
def modI (r : Int) (i : Ins) : Ins := ⟨i.k, i.op, i.d.tmod r, i.a.tmod r, i.b.tmod r, i.n, i.args.map (·.tmod r)⟩
def modB (r : Int) (b : Blk) : Blk := ⟨b.ins.map (modI r), ⟨b.e.k, b.e.a.tmod r, b.e.to, b.e.el⟩⟩
/-- What the maker makes, with no spills and fills put in. -/
def cod5 (a c : Int) (bs : List Int) (rg sl : Int) : Cod := ⟨(made a 0 c bs).p, 3 + rg % 6, max (made a 0 c bs).p 1 + sl % 8, (made a 0 c bs).bs.map (modB (3 + rg % 6))⟩
theorem cells7 (f : Ins × Value → Ins × Value) : ∀ (ps : List (Ins × Value)) (l : List Value), l.length = ps.length * 7 →
    (∀ j p, ps[j]? = some p → l[j * 7]? = some (.int .u8 (f p).1.k) ∧ l[j * 7 + 1]? = some (.int .u8 (f p).1.op) ∧ l[j * 7 + 2]? = some (.int .i64 (f p).1.d) ∧ l[j * 7 + 3]? = some (.int .i64 (f p).1.a) ∧ l[j * 7 + 4]? = some (.int .i64 (f p).1.b) ∧ l[j * 7 + 5]? = some (.int .i64 (f p).1.n) ∧ l[j * 7 + 6]? = some (f p).2) →
    l = cellsI (ps.map f)
  | [], l, hl, _ => List.eq_nil_of_length_eq_zero (by simpa using hl)
  | q :: ps, l, hl, h => by
    obtain ⟨a0, a1, a2, a3, a4, a5, a6, r, rfl⟩ := list7 (l := l) (by simp at hl; omega)
    · obtain ⟨h0, h1, h2, h3, h4, h5, h6⟩ := h 0 q rfl
      simp at h0 h1 h2 h3 h4 h5 h6
      have := cells7 f ps r (by simp at hl; omega) (by
        intro j p hp
        have hq := h (j + 1) p (by simpa using hp)
        simp only [Nat.add_mul, Nat.one_mul] at hq
        simpa using hq)
      rw [this, h0, h1, h2, h3, h4, h5, h6]
      simp [cellsI]
theorem cells5 (f : Blk × Value → Blk × Value) : ∀ (ps : List (Blk × Value)) (l : List Value), l.length = ps.length * 5 →
    (∀ j p, ps[j]? = some p → l[j * 5]? = some (f p).2 ∧ l[j * 5 + 1]? = some (.int .u8 (f p).1.e.k) ∧ l[j * 5 + 2]? = some (.int .i64 (f p).1.e.a) ∧ l[j * 5 + 3]? = some (.int .i64 (f p).1.e.to) ∧ l[j * 5 + 4]? = some (.int .i64 (f p).1.e.el)) →
    l = cellsB (ps.map f)
  | [], l, hl, _ => List.eq_nil_of_length_eq_zero (by simpa using hl)
  | q :: ps, l, hl, h => by
    obtain ⟨a0, a1, a2, a3, a4, r, rfl⟩ := list5 (l := l) (by simp at hl; omega)
    · obtain ⟨h0, h1, h2, h3, h4⟩ := h 0 q rfl
      simp at h0 h1 h2 h3 h4
      have := cells5 f ps r (by simp at hl; omega) (by
        intro j p hp
        have hq := h (j + 1) p (by simpa using hp)
        simp only [Nat.add_mul, Nat.one_mul] at hq
        simpa using hq)
      rw [this, h0, h1, h2, h3, h4]
      simp [cellsB]
section
variable {B B' : Nat} {r : Int} {w w' : World}
theorem ArgsO.fit {v : Value} {xs : List Int} (h : ArgsO B w v xs) (hm : Md B' r w w') {a : Option Addr} {c : Nat} (hv : v = .slice a xs.length c) (hd : ArgsDone r w' a xs.length) : ArgsO B w' v (xs.map (·.tmod r)) ∧ ∀ x ∈ xs.map (·.tmod r), 0 ≤ x ∧ x < r := by
  rcases h.2 with ⟨rfl, h0⟩ | ⟨g, cap, cur, rfl, hb, hg, hnc, hcm, hcs, ht⟩
  · have : xs = [] := List.eq_nil_of_length_eq_zero (by simpa using h0)
    subst this
    exact ⟨ArgsO.nil _ _, fun x hx => by simp at hx⟩
  · obtain ⟨cs', e1, e2, e3⟩ := hm.cells g cur 3 hg
    simp only [Value.slice.injEq] at hv
    obtain ⟨rfl, _, rfl⟩ := hv
    have key : ∀ j, (hj : j < xs.length) → cs'[j]? = some (.int .i64 (xs[j].tmod r)) ∧ 0 ≤ xs[j].tmod r ∧ xs[j].tmod r < r := by
      intro j hj
      obtain ⟨g', eg, cs2, x, q1, q2, q3, q4⟩ := hd j hj
      simp only [Option.some.injEq, Addr.mk.injEq, and_true] at eg
      subst eg
      rw [e1] at q1
      simp only [Option.some.injEq, Obj.cells.injEq] at q1
      obtain ⟨rfl, _⟩ := q1
      obtain ⟨c, c1, c2⟩ := e3 j _ q2
      have hc : cur[j]? = some (.int .i64 xs[j]) := by
        have h2 : (cur.toList.take (xs.length * 1))[j]? = some (.int .i64 xs[j]) := by
          rw [ht]
          simp [hj]
        rw [List.getElem?_take_of_lt (by omega)] at h2
        simpa using h2
      rw [hc] at c1
      simp only [Option.some.injEq] at c1
      subst c1
      have hx : x = xs[j].tmod r := by
        rcases c2 with h | ⟨_, x', y, h1, h2, h3⟩
        · simp only [Value.int.injEq, true_and] at h
          rw [h] at q3 q4 ⊢
          exact (Int.tmod_eq_of_lt q3 q4).symm
        · simp only [Value.int.injEq, true_and] at h1 h2
          subst h1 h2
          exact h3.eq ⟨q3, q4⟩
      rw [← hx]
      exact ⟨q2, q3, q4⟩
    refine ⟨⟨by simp, .inr ⟨g, cap, cs', by rw [List.length_map], hb, e1, by rw [List.length_map]; exact hnc, hcm, by rw [e2, hcs], ?_⟩⟩, fun x hx => ?_⟩
    · apply List.ext_getElem?
      intro j
      by_cases hj : j < xs.length
      · rw [List.getElem?_take_of_lt (by rw [List.length_map]; omega)]
        have := (key j hj).1
        simp [hj] at this ⊢
        exact this
      · rw [List.getElem?_eq_none (by simp; omega), List.getElem?_eq_none (by simp; omega)]
    · obtain ⟨y, hy, rfl⟩ := List.mem_map.1 hx
      obtain ⟨j, hj, rfl⟩ := List.mem_iff_getElem.1 hy
      exact (key j hj).2
/-- A row's cells behind. -/
theorem Md.row {g : Nat} {cur cs' : Array Value} {t : TypeId} (hm : Md B' r w w') (hg : w.heap[g]? = some (Obj.cells cur t (0, 0))) (e1 : w'.heap[g]? = some (Obj.cells cs' t (0, 0))) {o : Nat} {c : Value} (hc : cur[o]? = some c) : ∃ c', cs'[o]? = some c' ∧ (may t o = false → c' = c) ∧ (∀ x, c = .int .i64 x → ∃ y, c' = .int .i64 y ∧ Rm r x y) ∧ (∀ a n k, c = .slice a n k → c' = c) := by
  obtain ⟨cs2, c', a1, a2, a3⟩ := hm.at hg hc
  rw [e1] at a1
  simp only [Option.some.injEq, Obj.cells.injEq] at a1
  obtain ⟨rfl, _⟩ := a1
  refine ⟨c', a2, fun hf => ?_, fun x hx => ?_, fun a n k hk => ?_⟩
  · rcases a3 with h | ⟨h, _⟩
    · exact h
    · rw [hf] at h
      cases h
  · rcases a3 with rfl | ⟨_, x', y, h1, h2, h3⟩
    · exact ⟨x, hx, Rm.refl _ _⟩
    · rw [hx] at h1
      simp only [Value.int.injEq, true_and] at h1
      subst h1
      exact ⟨y, h2, h3⟩
  · rcases a3 with h | ⟨_, x', y, h1, _⟩
    · exact h
    · rw [hk] at h1
      cases h1
theorem Sm.of {g o : Nat} {cs' : Array Value} {t : TypeId} (h : Sm t r w' g o) (e1 : w'.heap[g]? = some (Obj.cells cs' t (0, 0))) {c : Value} (hc : cs'[o]? = some c) : ∀ y, c = .int .i64 y → 0 ≤ y ∧ y < r := by
  obtain ⟨cs2, x, q1, q2, q3, q4⟩ := h
  rw [e1] at q1
  simp only [Option.some.injEq, Obj.cells.injEq] at q1
  obtain ⟨rfl, _⟩ := q1
  rw [hc] at q2
  intro y hy
  rw [hy] at q2
  simp only [Option.some.injEq, Value.int.injEq, true_and] at q2
  subst q2
  exact ⟨q3, q4⟩
theorem Sli.of {g o : Nat} {cs' : Array Value} {t : TypeId} {a : Option Addr} {n k : Nat} (h : Sli t w' g o a n k) (e1 : w'.heap[g]? = some (Obj.cells cs' t (0, 0))) : cs'[o]? = some (.slice a n k) := by
  obtain ⟨cs2, q1, q2⟩ := h
  rw [e1] at q1
  simp only [Option.some.injEq, Obj.cells.injEq] at q1
  obtain ⟨rfl, _⟩ := q1
  exact q2
theorem take_get {cs' : Array Value} {m o : Nat} {c : Value} (h : cs'[o]? = some c) (ho : o < m) : (cs'.toList.take m)[o]? = some c := by
  rw [List.getElem?_take, if_pos ho]
  simpa using h
theorem InssO.fit {v : Value} {is : List Ins} {vv : Int} (h : InssO B w v is) (hi : ∀ i ∈ is, inF i vv = 0) (hm : Md B' r w w') {a : Option Addr} {c : Nat} (hv : v = .slice a is.length c) (hd : InssDone r w' a is.length) : InssO B w' v (is.map (modI r)) ∧ ∀ i ∈ is, inF (modI r i) r = 0 := by
  obtain ⟨ps, rfl, h2, h3⟩ := h
  rw [List.length_map] at hv hd
  rcases h2.2 with ⟨rfl, h0⟩ | ⟨g, cap, cur, rfl, hb, hg, hnc, hcm, hcs, ht⟩
  · have : ps = [] := List.eq_nil_of_length_eq_zero (by simpa using h0)
    subst this
    exact ⟨InssO.nil _ _, fun x hx => by simp at hx⟩
  · simp only [Value.slice.injEq] at hv
    obtain ⟨rfl, _, rfl⟩ := hv
    obtain ⟨cs', e1, e2, _⟩ := hm.cells g cur 86 hg
    have hlen : (cs'.toList.take (ps.length * 7)).length = ps.length * 7 := by
      have hsz : cs'.toList.length = cap * 7 := by rw [← hcs, ← e2]; simp
      rw [List.length_take, hsz]
      have := Nat.mul_le_mul_right 7 hnc
      omega
    have hcur : ∀ (o : Nat) (x : Value), (cellsI ps)[o]? = some x → cur[o]? = some x := by
      intro o x hx
      rw [← ht, List.getElem?_take] at hx
      split at hx
      · simpa using hx
      · cases hx
    have key : ∀ j p, ps[j]? = some p → (cs'[j * 7]? = some (.int .u8 p.1.k) ∧ cs'[j * 7 + 1]? = some (.int .u8 p.1.op) ∧ cs'[j * 7 + 2]? = some (.int .i64 (p.1.d.tmod r)) ∧ cs'[j * 7 + 3]? = some (.int .i64 (p.1.a.tmod r)) ∧ cs'[j * 7 + 4]? = some (.int .i64 (p.1.b.tmod r)) ∧ cs'[j * 7 + 5]? = some (.int .i64 p.1.n) ∧ cs'[j * 7 + 6]? = some p.2) ∧ ArgsO B w' p.2 (modI r p.1).args ∧ inF (modI r p.1) r = 0 := by
      intro j p hp
      have hj : j < ps.length := (List.getElem?_eq_some_iff.1 hp).1
      obtain ⟨g0, g1, g2, g3, g4, g5, g6⟩ := cellsI_get ps j _ hp
      obtain ⟨c0, x0, y0, _⟩ := hm.row hg e1 (hcur _ _ g0)
      obtain ⟨c1, x1, y1, _⟩ := hm.row hg e1 (hcur _ _ g1)
      obtain ⟨c2, x2, _, y2, _⟩ := hm.row hg e1 (hcur _ _ g2)
      obtain ⟨c3, x3, _, y3, _⟩ := hm.row hg e1 (hcur _ _ g3)
      obtain ⟨c4, x4, _, y4, _⟩ := hm.row hg e1 (hcur _ _ g4)
      obtain ⟨c5, x5, y5, _⟩ := hm.row hg e1 (hcur _ _ g5)
      obtain ⟨c6, x6, _, _, y6⟩ := hm.row hg e1 (hcur _ _ g6)
      have m0 : may 86 (j * 7) = false := by simp [may]
      have m1 : may 86 (j * 7 + 1) = false := by simp [may]
      have m5 : may 86 (j * 7 + 5) = false := by simp [may]
      have z0 := y0 m0
      have z1 := y1 m1
      have z5 := y5 m5
      subst z0 z1 z5
      obtain ⟨d', rfl, hd0⟩ := y2 _ rfl
      obtain ⟨a', rfl, ha0⟩ := y3 _ rfl
      obtain ⟨b', rfl, hb0⟩ := y4 _ rfl
      obtain ⟨g', eg, s2, s3, s4, ua, un, uc, sl, ad⟩ := hd j hj
      simp only [Option.some.injEq, Addr.mk.injEq, and_true] at eg
      subst eg
      have hpm := List.mem_of_getElem? hp
      have hA := h3 _ hpm
      obtain ⟨ua', uc', hsl⟩ := hA.v.slice
      have z6 := y6 _ _ _ hsl
      subst z6
      have hs6 := sl.of e1
      rw [x6] at hs6
      have hs6 := Option.some.inj hs6
      rw [hsl] at hs6
      simp only [Value.slice.injEq] at hs6
      obtain ⟨rfl, rfl, rfl⟩ := hs6
      obtain ⟨l2, l3⟩ := hA.fit hm hsl ad
      have hin := hi p.1 (List.mem_map_of_mem hpm)
      have q2 := s2.of e1 x2 _ rfl
      have q3 := s3.of e1 x3 _ rfl
      have q4 := s4.of e1 x4 _ rfl
      have ed := hd0.eq q2
      have ea := ha0.eq q3
      have eb := hb0.eq q4
      have hf := inF_fit (d' := d') (a' := a') (b' := b') (r := r) (args' := p.1.args.map (·.tmod r)) hin hd0.1 ha0.1 hb0.1 q2 q3 q4 (by rw [List.length_map]) l3
      rw [ed, ea, eb] at hf
      rw [← ed, ← ea, ← eb]
      refine ⟨⟨x0, x1, x2, x3, x4, x5, x6⟩, l2, ?_⟩
      exact hf
    have hcells : cs'.toList.take (ps.length * 7) = cellsI (ps.map fun p => (modI r p.1, p.2)) := cells7 (fun p => (modI r p.1, p.2)) ps _ hlen (by
      intro j p hp
      have hj : j < ps.length := (List.getElem?_eq_some_iff.1 hp).1
      obtain ⟨⟨x0, x1, x2, x3, x4, x5, x6⟩, _⟩ := key j p hp
      exact ⟨take_get x0 (by omega), take_get x1 (by omega), take_get x2 (by omega), take_get x3 (by omega), take_get x4 (by omega), take_get x5 (by omega), take_get x6 (by omega)⟩)
    refine ⟨⟨ps.map fun p => (modI r p.1, p.2), by simp, ⟨by rw [cellsI_len], .inr ⟨g, cap, cs', by rw [List.length_map], hb, e1, by rw [List.length_map]; exact hnc, hcm, by rw [e2, hcs], by rw [List.length_map]; exact hcells⟩⟩, fun q hq => ?_⟩, fun i hi' => ?_⟩
    · obtain ⟨p, hp, rfl⟩ := List.mem_map.1 hq
      obtain ⟨j, hj, rfl⟩ := List.mem_iff_getElem.1 hp
      exact (key j _ (List.getElem?_eq_getElem hj)).2.1
    · obtain ⟨p, hp, rfl⟩ := List.mem_map.1 hi'
      obtain ⟨j, hj, rfl⟩ := List.mem_iff_getElem.1 hp
      exact (key j _ (List.getElem?_eq_getElem hj)).2.2
theorem BlksO.fit {v : Value} {bs : List Blk} {vv nb : Int} (s : Int) (h : BlksO B w v bs) (hbs : ∀ b ∈ bs, (blkF b vv nb).1 = 0) (hm : Md B' r w w') {g0 c0 : Nat} (hv : v = .slice (some ⟨g0, 0, none⟩) bs.length c0) (hd : ∀ j, j < bs.length → BlkDone r w' g0 (j * 5)) :
    BlksO B w' v (bs.map (modB r)) ∧ ∀ b ∈ bs.map (modB r), (mbF b r s nb).1 = 0 ∧ b.ins.length ≤ 32 := by
  obtain ⟨ps, rfl, h2, h3⟩ := h
  rw [List.length_map] at hv hd
  rcases h2.2 with ⟨rfl, h0⟩ | ⟨g, cap, cur, rfl, hb, hg, hnc, hcm, hcs, ht⟩
  · simp at hv
  · simp only [Value.slice.injEq, Option.some.injEq, Addr.mk.injEq, and_true] at hv
    obtain ⟨rfl, _, rfl⟩ := hv
    obtain ⟨cs', e1, e2, _⟩ := hm.cells g cur 82 hg
    have hlen : (cs'.toList.take (ps.length * 5)).length = ps.length * 5 := by
      have hsz : cs'.toList.length = cap * 5 := by rw [← hcs, ← e2]; simp
      rw [List.length_take, hsz]
      have := Nat.mul_le_mul_right 5 hnc
      omega
    have hcur : ∀ (o : Nat) (x : Value), (cellsB ps)[o]? = some x → cur[o]? = some x := by
      intro o x hx
      rw [← ht, List.getElem?_take] at hx
      split at hx
      · simpa using hx
      · cases hx
    have key : ∀ j p, ps[j]? = some p → (cs'[j * 5]? = some p.2 ∧ cs'[j * 5 + 1]? = some (.int .u8 p.1.e.k) ∧ cs'[j * 5 + 2]? = some (.int .i64 (p.1.e.a.tmod r)) ∧ cs'[j * 5 + 3]? = some (.int .i64 p.1.e.to) ∧ cs'[j * 5 + 4]? = some (.int .i64 p.1.e.el)) ∧ InssO B w' p.2 (modB r p.1).ins ∧ (mbF (modB r p.1) r s nb).1 = 0 ∧ (modB r p.1).ins.length ≤ 32 := by
      intro j p hp
      have hj : j < ps.length := (List.getElem?_eq_some_iff.1 hp).1
      obtain ⟨g0, g1, g2, g3, g4⟩ := cellsB_get ps j _ hp
      obtain ⟨c0, x0, _, _, y0⟩ := hm.row hg e1 (hcur _ _ g0)
      obtain ⟨c1, x1, y1, _⟩ := hm.row hg e1 (hcur _ _ g1)
      obtain ⟨c2, x2, _, y2, _⟩ := hm.row hg e1 (hcur _ _ g2)
      obtain ⟨c3, x3, y3, _⟩ := hm.row hg e1 (hcur _ _ g3)
      obtain ⟨c4, x4, y4, _⟩ := hm.row hg e1 (hcur _ _ g4)
      have m1 : may 82 (j * 5 + 1) = false := by simp [may]
      have m3 : may 82 (j * 5 + 3) = false := by simp [may]
      have m4 : may 82 (j * 5 + 4) = false := by simp [may]
      have z1 := y1 m1
      have z3 := y3 m3
      have z4 := y4 m4
      subst z1 z3 z4
      obtain ⟨a', rfl, ha0⟩ := y2 _ rfl
      obtain ⟨s2, ua, un, uc, sl, ad⟩ := hd j hj
      have hpm := List.mem_of_getElem? hp
      have hI := h3 _ hpm
      obtain ⟨ua', uc', hsl⟩ := hI.v.slice
      have z0 := y0 _ _ _ hsl
      subst z0
      have hs0 := sl.of e1
      rw [x0] at hs0
      have hs0 := Option.some.inj hs0
      rw [hsl] at hs0
      simp only [Value.slice.injEq] at hs0
      obtain ⟨rfl, rfl, rfl⟩ := hs0
      obtain ⟨k1, k2, k3⟩ := blkF_all (hbs p.1 (List.mem_map_of_mem hpm))
      obtain ⟨l2, l3⟩ := hI.fit k2 hm hsl ad
      have q2 := s2.of e1 x2 _ rfl
      have ea := ha0.eq q2
      have he := endF_fit (a' := a') (r := r) k3 ha0.1 q2
      rw [ea] at he
      rw [← ea]
      refine ⟨⟨x0, x1, x2, x3, x4⟩, l2, ?_, by simp only [modB, List.length_map]; omega⟩
      refine mbF_zero (by simp only [modB, List.length_map]; omega) (fun i hi => ?_) (ofR_zero.2 he)
      obtain ⟨i', hi', rfl⟩ := List.mem_map.1 hi
      exact mF_plain (l3 i' hi')
    have hcells : cs'.toList.take (ps.length * 5) = cellsB (ps.map fun p => (modB r p.1, p.2)) := cells5 (fun p => (modB r p.1, p.2)) ps _ hlen (by
      intro j p hp
      have hj : j < ps.length := (List.getElem?_eq_some_iff.1 hp).1
      obtain ⟨⟨x0, x1, x2, x3, x4⟩, _⟩ := key j p hp
      exact ⟨take_get x0 (by omega), take_get x1 (by omega), take_get x2 (by omega), take_get x3 (by omega), take_get x4 (by omega)⟩)
    refine ⟨⟨ps.map fun p => (modB r p.1, p.2), by simp, ⟨by rw [cellsB_len], .inr ⟨g, cap, cs', by rw [List.length_map], hb, e1, by rw [List.length_map]; exact hnc, hcm, by rw [e2, hcs], by rw [List.length_map]; exact hcells⟩⟩, fun q hq => ?_⟩, fun i hi' => ?_⟩
    · obtain ⟨p, hp, rfl⟩ := List.mem_map.1 hq
      obtain ⟨j, hj, rfl⟩ := List.mem_iff_getElem.1 hp
      exact (key j _ (List.getElem?_eq_getElem hj)).2.1
    · rw [List.map_map] at hi'
      obtain ⟨p, hp, rfl⟩ := List.mem_map.1 hi'
      obtain ⟨j, hj, rfl⟩ := List.mem_iff_getElem.1 hp
      exact (key j _ (List.getElem?_eq_getElem hj)).2.2
end
end Go.Proofs.Ytbjnhicikkjadaa
namespace Go.Proofs.Ytbjnhicikkjadaa
open Go.RowKit Ir

/-- What is known of each temporary. -/
def G32 (B3 g jo kk : Nat) (ui c1 c2 : Value) (X : Ins) (ps : List (Ins × Value)) (l : Nat → Bool) : Tmp → Value → World → Prop
  | 212, xx, _ => xx = .pointer (some ⟨g, jo, none⟩)
  | 213, xx, ww => l 8 = false → ∃ h, xx = .slice (some ⟨h, 0, none⟩) 0 0 ∧ B3 ≤ h ∧ ww.heap[h]? = some (Obj.cells #[] 86 (0, 0))
  | 214, xx, _ => xx = .pointer (some ⟨g, jo, none⟩)
  | 215, xx, _ => xx = .pointer (some ⟨g, jo, none⟩)
  | 216, xx, _ => xx = .pointer (some ⟨g, jo, none⟩)
  | 217, xx, _ => xx = ui
  | 218, xx, _ => xx = .int .i64 (kk : Nat)
  | 219, xx, _ => xx = c1
  | 220, xx, ww => l 8 = true → l 11 = false → ww.ownsRow B3 86 7 xx (ps.take kk).length (cellsI (ps.take kk))
  | 221, xx, _ => xx = insV X (.slice none 0 0)
  | 222, xx, ww => l 11 = false → ∃ h, xx = .slice (some ⟨h, 0, none⟩) 1 1 ∧ B3 ≤ h ∧ ww.heap[h]? = some (Obj.cells (rowI X (.slice none 0 0)) 86 (0, 0))
  | 223, xx, ww => l 11 = true → l 18 = false → ww.ownsRow B3 86 7 xx (ps.take kk ++ [(X, Value.slice none 0 0)]).length (cellsI (ps.take kk ++ [(X, Value.slice none 0 0)]))
  | 224, xx, _ => xx = .pointer (some ⟨g, jo, none⟩)
  | 225, xx, _ => xx = .pointer (some ⟨g, jo, none⟩)
  | 226, xx, _ => xx = .pointer (some ⟨g, jo, none⟩)
  | 227, xx, _ => xx = ui
  | 228, xx, _ => xx = .int .i64 (kk : Nat)
  | 229, xx, _ => xx = c2
  | 230, xx, ww => l 18 = true → l 21 = false → ww.ownsRow B3 86 7 xx ((ps.take kk ++ [(X, Value.slice none 0 0)]) ++ ps.drop kk).length (cellsI ((ps.take kk ++ [(X, Value.slice none 0 0)]) ++ ps.drop kk))
  | 231, xx, _ => xx = .pointer (some ⟨g, jo, none⟩)
  | 232, xx, _ => xx = .pointer (some ⟨g, jo, none⟩)
  | _, _, _ => True
/-- What stands in the world. -/
structure S32 (g jo : Nat) (w3 : World) (qs : List (Ins × Value)) (l : Nat → Bool) (W : World) : Prop where
  below : l 21 = false → Below w3.heap.size w3 W
  done : l 21 = true → ∃ W1 v, Below w3.heap.size w3 W1 ∧ W1.ownsRow w3.heap.size 86 7 v qs.length (cellsI qs) ∧ W = W1.setCell ⟨g, jo, none⟩ v
theorem S32.skip {g jo : Nat} {w3 : World} {qs : List (Ins × Value)} {l : Nat → Bool} {W : World} (h : S32 g jo w3 qs l W) {i : Nat} (hi : i ≠ 21) : S32 g jo w3 qs (upd l i) W := by
  have u : upd l i 21 = l 21 := if_neg (fun e => hi e.symm)
  exact ⟨by rw [u]; exact h.below, by rw [u]; exact h.done⟩
section
variable {B3 g jo kk : Nat} {ui c1 c2 : Value} {X : Ins} {ps : List (Ins × Value)} {l : Nat → Bool} {t : Tmp} {y : Value} {W W' : World}
theorem G32_mono {j : Nat} (h : G32 B3 g jo kk ui c1 c2 X ps l t y W) (h8 : j ≠ 8) (h11 : j ≠ 11) (h18 : j ≠ 18) (h21 : j ≠ 21) (hb : Below W.heap.size W W') : G32 B3 g jo kk ui c1 c2 X ps (upd l j) t y W' := by
  have u8 : upd l j 8 = l 8 := if_neg (fun e => h8 e.symm)
  have u11 : upd l j 11 = l 11 := if_neg (fun e => h11 e.symm)
  have u18 : upd l j 18 = l 18 := if_neg (fun e => h18 e.symm)
  have u21 : upd l j 21 = l 21 := if_neg (fun e => h21 e.symm)
  have hk : ∀ (q : Nat) (cs : Array Value) (e : TypeId), W.heap[q]? = some (Obj.cells cs e (0, 0)) → W'.heap[q]? = some (Obj.cells cs e (0, 0)) := fun q cs e hq => Keeps.below (T := fun _ => true) hb q cs e (0, 0) rfl hq
  unfold G32 at h ⊢
  split
  all_goals
    first
      | exact h
      | (intro e1; rw [u8] at e1; obtain ⟨q, a1, a2, a3⟩ := h e1; exact ⟨q, a1, a2, hk _ _ _ a3⟩)
      | (intro e1; rw [u11] at e1; obtain ⟨q, a1, a2, a3⟩ := h e1; exact ⟨q, a1, a2, hk _ _ _ a3⟩)
      | (intro e1 e2; rw [u8] at e1; rw [u11] at e2; exact owns_below (h e1 e2) hb)
      | (intro e1 e2; rw [u11] at e1; rw [u18] at e2; exact owns_below (h e1 e2) hb)
      | (intro e1 e2; rw [u18] at e1; rw [u21] at e2; exact owns_below (h e1 e2) hb)
      | trivial
theorem G32_8 {h0 : Nat} (h : G32 B3 g jo kk ui c1 c2 X ps l t y W) (ht : t ≠ 220) (l11 : l 11 = false) (l18 : l 18 = false) (h0r : W.heap[h0]? = some (Obj.cells #[] 86 (0, 0))) (hg : W.grownBy W' (some h0)) : G32 B3 g jo kk ui c1 c2 X ps (upd l 8) t y W' := by
  have u8 : upd l 8 8 = true := rfl
  have u11 : upd l 8 11 = l 11 := rfl
  have u18 : upd l 8 18 = l 18 := rfl
  unfold G32 at h ⊢
  split
  all_goals
    first
      | exact h
      | exact absurd rfl ht
      | (intro e1; rw [u8] at e1; exact absurd e1 (by decide))
      | (intro e1; rw [u11] at e1; obtain ⟨q, a1, a2, a3⟩ := h e1; refine ⟨q, a1, a2, ?_⟩; rw [hg.block q (Array.getElem?_eq_some_iff.1 a3).1 (fun e => by simp only [Option.some.injEq] at e; subst e; rw [h0r] at a3; simp [rowI] at a3)]; exact a3)
      | (intro e1 e2; rw [u11, l11] at e1; exact absurd e1 (by decide))
      | (intro e1 e2; rw [u18, l18] at e1; exact absurd e1 (by decide))
      | trivial
theorem G32_11 (h : G32 B3 g jo kk ui c1 c2 X ps l t y W) (ht : t ≠ 223) (l8 : l 8 = true) (l18 : l 18 = false) : G32 B3 g jo kk ui c1 c2 X ps (upd l 11) t y W' := by
  have u8 : upd l 11 8 = l 8 := rfl
  have u11 : upd l 11 11 = true := rfl
  have u18 : upd l 11 18 = l 18 := rfl
  unfold G32 at h ⊢
  split
  all_goals
    first
      | exact h
      | exact absurd rfl ht
      | (intro e1; rw [u8, l8] at e1; exact absurd e1 (by decide))
      | (intro e1; rw [u11] at e1; exact absurd e1 (by decide))
      | (intro e1 e2; rw [u11] at e2; exact absurd e2 (by decide))
      | (intro e1 e2; rw [u18, l18] at e1; exact absurd e1 (by decide))
      | trivial
theorem G32_18 (h : G32 B3 g jo kk ui c1 c2 X ps l t y W) (ht : t ≠ 230) (l8 : l 8 = true) (l11 : l 11 = true) : G32 B3 g jo kk ui c1 c2 X ps (upd l 18) t y W' := by
  have u8 : upd l 18 8 = l 8 := rfl
  have u11 : upd l 18 11 = l 11 := rfl
  have u18 : upd l 18 18 = true := rfl
  unfold G32 at h ⊢
  split
  all_goals
    first
      | exact h
      | exact absurd rfl ht
      | (intro e1; rw [u8, l8] at e1; exact absurd e1 (by decide))
      | (intro e1; rw [u11, l11] at e1; exact absurd e1 (by decide))
      | (intro e1 e2; rw [u11, l11] at e2; exact absurd e2 (by decide))
      | (intro e1 e2; rw [u18] at e2; exact absurd e2 (by decide))
      | trivial
theorem G32_21 (h : G32 B3 g jo kk ui c1 c2 X ps l t y W) (l8 : l 8 = true) (l11 : l 11 = true) (l18 : l 18 = true) : G32 B3 g jo kk ui c1 c2 X ps (upd l 21) t y W' := by
  have u8 : upd l 21 8 = l 8 := rfl
  have u11 : upd l 21 11 = l 11 := rfl
  have u18 : upd l 21 18 = l 18 := rfl
  have u21 : upd l 21 21 = true := rfl
  unfold G32 at h ⊢
  split
  all_goals
    first
      | exact h
      | (intro e1; rw [u8, l8] at e1; exact absurd e1 (by decide))
      | (intro e1; rw [u11, l11] at e1; exact absurd e1 (by decide))
      | (intro e1 e2; rw [u11, l11] at e2; exact absurd e2 (by decide))
      | (intro e1 e2; rw [u18, l18] at e2; exact absurd e2 (by decide))
      | (intro e1 e2; rw [u21] at e2; exact absurd e2 (by decide))
      | trivial
end

end Go.Proofs.Ytbjnhicikkjadaa
namespace Go.Proofs.Ytbjnhicikkjadaa
open Go.RowKit Ir

def rowC (p r s : Int) (u : Value) : Array Value := #[.int .i64 p, .int .i64 r, .int .i64 s, u]
theorem rowC_cells {w : World} {g : Nat} {p r s : Int} {u : Value} (h : w.heap[g]? = some (Obj.cells (rowC p r s u) 42 (0, 0))) : w.cell? ⟨g, 0, none⟩ = some (.int .i64 p) ∧ w.cell? ⟨g, 1, none⟩ = some (.int .i64 r) ∧ w.cell? ⟨g, 2, none⟩ = some (.int .i64 s) ∧ w.cell? ⟨g, 3, none⟩ = some u := by
  refine ⟨?_, ?_, ?_, ?_⟩
  all_goals (rw [cell_of_row _ _ _ _ _ _ h]; rfl)
/-- What stands while spills and fills are put in. -/
structure I5 (B pc pr g gc nb : Nat) (p r s : Int) (w : World) (i : Nat) (bs2 : List Blk) (wr : World) : Prop where
  own : BlksO B wr (.slice (some ⟨g, 0, none⟩) nb gc) bs2
  len : bs2.length = nb
  right : ∀ b ∈ bs2, (mbF b r s nb).1 = 0 ∧ b.ins.length ≤ 32 + i
  pcr : wr.heap[pc]? = some (Obj.cells (rowC p r s (.slice (some ⟨g, 0, none⟩) nb gc)) 42 (0, 0))
  prr : wr.heap[pr]? = some (Obj.cells (rowC 0 0 0 (.slice none 0 0)) 42 (0, 0))
  below : Below B w wr
  sz : B ≤ wr.heap.size
  rng : ∀ b ∈ bs2, ∀ i ∈ b.ins, I64 i.n
section
variable {B pc pr g gc nb : Nat} {p r s : Int} {w : World} {i : Nat} {bs2 : List Blk} {w1 w2 : World}
theorem I5.next (h : I5 B pc pr g gc nb p r s w i bs2 w1) (hb : Below w1.heap.size w1 w2) : I5 B pc pr g gc nb p r s w i bs2 w2 :=
  ⟨h.own.keeps (Keeps.below hb), h.len, h.right, Keeps.below (T := fun _ => true) hb _ _ _ _ rfl h.pcr, Keeps.below (T := fun _ => true) hb _ _ _ _ rfl h.prr, h.below.trans (hb.mono h.sz), Nat.le_trans h.sz hb.size, h.rng⟩
theorem I5.step {wd : World} (h : I5 B pc pr g gc nb p r s w i bs2 wd) {jb : Nat} (hj : jb < bs2.length) {ps : List (Ins × Value)} (hps : ps.map (·.1) = bs2[jb].ins) (hargs : ∀ q ∈ ps, ArgsO B wd q.2 q.1.args) {X : Ins} (hX : mF X r s = 0) (hXa : X.args = []) (hXn : I64 X.n) (hi : i < 60) (kk : Nat) {W1 : World} {v : Value}
    (hb : Below wd.heap.size wd W1) (hv : W1.ownsRow wd.heap.size 86 7 v ((ps.take kk ++ [(X, Value.slice none 0 0)]) ++ ps.drop kk).length (cellsI ((ps.take kk ++ [(X, Value.slice none 0 0)]) ++ ps.drop kk))) :
    I5 B pc pr g gc nb p r s w (i + 3) (bs2.set jb ⟨((ps.take kk ++ [(X, Value.slice none 0 0)]) ++ ps.drop kk).map (·.1), bs2[jb].e⟩) (W1.setCell ⟨g, jb * 5, none⟩ v) := by
  have h1 := h.next hb
  have hmem : ∀ q ∈ ((ps.take kk ++ [(X, Value.slice none 0 0)]) ++ ps.drop kk), q ∈ ps ∨ q = (X, Value.slice none 0 0) := by
    intro q hq
    rcases List.mem_append.1 hq with hq | hq
    · rcases List.mem_append.1 hq with hq | hq
      · exact .inl (List.mem_of_mem_take hq)
      · simp at hq
        exact .inr hq
    · exact .inl (List.mem_of_mem_drop hq)
  have hO : InssO B W1 v (((ps.take kk ++ [(X, Value.slice none 0 0)]) ++ ps.drop kk).map (·.1)) := by
    refine ⟨_, rfl, owns_mono hv h.sz, fun q hq => ?_⟩
    rcases hmem q hq with hq | rfl
    · exact (hargs q hq).keeps (Keeps.below hb)
    · simp only [hXa]
      exact ArgsO.nil _ _
  obtain ⟨hBg, cs, hcs⟩ := h1.own.row
  have hk : Keeps (fun t => t == 42) W1 (W1.setCell ⟨g, jb * 5, none⟩ v) := Keeps.set hcs rfl v
  refine ⟨h1.own.put jb hj hO, by rw [List.length_set]; exact h.len, fun b hbm => ?_, hk _ _ _ _ rfl h1.pcr, hk _ _ _ _ rfl h1.prr, h1.below.setCell (p := ⟨g, jb * 5, none⟩) hBg v, by simpa using h1.sz, fun b hbm => ?_⟩
  rotate_left
  · rcases List.mem_or_eq_of_mem_set hbm with hbm | rfl
    · exact h.rng b hbm
    · intro q hq
      obtain ⟨pq, hpq, rfl⟩ := List.mem_map.1 hq
      rcases hmem pq hpq with hpq | rfl
      · exact h.rng _ (List.getElem_mem hj) _ (by rw [← hps]; exact List.mem_map_of_mem hpq)
      · exact hXn
  rcases List.mem_or_eq_of_mem_set hbm with hbm | rfl
  · obtain ⟨q1, q2⟩ := h.right b hbm
    exact ⟨q1, by omega⟩
  · obtain ⟨q1, q2⟩ := h.right _ (List.getElem_mem hj)
    obtain ⟨k1, k2, k3⟩ := mbF_all q1
    have hlen : (((ps.take kk ++ [(X, Value.slice none 0 0)]) ++ ps.drop kk).map (·.1)).length = bs2[jb].ins.length + 1 := by
      rw [← hps]
      simp only [List.length_map, List.length_append, List.length_take, List.length_drop, List.length_cons, List.length_nil]
      omega
    refine ⟨mbF_zero ?_ ?_ k3, ?_⟩
    · simp only [hlen]
      omega
    · intro q hq
      obtain ⟨pq, hpq, rfl⟩ := List.mem_map.1 hq
      rcases hmem pq hpq with hpq | rfl
      · exact k2 _ (by rw [← hps]; exact List.mem_map_of_mem hpq)
      · exact hX
    · simp only [hlen]
      omega
theorem set4 {w : World} {g : Nat} {x0 x1 x2 x3 : Value} (a b c d : Value) (r0 : w.cell? ⟨g, 0, none⟩ = some x0) (r1 : w.cell? ⟨g, 1, none⟩ = some x1) (r2 : w.cell? ⟨g, 2, none⟩ = some x2) (r3 : w.cell? ⟨g, 3, none⟩ = some x3) :
    (w.setCell ⟨g, 0, none⟩ a).cell? ⟨g, 0, none⟩ = some a ∧ ((w.setCell ⟨g, 0, none⟩ a).setCell ⟨g, 1, none⟩ b).cell? ⟨g, 1, none⟩ = some b ∧ (((w.setCell ⟨g, 0, none⟩ a).setCell ⟨g, 1, none⟩ b).setCell ⟨g, 2, none⟩ c).cell? ⟨g, 2, none⟩ = some c ∧ ((((w.setCell ⟨g, 0, none⟩ a).setCell ⟨g, 1, none⟩ b).setCell ⟨g, 2, none⟩ c).setCell ⟨g, 3, none⟩ d).cell? ⟨g, 3, none⟩ = some d := by
  have other : ∀ (W : World) (i j : Nat) (y u : Value), i ≠ j → W.cell? ⟨g, j, none⟩ = some u → (W.setCell ⟨g, i, none⟩ y).cell? ⟨g, j, none⟩ = some u := fun W i j y u hij h => (World.cell?_setCell_other (w := W) (a := ⟨g, i, none⟩) (b := ⟨g, j, none⟩) (v := y) (by simp <;> omega)).trans h
  have s0 := World.cell?_setCell_same (w := w) (a := ⟨g, 0, none⟩) (v := a) r0
  have s1 := World.cell?_setCell_same (w := (w.setCell ⟨g, 0, none⟩ a)) (a := ⟨g, 1, none⟩) (v := b) (other _ 0 1 a x1 (by decide) r1)
  have s2 := World.cell?_setCell_same (w := ((w.setCell ⟨g, 0, none⟩ a).setCell ⟨g, 1, none⟩ b)) (a := ⟨g, 2, none⟩) (v := c) (other _ 1 2 b x2 (by decide) (other _ 0 2 a x2 (by decide) r2))
  have s3 := World.cell?_setCell_same (w := (((w.setCell ⟨g, 0, none⟩ a).setCell ⟨g, 1, none⟩ b).setCell ⟨g, 2, none⟩ c)) (a := ⟨g, 3, none⟩) (v := d) (other _ 2 3 c x3 (by decide) (other _ 1 3 b x3 (by decide) (other _ 0 3 a x3 (by decide) r3)))
  exact ⟨s0, s1, s2, s3⟩
theorem keeps_set4 {w : World} {g : Nat} {cs : Array Value} (h : w.heap[g]? = some (Obj.cells cs 42 (0, 0))) (y0 y1 y2 y3 : Value) : Keeps T41 w ((((w.setCell ⟨g, 0, none⟩ y0).setCell ⟨g, 1, none⟩ y1).setCell ⟨g, 2, none⟩ y2).setCell ⟨g, 3, none⟩ y3) :=
  ((((Keeps.set h rfl y0).trans (Keeps.set (heap_setCell_same _ g 0 _ _ y0 h) rfl y1)).trans (Keeps.set (heap_setCell_same _ g 1 _ _ y1 (heap_setCell_same _ g 0 _ _ y0 h)) rfl y2)).trans (Keeps.set (heap_setCell_same _ g 2 _ _ y2 (heap_setCell_same _ g 1 _ _ y1 (heap_setCell_same _ g 0 _ _ y0 h))) rfl y3))
theorem bel_set4 {B : Nat} {w0 w : World} {g : Nat} (hb : Below B w0 w) (hg : B ≤ g) (y0 y1 y2 y3 : Value) : Below B w0 ((((w.setCell ⟨g, 0, none⟩ y0).setCell ⟨g, 1, none⟩ y1).setCell ⟨g, 2, none⟩ y2).setCell ⟨g, 3, none⟩ y3) :=
  ((((hb.setCell (p := ⟨g, 0, none⟩) hg y0).setCell (p := ⟨g, 1, none⟩) hg y1).setCell (p := ⟨g, 2, none⟩) hg y2).setCell (p := ⟨g, 3, none⟩) hg y3)
end
theorem spill_right {z1 z2 r s : Int} (h1 : 0 ≤ z1 ∧ z1 < s) (h2 : 0 ≤ z2 ∧ z2 < r) : mF ⟨7, 0, z1, z2, 0, 0, []⟩ r s = 0 := by
  unfold mF
  rw [if_pos rfl]
  exact slF_zero ⟨rfl, rfl, rfl, rfl⟩ h2 h1
theorem fill_right {z1 z2 r s : Int} (h1 : 0 ≤ z1 ∧ z1 < r) (h2 : 0 ≤ z2 ∧ z2 < s) : mF ⟨8, 0, z1, z2, 0, 0, []⟩ r s = 0 := by
  unfold mF
  rw [if_neg (by simp), if_pos rfl]
  exact slF_zero ⟨rfl, rfl, rfl, rfl⟩ h1 h2
end Go.Proofs.Ytbjnhicikkjadaa
namespace Go.Proofs.Ytbjnhicikkjadaa
open Go Go.RowKit Ir

/-- Seven cells stored one behind the other. -/
def put7 (W : World) (g : Nat) (X : Ins) (u : Value) : World := ((((((W.setCell ⟨g, 0, none⟩ (.int .u8 X.k)).setCell ⟨g, 1, none⟩ (.int .u8 X.op)).setCell ⟨g, 2, none⟩ (.int .i64 X.d)).setCell ⟨g, 3, none⟩ (.int .i64 X.a)).setCell ⟨g, 4, none⟩ (.int .i64 X.b)).setCell ⟨g, 5, none⟩ (.int .i64 X.n)).setCell ⟨g, 6, none⟩ u
theorem put7_row {W : World} {g : Nat} {X0 X : Ins} {u0 u : Value} (h : W.heap[g]? = some (Obj.cells (rowI X0 u0) 86 (0, 0))) : (put7 W g X u).heap[g]? = some (Obj.cells (rowI X u) 86 (0, 0)) := by
  have h0 := heap_setCell_same _ g 0 _ _ (.int .u8 X.k) h
  have h1 := heap_setCell_same _ g 1 _ _ (.int .u8 X.op) h0
  have h2 := heap_setCell_same _ g 2 _ _ (.int .i64 X.d) h1
  have h3 := heap_setCell_same _ g 3 _ _ (.int .i64 X.a) h2
  have h4 := heap_setCell_same _ g 4 _ _ (.int .i64 X.b) h3
  have h5 := heap_setCell_same _ g 5 _ _ (.int .i64 X.n) h4
  have h6 := heap_setCell_same _ g 6 _ _ u h5
  unfold put7
  rw [h6]
  simp [rowI]
theorem put7_below {B : Nat} {w W : World} {g : Nat} (h : Below B w W) (hg : B ≤ g) (X : Ins) (u : Value) : Below B w (put7 W g X u) :=
  ((((((h.setCell (p := ⟨g, 0, none⟩) hg _).setCell (p := ⟨g, 1, none⟩) hg _).setCell (p := ⟨g, 2, none⟩) hg _).setCell (p := ⟨g, 3, none⟩) hg _).setCell (p := ⟨g, 4, none⟩) hg _).setCell (p := ⟨g, 5, none⟩) hg _).setCell (p := ⟨g, 6, none⟩) hg _
theorem row_cells {W : World} {g : Nat} {X : Ins} {u : Value} (h : W.heap[g]? = some (Obj.cells (rowI X u) 86 (0, 0))) : InsCells W g 0 X u := by
  refine ⟨?_, ?_, ?_, ?_, ?_, ?_, ?_⟩
  all_goals (rw [cell_of_row _ _ _ _ _ _ h]; rfl)
theorem run_store46 {a : Act} {o : Oper} {x y : Operand} {W : World} {g : Nat} {X0 X : Ins} (hop : o.op = .store 86 x y) (ex : a.eval x = .pointer (some ⟨g, 0, none⟩)) (ey : a.eval y = insV X (.slice none 0 0)) (h : W.heap[g]? = some (Obj.cells (rowI X0 (.slice none 0 0)) 86 (0, 0))) :
    (execOp a.eval o).run Try.prog W = .ok .skip (put7 W g X (.slice none 0 0)) := by
  obtain ⟨c0, c1, c2, c3, c4, c5, c6⟩ := (row_cells h).zero
  have f0 := frozen_of_row _ _ 0 _ _ h
  have f1 := frozen_of_row _ _ 1 _ _ h
  have f2 := frozen_of_row _ _ 2 _ _ h
  have f3 := frozen_of_row _ _ 3 _ _ h
  have f4 := frozen_of_row _ _ 4 _ _ h
  have f5 := frozen_of_row _ _ 5 _ _ h
  have f6 := frozen_of_row _ _ 6 _ _ h
  unfold insV at ey
  unfold put7
  generalize a.eval = ρ at ex ey ⊢
  unfold execOp
  rw [hop]
  simp only [ex, ey]
  go_simp
def ops27 : Array Oper := #[⟨some 143, .fieldAddr 42 (.tmp 9) 3, 0, "law.go:39", #[], none⟩, ⟨some 144, .load 22 (.tmp 143), 22, "law.go:39", #[⟨0, .data⟩], none⟩, ⟨some 145, .move (.tmp 3), 25, "law.go:39", #[], none⟩, ⟨some 146, .move (.tmp 17), 3, "law.go:39", #[], none⟩, ⟨some 147, .indexAddr 25 (.tmp 145) (.tmp 146), 0, "law.go:39", #[⟨2, .data⟩, ⟨3, .data⟩], none⟩, ⟨some 148, .load 5 (.tmp 147), 5, "law.go:39", #[⟨4, .data⟩], none⟩, ⟨some 149, .convert 5 3 (.tmp 148), 3, "law.go:39", #[⟨5, .data⟩], none⟩, ⟨some 150, .fieldAddr 42 (.tmp 9) 3, 0, "law.go:39", #[], none⟩, ⟨some 151, .load 22 (.tmp 150), 22, "law.go:39", #[⟨7, .data⟩], none⟩, ⟨some 152, .call { callee := Callee.builtin Builtin.len, args := #[.tmp 151], argTypes := #[22] }, 3, "law.go:39", #[⟨8, .data⟩], none⟩, ⟨some 153, .binOp .rem 3 (.tmp 149) (.tmp 152) 3, 3, "law.go:39", #[⟨6, .data⟩, ⟨9, .data⟩], none⟩, ⟨some 154, .indexAddr 22 (.tmp 144) (.tmp 153), 0, "law.go:39", #[⟨1, .data⟩, ⟨10, .data⟩], none⟩, ⟨some 18, .assign (.tmp 154), 92, "law.go:39", #[⟨11, .data⟩, ⟨0, .phase⟩, ⟨1, .phase⟩, ⟨2, .phase⟩, ⟨3, .phase⟩, ⟨4, .phase⟩, ⟨5, .phase⟩, ⟨6, .phase⟩, ⟨7, .phase⟩, ⟨8, .phase⟩, ⟨9, .phase⟩, ⟨10, .phase⟩, ⟨11, .phase⟩], none⟩]
def ops28 : Array Oper := #[⟨some 155, .move (.tmp 3), 25, "law.go:40", #[], none⟩, ⟨some 156, .move (.tmp 17), 3, "law.go:40", #[], none⟩, ⟨some 157, .binOp .add 3 (.tmp 156) (.const (.int .i64 1)) 3, 3, "law.go:40", #[⟨1, .data⟩], none⟩, ⟨some 158, .indexAddr 25 (.tmp 155) (.tmp 157), 0, "law.go:40", #[⟨0, .data⟩, ⟨2, .data⟩], none⟩, ⟨some 159, .load 5 (.tmp 158), 5, "law.go:40", #[⟨3, .data⟩], none⟩, ⟨some 160, .convert 5 3 (.tmp 159), 3, "law.go:40", #[⟨4, .data⟩], none⟩, ⟨some 161, .fieldAddr 42 (.tmp 9) 2, 0, "law.go:40", #[], none⟩, ⟨some 162, .load 3 (.tmp 161), 3, "law.go:40", #[⟨6, .data⟩], none⟩, ⟨some 163, .binOp .rem 3 (.tmp 160) (.tmp 162) 3, 3, "law.go:40", #[⟨5, .data⟩, ⟨7, .data⟩], none⟩, ⟨some 164, .move (.tmp 3), 25, "law.go:40", #[], none⟩, ⟨some 165, .move (.tmp 17), 3, "law.go:40", #[], none⟩, ⟨some 166, .binOp .add 3 (.tmp 165) (.const (.int .i64 2)) 3, 3, "law.go:40", #[⟨10, .data⟩], none⟩, ⟨some 167, .indexAddr 25 (.tmp 164) (.tmp 166), 0, "law.go:40", #[⟨9, .data⟩, ⟨11, .data⟩], none⟩, ⟨some 168, .load 5 (.tmp 167), 5, "law.go:40", #[⟨12, .data⟩], none⟩, ⟨some 169, .convert 5 3 (.tmp 168), 3, "law.go:40", #[⟨13, .data⟩], none⟩, ⟨some 170, .fieldAddr 42 (.tmp 9) 1, 0, "law.go:40", #[], none⟩, ⟨some 171, .load 3 (.tmp 170), 3, "law.go:40", #[⟨15, .data⟩], none⟩, ⟨some 172, .binOp .rem 3 (.tmp 169) (.tmp 171) 3, 3, "law.go:40", #[⟨14, .data⟩, ⟨16, .data⟩], none⟩, ⟨some 173, .build 86 #[(0, .const (.int .u8 7)), (2, .tmp 163), (3, .tmp 172)], 86, "law.go:40", #[⟨8, .data⟩, ⟨17, .data⟩], none⟩, ⟨some 19, .alloc 86, 0, "law.go:40", #[], none⟩, ⟨none, .store 86 (.tmp 19) (.tmp 173), 0, "law.go:40", #[⟨19, .data⟩, ⟨18, .data⟩, ⟨0, .phase⟩, ⟨1, .phase⟩, ⟨2, .phase⟩, ⟨3, .phase⟩, ⟨4, .phase⟩, ⟨5, .phase⟩, ⟨6, .phase⟩, ⟨7, .phase⟩, ⟨8, .phase⟩, ⟨9, .phase⟩, ⟨10, .phase⟩, ⟨11, .phase⟩, ⟨12, .phase⟩, ⟨13, .phase⟩, ⟨14, .phase⟩, ⟨15, .phase⟩, ⟨16, .phase⟩, ⟨17, .phase⟩, ⟨18, .phase⟩, ⟨19, .phase⟩], none⟩]
def ops30 : Array Oper := #[⟨some 180, .move (.tmp 3), 25, "law.go:42", #[], none⟩, ⟨some 181, .move (.tmp 17), 3, "law.go:42", #[], none⟩, ⟨some 182, .binOp .add 3 (.tmp 181) (.const (.int .i64 1)) 3, 3, "law.go:42", #[⟨1, .data⟩], none⟩, ⟨some 183, .indexAddr 25 (.tmp 180) (.tmp 182), 0, "law.go:42", #[⟨0, .data⟩, ⟨2, .data⟩], none⟩, ⟨some 184, .load 5 (.tmp 183), 5, "law.go:42", #[⟨3, .data⟩], none⟩, ⟨some 185, .convert 5 3 (.tmp 184), 3, "law.go:42", #[⟨4, .data⟩], none⟩, ⟨some 186, .fieldAddr 42 (.tmp 9) 1, 0, "law.go:42", #[], none⟩, ⟨some 187, .load 3 (.tmp 186), 3, "law.go:42", #[⟨6, .data⟩], none⟩, ⟨some 188, .binOp .rem 3 (.tmp 185) (.tmp 187) 3, 3, "law.go:42", #[⟨5, .data⟩, ⟨7, .data⟩], none⟩, ⟨some 189, .move (.tmp 3), 25, "law.go:42", #[], none⟩, ⟨some 190, .move (.tmp 17), 3, "law.go:42", #[], none⟩, ⟨some 191, .binOp .add 3 (.tmp 190) (.const (.int .i64 2)) 3, 3, "law.go:42", #[⟨10, .data⟩], none⟩, ⟨some 192, .indexAddr 25 (.tmp 189) (.tmp 191), 0, "law.go:42", #[⟨9, .data⟩, ⟨11, .data⟩], none⟩, ⟨some 193, .load 5 (.tmp 192), 5, "law.go:42", #[⟨12, .data⟩], none⟩, ⟨some 194, .convert 5 3 (.tmp 193), 3, "law.go:42", #[⟨13, .data⟩], none⟩, ⟨some 195, .fieldAddr 42 (.tmp 9) 2, 0, "law.go:42", #[], none⟩, ⟨some 196, .load 3 (.tmp 195), 3, "law.go:42", #[⟨15, .data⟩], none⟩, ⟨some 197, .binOp .rem 3 (.tmp 194) (.tmp 196) 3, 3, "law.go:42", #[⟨14, .data⟩, ⟨16, .data⟩], none⟩, ⟨some 198, .build 86 #[(0, .const (.int .u8 8)), (2, .tmp 188), (3, .tmp 197)], 86, "law.go:42", #[⟨8, .data⟩, ⟨17, .data⟩], none⟩, ⟨none, .store 86 (.tmp 19) (.tmp 198), 0, "law.go:42", #[⟨18, .data⟩, ⟨0, .phase⟩, ⟨1, .phase⟩, ⟨2, .phase⟩, ⟨3, .phase⟩, ⟨4, .phase⟩, ⟨5, .phase⟩, ⟨6, .phase⟩, ⟨7, .phase⟩, ⟨8, .phase⟩, ⟨9, .phase⟩, ⟨10, .phase⟩, ⟨11, .phase⟩, ⟨12, .phase⟩, ⟨13, .phase⟩, ⟨14, .phase⟩, ⟨15, .phase⟩, ⟨16, .phase⟩, ⟨17, .phase⟩, ⟨18, .phase⟩], none⟩]
def ops31 : Array Oper := #[⟨some 199, .move (.tmp 3), 25, "law.go:44", #[], none⟩, ⟨some 200, .move (.tmp 17), 3, "law.go:44", #[], none⟩, ⟨some 201, .indexAddr 25 (.tmp 199) (.tmp 200), 0, "law.go:44", #[⟨0, .data⟩, ⟨1, .data⟩], none⟩, ⟨some 202, .load 5 (.tmp 201), 5, "law.go:44", #[⟨2, .data⟩], none⟩, ⟨some 203, .binOp .quo 5 (.tmp 202) (.const (.int .u8 8)) 5, 5, "law.go:44", #[⟨3, .data⟩], none⟩, ⟨some 204, .convert 5 3 (.tmp 203), 3, "law.go:44", #[⟨4, .data⟩], none⟩, ⟨some 205, .move (.tmp 18), 92, "law.go:44", #[], none⟩, ⟨some 206, .nilCheck (.tmp 205), 0, "law.go:44", #[⟨6, .data⟩], none⟩, ⟨some 207, .fieldAddr 82 (.tmp 206) 0, 0, "law.go:44", #[⟨7, .data⟩], none⟩, ⟨some 208, .load 80 (.tmp 207), 80, "law.go:44", #[⟨8, .data⟩], none⟩, ⟨some 209, .call { callee := Callee.builtin Builtin.len, args := #[.tmp 208], argTypes := #[80] }, 3, "law.go:44", #[⟨9, .data⟩], none⟩, ⟨some 210, .binOp .add 3 (.tmp 209) (.const (.int .i64 1)) 3, 3, "law.go:44", #[⟨10, .data⟩], none⟩, ⟨some 211, .binOp .rem 3 (.tmp 204) (.tmp 210) 3, 3, "law.go:44", #[⟨5, .data⟩, ⟨11, .data⟩], none⟩, ⟨some 20, .assign (.tmp 211), 3, "law.go:44", #[⟨12, .data⟩, ⟨0, .phase⟩, ⟨1, .phase⟩, ⟨2, .phase⟩, ⟨3, .phase⟩, ⟨4, .phase⟩, ⟨5, .phase⟩, ⟨6, .phase⟩, ⟨7, .phase⟩, ⟨8, .phase⟩, ⟨9, .phase⟩, ⟨10, .phase⟩, ⟨11, .phase⟩, ⟨12, .phase⟩], none⟩]
def ops32 : Array Oper := #[⟨some 212, .move (.tmp 18), 92, "law.go:45", #[], none⟩, ⟨some 213, .buildSlice 80 0 #[], 80, "law.go:45", #[], none⟩, ⟨some 214, .move (.tmp 18), 92, "law.go:45", #[], none⟩, ⟨some 215, .nilCheck (.tmp 214), 0, "law.go:45", #[⟨2, .data⟩], none⟩, ⟨some 216, .fieldAddr 82 (.tmp 215) 0, 0, "law.go:45", #[⟨3, .data⟩], none⟩, ⟨some 217, .load 80 (.tmp 216), 80, "law.go:45", #[⟨4, .data⟩], none⟩, ⟨some 218, .move (.tmp 20), 3, "law.go:45", #[], none⟩, ⟨some 219, .slice 80 (.tmp 217) none (some (.tmp 218)) none, 80, "law.go:45", #[⟨5, .data⟩, ⟨6, .data⟩], none⟩, ⟨some 220, .call { callee := Callee.builtin Builtin.append, args := #[.tmp 213, .tmp 219], argTypes := #[80, 80] }, 80, "law.go:45", #[⟨1, .data⟩, ⟨7, .data⟩], none⟩, ⟨some 221, .load 86 (.tmp 19), 86, "law.go:45", #[], none⟩, ⟨some 222, .buildSlice 80 1 #[(0, .tmp 221)], 80, "law.go:45", #[⟨9, .data⟩], none⟩, ⟨some 223, .call { callee := Callee.builtin Builtin.append, args := #[.tmp 220, .tmp 222], argTypes := #[80, 80] }, 80, "law.go:45", #[⟨8, .data⟩, ⟨10, .data⟩, ⟨8, .chain⟩], none⟩, ⟨some 224, .move (.tmp 18), 92, "law.go:45", #[], none⟩, ⟨some 225, .nilCheck (.tmp 224), 0, "law.go:45", #[⟨12, .data⟩], none⟩, ⟨some 226, .fieldAddr 82 (.tmp 225) 0, 0, "law.go:45", #[⟨13, .data⟩], none⟩, ⟨some 227, .load 80 (.tmp 226), 80, "law.go:45", #[⟨14, .data⟩], none⟩, ⟨some 228, .move (.tmp 20), 3, "law.go:45", #[], none⟩, ⟨some 229, .slice 80 (.tmp 227) (some (.tmp 228)) none none, 80, "law.go:45", #[⟨15, .data⟩, ⟨16, .data⟩], none⟩, ⟨some 230, .call { callee := Callee.builtin Builtin.append, args := #[.tmp 223, .tmp 229], argTypes := #[80, 80] }, 80, "law.go:45", #[⟨11, .data⟩, ⟨17, .data⟩, ⟨11, .chain⟩], none⟩, ⟨some 231, .nilCheck (.tmp 212), 0, "law.go:45", #[⟨0, .data⟩, ⟨0, .phase⟩, ⟨1, .phase⟩, ⟨2, .phase⟩, ⟨3, .phase⟩, ⟨4, .phase⟩, ⟨5, .phase⟩, ⟨6, .phase⟩, ⟨7, .phase⟩, ⟨8, .phase⟩, ⟨9, .phase⟩, ⟨10, .phase⟩, ⟨11, .phase⟩, ⟨12, .phase⟩, ⟨13, .phase⟩, ⟨14, .phase⟩, ⟨15, .phase⟩, ⟨16, .phase⟩, ⟨17, .phase⟩, ⟨18, .phase⟩], none⟩, ⟨some 232, .fieldAddr 82 (.tmp 231) 0, 0, "law.go:45", #[⟨19, .data⟩, ⟨0, .phase⟩, ⟨1, .phase⟩, ⟨2, .phase⟩, ⟨3, .phase⟩, ⟨4, .phase⟩, ⟨5, .phase⟩, ⟨6, .phase⟩, ⟨7, .phase⟩, ⟨8, .phase⟩, ⟨9, .phase⟩, ⟨10, .phase⟩, ⟨11, .phase⟩, ⟨12, .phase⟩, ⟨13, .phase⟩, ⟨14, .phase⟩, ⟨15, .phase⟩, ⟨16, .phase⟩, ⟨17, .phase⟩, ⟨18, .phase⟩], none⟩, ⟨none, .store 80 (.tmp 232) (.tmp 230), 0, "law.go:45", #[⟨20, .data⟩, ⟨18, .data⟩, ⟨18, .chain⟩, ⟨0, .phase⟩, ⟨1, .phase⟩, ⟨2, .phase⟩, ⟨3, .phase⟩, ⟨4, .phase⟩, ⟨5, .phase⟩, ⟨6, .phase⟩, ⟨7, .phase⟩, ⟨8, .phase⟩, ⟨9, .phase⟩, ⟨10, .phase⟩, ⟨11, .phase⟩, ⟨12, .phase⟩, ⟨13, .phase⟩, ⟨14, .phase⟩, ⟨15, .phase⟩, ⟨16, .phase⟩, ⟨17, .phase⟩, ⟨18, .phase⟩], none⟩]
/-- What is known of each temporary. -/
def G27 (pc g j gc jb mb mo len mc i : Nat) (x0 : Int) : Tmp → Value → World → Prop
  | 143, xx, _ => xx = .pointer (some ⟨pc, 3, none⟩)
  | 144, xx, _ => xx = .slice (some ⟨g, 0, none⟩) j gc
  | 145, xx, _ => xx = .slice (some ⟨mb, mo, none⟩) len mc
  | 146, xx, _ => xx = .int .i64 (i : Nat)
  | 147, xx, _ => xx = .pointer (some ⟨mb, mo + i, none⟩)
  | 148, xx, _ => xx = .int .u8 x0
  | 149, xx, _ => xx = .int .i64 x0
  | 150, xx, _ => xx = .pointer (some ⟨pc, 3, none⟩)
  | 151, xx, _ => xx = .slice (some ⟨g, 0, none⟩) j gc
  | 152, xx, _ => xx = .int .i64 (j : Nat)
  | 153, xx, _ => xx = .int .i64 (jb : Nat)
  | 154, xx, _ => xx = .pointer (some ⟨g, jb * 5, none⟩)
  | 18, xx, _ => xx = .pointer (some ⟨g, jb * 5, none⟩)
  | _, _, _ => True
set_option maxRecDepth 100000 in
theorem r27_ok {Q : Exit → Act → World → Prop} {a0 : Act} {wa : World} {pc g j gc jb mb mo len mc i : Nat} {x0 : Int} (hz : a0.tmps.size = 234) (b9 : a0.eval (.tmp 9) = .pointer (some ⟨pc, 0, none⟩)) (b3 : a0.eval (.tmp 3) = .slice (some ⟨mb, mo, none⟩) len mc) (b17 : a0.eval (.tmp 17) = .int .i64 (i : Nat))
    (m3 : wa.cell? ⟨pc, 3, none⟩ = some (.slice (some ⟨g, 0, none⟩) j gc)) (y0 : wa.cell? ⟨mb, mo + i, none⟩ = some (.int .u8 x0)) (hx : 0 ≤ x0 ∧ x0 < 256) (hi : (i : Int) < (len : Int)) (hjb : x0.tmod (j : Int) = (jb : Int)) (hjl : (jb : Int) < (j : Int))
    (hend : ∀ s : Tmp → Value, s 18 = .pointer (some ⟨g, jb * 5, none⟩) → Q .normal (overlay a0 (dstsOf ops27) s) wa.drew) : (Code.region 27 ops27 true).wp Try.prog Q a0 wa := by
  have n0 : (((j : Nat) : Int) == 0) = false := by rw [beq_eq_false_iff_ne]; omega
  have n1 : (((j : Nat) : Int) == -1) = false := by rw [beq_eq_false_iff_ne]; omega
  refine L.wp_region_eachL (by kernel_rfl) (fun _ t y _ => G27 pc g j gc jb mb mo len mc i x0 t y wa) (fun _ W => W = wa.drew) (by rw [hz]; kernel_rfl) rfl ?_ ?_
  · refine And.intro ?_ (And.intro ?_ (And.intro ?_ (And.intro ?_ (And.intro ?_ (And.intro ?_ (And.intro ?_ (And.intro ?_ (And.intro ?_ (And.intro ?_ (And.intro ?_ (And.intro ?_ (And.intro ?_ trivial))))))))))))
    · refine L.asked_pure rfl rfl (fun _ _ h => h) (fun _ _ _ _ _ h => h) (fun _ _ _ => rfl) (fun l a W H => ?_)
      have e9 : a.eval (.tmp 9) = .pointer (some ⟨pc, 0, none⟩) := (H.base 9 rfl).trans b9
      simp only [execOp, e9]; go_simp
    · refine L.asked_pure rfl rfl (fun _ _ h => h) (fun _ _ _ _ _ h => h) (fun _ _ _ => rfl) (fun l a W H => ?_)
      have e143 : a.eval (.tmp 143) = .pointer (some ⟨pc, 3, none⟩) := H.facts 143 rfl
      have hcc : W.cell? ⟨pc, 3, none⟩ = some (.slice (some ⟨g, 0, none⟩) j gc) := by rw [H.s]; exact m3
      simp only [execOp, e143]; go_simp
    · refine L.asked_pure rfl rfl (fun _ _ h => h) (fun _ _ _ _ _ h => h) (fun _ _ _ => rfl) (fun l a W H => ?_)
      have e3 : a.eval (.tmp 3) = .slice (some ⟨mb, mo, none⟩) len mc := (H.base 3 rfl).trans b3
      exact run_move rfl e3
    · refine L.asked_pure rfl rfl (fun _ _ h => h) (fun _ _ _ _ _ h => h) (fun _ _ _ => rfl) (fun l a W H => ?_)
      have e17 : a.eval (.tmp 17) = .int .i64 (i : Nat) := (H.base 17 rfl).trans b17
      exact run_move rfl e17
    · refine L.asked_pure rfl rfl (fun _ _ h => h) (fun _ _ _ _ _ h => h) (fun _ _ _ => rfl) (fun l a W H => ?_)
      have e145 : a.eval (.tmp 145) = .slice (some ⟨mb, mo, none⟩) len mc := H.facts 145 rfl
      have e146 : a.eval (.tmp 146) = .int .i64 (i : Nat) := H.facts 146 rfl
      simp only [execOp, e145, e146]; go_simp
    · refine L.asked_pure rfl rfl (fun _ _ h => h) (fun _ _ _ _ _ h => h) (fun _ _ _ => rfl) (fun l a W H => ?_)
      have e147 : a.eval (.tmp 147) = .pointer (some ⟨mb, mo + i, none⟩) := H.facts 147 rfl
      have hcc : W.cell? ⟨mb, mo + i, none⟩ = some (.int .u8 x0) := by rw [H.s]; exact y0
      simp only [execOp, e147]; go_simp
    · refine L.asked_pure rfl rfl (fun _ _ h => h) (fun _ _ _ _ _ h => h) (fun _ _ _ => rfl) (fun l a W H => ?_)
      have e148 : a.eval (.tmp 148) = .int .u8 x0 := H.facts 148 rfl
      (simp only [execOp]; try simp only [Option.map]); (try simp only [List.map_toArray, List.map_cons, List.map_nil]); (simp only [e148]; go_simp)
      all_goals (try first | go_num | omega | (rw [IntKind.wrap_i64]; omega) | (rw [IntKind.wrap_u8]; omega))
    · refine L.asked_pure rfl rfl (fun _ _ h => h) (fun _ _ _ _ _ h => h) (fun _ _ _ => rfl) (fun l a W H => ?_)
      have e9 : a.eval (.tmp 9) = .pointer (some ⟨pc, 0, none⟩) := (H.base 9 rfl).trans b9
      simp only [execOp, e9]; go_simp
    · refine L.asked_pure rfl rfl (fun _ _ h => h) (fun _ _ _ _ _ h => h) (fun _ _ _ => rfl) (fun l a W H => ?_)
      have e150 : a.eval (.tmp 150) = .pointer (some ⟨pc, 3, none⟩) := H.facts 150 rfl
      have hcc : W.cell? ⟨pc, 3, none⟩ = some (.slice (some ⟨g, 0, none⟩) j gc) := by rw [H.s]; exact m3
      simp only [execOp, e150]; go_simp
    · refine L.asked_pure rfl rfl (fun _ _ h => h) (fun _ _ _ _ _ h => h) (fun _ _ _ => rfl) (fun l a W H => ?_)
      have e151 : a.eval (.tmp 151) = .slice (some ⟨g, 0, none⟩) j gc := H.facts 151 rfl
      exact run_len rfl e151 Try.underlying22
    · refine L.asked_pure rfl rfl (fun _ _ h => h) (fun _ _ _ _ _ h => h) (fun _ _ _ => rfl) (fun l a W H => ?_)
      have e149 : a.eval (.tmp 149) = .int .i64 x0 := H.facts 149 rfl
      have e152 : a.eval (.tmp 152) = .int .i64 (j : Nat) := H.facts 152 rfl
      (simp only [execOp]; try simp only [Option.map]); (try simp only [List.map_toArray, List.map_cons, List.map_nil]); (simp only [e149, e152]; go_simp)
      all_goals (try first | go_num | omega | (rw [IntKind.wrap_i64]; omega) | (rw [IntKind.wrap_u8]; omega))
    · refine L.asked_pure rfl rfl (fun _ _ h => h) (fun _ _ _ _ _ h => h) (fun _ _ _ => rfl) (fun l a W H => ?_)
      have e144 : a.eval (.tmp 144) = .slice (some ⟨g, 0, none⟩) j gc := H.facts 144 rfl
      have e153 : a.eval (.tmp 153) = .int .i64 (jb : Nat) := H.facts 153 rfl
      simp only [execOp, e144, e153]; go_simp
    · refine L.asked_pure rfl rfl (fun _ _ h => h) (fun _ _ _ _ _ h => h) (fun _ _ _ => rfl) (fun l a W H => ?_)
      have e154 : a.eval (.tmp 154) = .pointer (some ⟨g, jb * 5, none⟩) := H.facts 154 rfl
      exact run_assign rfl e154
  · intro l s W _ hS hs
    subst hS
    exact hend s (hs 18 rfl)
/-- What is known of each temporary. -/
def G28 (wb : World) (pc mb mo len mc i : Nat) (x1 x2 z1 z2 r s : Int) : Tmp → Value → World → Prop
  | 155, xx, _ => xx = .slice (some ⟨mb, mo, none⟩) len mc
  | 156, xx, _ => xx = .int .i64 (i : Nat)
  | 157, xx, _ => xx = .int .i64 ((i : Int) + 1)
  | 158, xx, _ => xx = .pointer (some ⟨mb, mo + (i + 1), none⟩)
  | 159, xx, _ => xx = .int .u8 x1
  | 160, xx, _ => xx = .int .i64 x1
  | 161, xx, _ => xx = .pointer (some ⟨pc, 2, none⟩)
  | 162, xx, _ => xx = .int .i64 s
  | 163, xx, _ => xx = .int .i64 z1
  | 164, xx, _ => xx = .slice (some ⟨mb, mo, none⟩) len mc
  | 165, xx, _ => xx = .int .i64 (i : Nat)
  | 166, xx, _ => xx = .int .i64 ((i : Int) + 2)
  | 167, xx, _ => xx = .pointer (some ⟨mb, mo + (i + 2), none⟩)
  | 168, xx, _ => xx = .int .u8 x2
  | 169, xx, _ => xx = .int .i64 x2
  | 170, xx, _ => xx = .pointer (some ⟨pc, 1, none⟩)
  | 171, xx, _ => xx = .int .i64 r
  | 172, xx, _ => xx = .int .i64 z2
  | 173, xx, _ => xx = insV ⟨7, 0, z1, z2, 0, 0, []⟩ (.slice none 0 0)
  | 19, xx, _ => xx = .pointer (some ⟨wb.heap.size, 0, none⟩)
  | _, _, _ => True
structure S28 (wb : World) (X : Ins) (l : Nat → Bool) (W : World) : Prop where
  below : Below wb.heap.size wb W
  size : l 19 = false → W.heap.size = wb.heap.size
  row : l 19 = true → l 20 = false → W.heap[wb.heap.size]? = some (Obj.cells (rowI Ins.zero (.slice none 0 0)) 86 (0, 0))
  done : l 20 = true → W.heap[wb.heap.size]? = some (Obj.cells (rowI X (.slice none 0 0)) 86 (0, 0))
theorem S28.skip {wb : World} {X : Ins} {l : Nat → Bool} {W : World} (h : S28 wb X l W) {i : Nat} (h1 : i ≠ 19) (h2 : i ≠ 20) : S28 wb X (upd l i) W := by
  have u1 : upd l i 19 = l 19 := if_neg (fun e => h1 e.symm)
  have u2 : upd l i 20 = l 20 := if_neg (fun e => h2 e.symm)
  exact ⟨h.below, by rw [u1]; exact h.size, by rw [u1, u2]; exact h.row, by rw [u2]; exact h.done⟩
set_option maxRecDepth 100000 in
theorem r28_ok {Q : Exit → Act → World → Prop} {a0 : Act} {wb : World} {pc mb mo len mc i : Nat} {x1 x2 z1 z2 r s : Int} (hz : a0.tmps.size = 234) (b9 : a0.eval (.tmp 9) = .pointer (some ⟨pc, 0, none⟩)) (b3 : a0.eval (.tmp 3) = .slice (some ⟨mb, mo, none⟩) len mc) (b17 : a0.eval (.tmp 17) = .int .i64 (i : Nat)) (m1 : wb.cell? ⟨pc, 1, none⟩ = some (.int .i64 r)) (m2 : wb.cell? ⟨pc, 2, none⟩ = some (.int .i64 s)) (y1 : wb.cell? ⟨mb, mo + (i + 1), none⟩ = some (.int .u8 x1)) (y2 : wb.cell? ⟨mb, mo + (i + 2), none⟩ = some (.int .u8 x2)) (hx1 : 0 ≤ x1 ∧ x1 < 256) (hx2 : 0 ≤ x2 ∧ x2 < 256) (hi : (i : Int) + 2 < (len : Int)) (hi60 : (i : Int) < 60) (hr : 0 < r) (hs : 0 < s) (t1 : x1.tmod s = z1) (t2 : x2.tmod r = z2)
    (hend : ∀ (q : Tmp → Value) (W : World), q 19 = .pointer (some ⟨wb.heap.size, 0, none⟩) → Below wb.heap.size wb W → W.heap[wb.heap.size]? = some (Obj.cells (rowI ⟨7, 0, z1, z2, 0, 0, []⟩ (.slice none 0 0)) 86 (0, 0)) → Q .normal (overlay a0 (dstsOf ops28) q) W) : (Code.region 28 ops28 true).wp Try.prog Q a0 wb := by
  have s0 : (s == 0) = false := by rw [beq_eq_false_iff_ne]; omega
  have s1 : (s == -1) = false := by rw [beq_eq_false_iff_ne]; omega
  have r0 : (r == 0) = false := by rw [beq_eq_false_iff_ne]; omega
  have r1 : (r == -1) = false := by rw [beq_eq_false_iff_ne]; omega
  refine L.wp_region_eachL (by kernel_rfl) (fun _ t y _ => G28 wb pc mb mo len mc i x1 x2 z1 z2 r s t y wb) (fun l W => S28 wb ⟨7, 0, z1, z2, 0, 0, []⟩ l W) (by rw [hz]; kernel_rfl) ⟨(Below.refl _ _).drew, fun _ => rfl, fun h => by simp at h, fun h => by simp at h⟩ ?_ ?_
  · refine And.intro ?_ (And.intro ?_ (And.intro ?_ (And.intro ?_ (And.intro ?_ (And.intro ?_ (And.intro ?_ (And.intro ?_ (And.intro ?_ (And.intro ?_ (And.intro ?_ (And.intro ?_ (And.intro ?_ (And.intro ?_ (And.intro ?_ (And.intro ?_ (And.intro ?_ (And.intro ?_ (And.intro ?_ (And.intro ?_ (And.intro ?_ trivial))))))))))))))))))))
    · refine L.asked_pure rfl rfl (fun _ _ h => h.skip (by decide) (by decide)) (fun _ _ _ _ _ h => h) (fun _ _ _ => rfl) (fun l a W H => ?_)
      have e3 : a.eval (.tmp 3) = .slice (some ⟨mb, mo, none⟩) len mc := (H.base 3 rfl).trans b3
      exact run_move rfl e3
    · refine L.asked_pure rfl rfl (fun _ _ h => h.skip (by decide) (by decide)) (fun _ _ _ _ _ h => h) (fun _ _ _ => rfl) (fun l a W H => ?_)
      have e17 : a.eval (.tmp 17) = .int .i64 (i : Nat) := (H.base 17 rfl).trans b17
      exact run_move rfl e17
    · refine L.asked_pure rfl rfl (fun _ _ h => h.skip (by decide) (by decide)) (fun _ _ _ _ _ h => h) (fun _ _ _ => rfl) (fun l a W H => ?_)
      have e156 : a.eval (.tmp 156) = .int .i64 (i : Nat) := H.facts 156 rfl
      (simp only [execOp]; try simp only [Option.map]); (try simp only [List.map_toArray, List.map_cons, List.map_nil]); (simp only [e156]; go_simp)
      all_goals (try first | go_num | omega | (rw [IntKind.wrap_i64]; omega) | (rw [IntKind.wrap_u8]; omega))
    · refine L.asked_pure rfl rfl (fun _ _ h => h.skip (by decide) (by decide)) (fun _ _ _ _ _ h => h) (fun _ _ _ => rfl) (fun l a W H => ?_)
      have e155 : a.eval (.tmp 155) = .slice (some ⟨mb, mo, none⟩) len mc := H.facts 155 rfl
      have e157 : a.eval (.tmp 157) = .int .i64 ((i : Int) + 1) := H.facts 157 rfl
      (simp only [execOp]; try simp only [Option.map]); (try simp only [List.map_toArray, List.map_cons, List.map_nil]); (simp only [e155, e157]; go_simp)
      all_goals (try first | go_num | omega | (rw [IntKind.wrap_i64]; omega) | (rw [IntKind.wrap_u8]; omega))
    · refine L.asked_pure rfl rfl (fun _ _ h => h.skip (by decide) (by decide)) (fun _ _ _ _ _ h => h) (fun _ _ _ => rfl) (fun l a W H => ?_)
      have e158 : a.eval (.tmp 158) = .pointer (some ⟨mb, mo + (i + 1), none⟩) := H.facts 158 rfl
      have hcc := cell_below H.s.below y1
      simp only [execOp, e158]; go_simp
    · refine L.asked_pure rfl rfl (fun _ _ h => h.skip (by decide) (by decide)) (fun _ _ _ _ _ h => h) (fun _ _ _ => rfl) (fun l a W H => ?_)
      have e159 : a.eval (.tmp 159) = .int .u8 x1 := H.facts 159 rfl
      (simp only [execOp]; try simp only [Option.map]); (try simp only [List.map_toArray, List.map_cons, List.map_nil]); (simp only [e159]; go_simp)
      all_goals (try first | go_num | omega | (rw [IntKind.wrap_i64]; omega) | (rw [IntKind.wrap_u8]; omega))
    · refine L.asked_pure rfl rfl (fun _ _ h => h.skip (by decide) (by decide)) (fun _ _ _ _ _ h => h) (fun _ _ _ => rfl) (fun l a W H => ?_)
      have e9 : a.eval (.tmp 9) = .pointer (some ⟨pc, 0, none⟩) := (H.base 9 rfl).trans b9
      simp only [execOp, e9]; go_simp
    · refine L.asked_pure rfl rfl (fun _ _ h => h.skip (by decide) (by decide)) (fun _ _ _ _ _ h => h) (fun _ _ _ => rfl) (fun l a W H => ?_)
      have e161 : a.eval (.tmp 161) = .pointer (some ⟨pc, 2, none⟩) := H.facts 161 rfl
      have hcc := cell_below H.s.below m2
      simp only [execOp, e161]; go_simp
    · refine L.asked_pure rfl rfl (fun _ _ h => h.skip (by decide) (by decide)) (fun _ _ _ _ _ h => h) (fun _ _ _ => rfl) (fun l a W H => ?_)
      have e160 : a.eval (.tmp 160) = .int .i64 x1 := H.facts 160 rfl
      have e162 : a.eval (.tmp 162) = .int .i64 s := H.facts 162 rfl
      (simp only [execOp]; try simp only [Option.map]); (try simp only [List.map_toArray, List.map_cons, List.map_nil]); (simp only [e160, e162]; go_simp)
      all_goals (try first | go_num | omega | (rw [IntKind.wrap_i64]; omega) | (rw [IntKind.wrap_u8]; omega))
    · refine L.asked_pure rfl rfl (fun _ _ h => h.skip (by decide) (by decide)) (fun _ _ _ _ _ h => h) (fun _ _ _ => rfl) (fun l a W H => ?_)
      have e3 : a.eval (.tmp 3) = .slice (some ⟨mb, mo, none⟩) len mc := (H.base 3 rfl).trans b3
      exact run_move rfl e3
    · refine L.asked_pure rfl rfl (fun _ _ h => h.skip (by decide) (by decide)) (fun _ _ _ _ _ h => h) (fun _ _ _ => rfl) (fun l a W H => ?_)
      have e17 : a.eval (.tmp 17) = .int .i64 (i : Nat) := (H.base 17 rfl).trans b17
      exact run_move rfl e17
    · refine L.asked_pure rfl rfl (fun _ _ h => h.skip (by decide) (by decide)) (fun _ _ _ _ _ h => h) (fun _ _ _ => rfl) (fun l a W H => ?_)
      have e165 : a.eval (.tmp 165) = .int .i64 (i : Nat) := H.facts 165 rfl
      (simp only [execOp]; try simp only [Option.map]); (try simp only [List.map_toArray, List.map_cons, List.map_nil]); (simp only [e165]; go_simp)
      all_goals (try first | go_num | omega | (rw [IntKind.wrap_i64]; omega) | (rw [IntKind.wrap_u8]; omega))
    · refine L.asked_pure rfl rfl (fun _ _ h => h.skip (by decide) (by decide)) (fun _ _ _ _ _ h => h) (fun _ _ _ => rfl) (fun l a W H => ?_)
      have e164 : a.eval (.tmp 164) = .slice (some ⟨mb, mo, none⟩) len mc := H.facts 164 rfl
      have e166 : a.eval (.tmp 166) = .int .i64 ((i : Int) + 2) := H.facts 166 rfl
      (simp only [execOp]; try simp only [Option.map]); (try simp only [List.map_toArray, List.map_cons, List.map_nil]); (simp only [e164, e166]; go_simp)
      all_goals (try first | go_num | omega | (rw [IntKind.wrap_i64]; omega) | (rw [IntKind.wrap_u8]; omega))
    · refine L.asked_pure rfl rfl (fun _ _ h => h.skip (by decide) (by decide)) (fun _ _ _ _ _ h => h) (fun _ _ _ => rfl) (fun l a W H => ?_)
      have e167 : a.eval (.tmp 167) = .pointer (some ⟨mb, mo + (i + 2), none⟩) := H.facts 167 rfl
      have hcc := cell_below H.s.below y2
      (simp only [execOp]; try simp only [Option.map]); (try simp only [List.map_toArray, List.map_cons, List.map_nil]); (simp only [e167]; go_simp)
      all_goals (try first | go_num | omega | (rw [IntKind.wrap_i64]; omega) | (rw [IntKind.wrap_u8]; omega))
    · refine L.asked_pure rfl rfl (fun _ _ h => h.skip (by decide) (by decide)) (fun _ _ _ _ _ h => h) (fun _ _ _ => rfl) (fun l a W H => ?_)
      have e168 : a.eval (.tmp 168) = .int .u8 x2 := H.facts 168 rfl
      (simp only [execOp]; try simp only [Option.map]); (try simp only [List.map_toArray, List.map_cons, List.map_nil]); (simp only [e168]; go_simp)
      all_goals (try first | go_num | omega | (rw [IntKind.wrap_i64]; omega) | (rw [IntKind.wrap_u8]; omega))
    · refine L.asked_pure rfl rfl (fun _ _ h => h.skip (by decide) (by decide)) (fun _ _ _ _ _ h => h) (fun _ _ _ => rfl) (fun l a W H => ?_)
      have e9 : a.eval (.tmp 9) = .pointer (some ⟨pc, 0, none⟩) := (H.base 9 rfl).trans b9
      (simp only [execOp]; try simp only [Option.map]); (try simp only [List.map_toArray, List.map_cons, List.map_nil]); (simp only [e9]; go_simp)
      all_goals (try first | go_num | omega | (rw [IntKind.wrap_i64]; omega) | (rw [IntKind.wrap_u8]; omega))
    · refine L.asked_pure rfl rfl (fun _ _ h => h.skip (by decide) (by decide)) (fun _ _ _ _ _ h => h) (fun _ _ _ => rfl) (fun l a W H => ?_)
      have e170 : a.eval (.tmp 170) = .pointer (some ⟨pc, 1, none⟩) := H.facts 170 rfl
      have hcc := cell_below H.s.below m1
      (simp only [execOp]; try simp only [Option.map]); (try simp only [List.map_toArray, List.map_cons, List.map_nil]); (simp only [e170]; go_simp)
      all_goals (try first | go_num | omega | (rw [IntKind.wrap_i64]; omega) | (rw [IntKind.wrap_u8]; omega))
    · refine L.asked_pure rfl rfl (fun _ _ h => h.skip (by decide) (by decide)) (fun _ _ _ _ _ h => h) (fun _ _ _ => rfl) (fun l a W H => ?_)
      have e169 : a.eval (.tmp 169) = .int .i64 x2 := H.facts 169 rfl
      have e171 : a.eval (.tmp 171) = .int .i64 r := H.facts 171 rfl
      (simp only [execOp]; try simp only [Option.map]); (try simp only [List.map_toArray, List.map_cons, List.map_nil]); (simp only [e169, e171]; go_simp)
      all_goals (try first | go_num | omega | (rw [IntKind.wrap_i64]; omega) | (rw [IntKind.wrap_u8]; omega))
    · refine L.asked_pure rfl rfl (fun _ _ h => h.skip (by decide) (by decide)) (fun _ _ _ _ _ h => h) (fun _ _ _ => rfl) (fun l a W H => ?_)
      have e163 : a.eval (.tmp 163) = .int .i64 z1 := H.facts 163 rfl
      have e172 : a.eval (.tmp 172) = .int .i64 z2 := H.facts 172 rfl
      unfold insV
      (simp only [execOp]; try simp only [Option.map]); (try simp only [List.map_toArray, List.map_cons, List.map_nil]); (simp only [e163, e172]; go_simp)
      all_goals (try first | go_num | omega | (rw [IntKind.wrap_i64]; omega) | (rw [IntKind.wrap_u8]; omega))
    · refine L.asked_any rfl (fun l a W H => ?_)
      have hsz := H.s.size H.new
      have hbx := bel1' W (.cells (rowI Ins.zero (.slice none 0 0)) 86)
      have l20 : l 20 = false := by
        cases hs : l 20 with
        | false => rfl
        | true =>
          have h1 := H.closed 20 19 (by rfl) hs
          rw [H.new] at h1
          cases h1
      refine ⟨.pointer (some ⟨wb.heap.size, 0, none⟩), W.alloc (.cells (rowI Ins.zero (.slice none 0 0)) 86), ?_, fun d hd => by cases hd; exact rfl, ⟨bel_to H.s.below hbx H.s.below.size, fun h => by simp [upd] at h, fun _ _ => by rw [← hsz]; exact heap_alloc_new W _, fun h => by have h' : l 20 = true := h; rw [l20] at h'; cases h'⟩, fun _ _ _ h => h⟩
      rw [← hsz]
      unfold rowI Ins.zero
      (simp only [execOp]; try simp only [Option.map]); (try simp only [List.map_toArray, List.map_cons, List.map_nil]); go_simp
    · refine L.asked_skip rfl rfl (fun l a W H => ?_)
      have l19 : l 19 = true := H.deps ⟨19, .data⟩ (by simp) rfl
      have e19 : a.eval (.tmp 19) = .pointer (some ⟨wb.heap.size, 0, none⟩) := H.facts 19 rfl
      have e173 : a.eval (.tmp 173) = insV ⟨7, 0, z1, z2, 0, 0, []⟩ (.slice none 0 0) := H.facts 173 rfl
      have hrow := H.s.row l19 H.new
      refine ⟨put7 W wb.heap.size ⟨7, 0, z1, z2, 0, 0, []⟩ (.slice none 0 0), run_store46 rfl e19 e173 hrow, ⟨put7_below H.s.below (Nat.le_refl _) _ _, (fun h => by have h' : l 19 = false := h; rw [l19] at h'; cases h'), (fun _ h => by simp [upd] at h), fun _ => put7_row hrow⟩, fun _ _ h => h⟩
  · intro l q W hall hS hq
    exact hend q W (hq 19 rfl) hS.below (hS.done (hall 20 (by decide)))
/-- What is known of each temporary. -/
def G30 (pc mb mo len mc i : Nat) (x1 x2 z1 z2 r s : Int) : Tmp → Value → World → Prop
  | 180, xx, _ => xx = .slice (some ⟨mb, mo, none⟩) len mc
  | 181, xx, _ => xx = .int .i64 (i : Nat)
  | 182, xx, _ => xx = .int .i64 ((i : Int) + 1)
  | 183, xx, _ => xx = .pointer (some ⟨mb, mo + (i + 1), none⟩)
  | 184, xx, _ => xx = .int .u8 x1
  | 185, xx, _ => xx = .int .i64 x1
  | 186, xx, _ => xx = .pointer (some ⟨pc, 1, none⟩)
  | 187, xx, _ => xx = .int .i64 r
  | 188, xx, _ => xx = .int .i64 z1
  | 189, xx, _ => xx = .slice (some ⟨mb, mo, none⟩) len mc
  | 190, xx, _ => xx = .int .i64 (i : Nat)
  | 191, xx, _ => xx = .int .i64 ((i : Int) + 2)
  | 192, xx, _ => xx = .pointer (some ⟨mb, mo + (i + 2), none⟩)
  | 193, xx, _ => xx = .int .u8 x2
  | 194, xx, _ => xx = .int .i64 x2
  | 195, xx, _ => xx = .pointer (some ⟨pc, 2, none⟩)
  | 196, xx, _ => xx = .int .i64 s
  | 197, xx, _ => xx = .int .i64 z2
  | 198, xx, _ => xx = insV ⟨8, 0, z1, z2, 0, 0, []⟩ (.slice none 0 0)
  | _, _, _ => True
structure S30 (wb : World) (pn : Nat) (X0 X : Ins) (l : Nat → Bool) (W : World) : Prop where
  below : Below wb.heap.size wb W
  row : l 19 = false → W.heap[pn]? = some (Obj.cells (rowI X0 (.slice none 0 0)) 86 (0, 0))
  done : l 19 = true → W.heap[pn]? = some (Obj.cells (rowI X (.slice none 0 0)) 86 (0, 0))
theorem S30.skip {wb : World} {pn : Nat} {X0 X : Ins} {l : Nat → Bool} {W : World} (h : S30 wb pn X0 X l W) {i : Nat} (h1 : i ≠ 19) : S30 wb pn X0 X (upd l i) W := by
  have u1 : upd l i 19 = l 19 := if_neg (fun e => h1 e.symm)
  exact ⟨h.below, by rw [u1]; exact h.row, by rw [u1]; exact h.done⟩
set_option maxRecDepth 100000 in
theorem r30_ok {Q : Exit → Act → World → Prop} {a0 : Act} {wb wc : World} {pn pc mb mo len mc i : Nat} {x1 x2 z1 z2 r s : Int} {X0 : Ins} (hz : a0.tmps.size = 234) (b9 : a0.eval (.tmp 9) = .pointer (some ⟨pc, 0, none⟩)) (b3 : a0.eval (.tmp 3) = .slice (some ⟨mb, mo, none⟩) len mc) (b17 : a0.eval (.tmp 17) = .int .i64 (i : Nat)) (m1 : wb.cell? ⟨pc, 1, none⟩ = some (.int .i64 r)) (m2 : wb.cell? ⟨pc, 2, none⟩ = some (.int .i64 s)) (y1 : wb.cell? ⟨mb, mo + (i + 1), none⟩ = some (.int .u8 x1)) (y2 : wb.cell? ⟨mb, mo + (i + 2), none⟩ = some (.int .u8 x2)) (hx1 : 0 ≤ x1 ∧ x1 < 256) (hx2 : 0 ≤ x2 ∧ x2 < 256) (hi : (i : Int) + 2 < (len : Int)) (hi60 : (i : Int) < 60) (hr : 0 < r) (hs : 0 < s) (t1 : x1.tmod r = z1) (t2 : x2.tmod s = z2) (b19 : a0.eval (.tmp 19) = .pointer (some ⟨pn, 0, none⟩)) (hb : Below wb.heap.size wb wc) (hpn : wb.heap.size ≤ pn) (hrow : wc.heap[pn]? = some (Obj.cells (rowI X0 (.slice none 0 0)) 86 (0, 0)))
    (hend : ∀ (q : Tmp → Value) (W : World), Below wb.heap.size wb W → W.heap[pn]? = some (Obj.cells (rowI ⟨8, 0, z1, z2, 0, 0, []⟩ (.slice none 0 0)) 86 (0, 0)) → Q .normal (overlay a0 (dstsOf ops30) q) W) : (Code.region 30 ops30 true).wp Try.prog Q a0 wc := by
  have s0 : (s == 0) = false := by rw [beq_eq_false_iff_ne]; omega
  have s1 : (s == -1) = false := by rw [beq_eq_false_iff_ne]; omega
  have r0 : (r == 0) = false := by rw [beq_eq_false_iff_ne]; omega
  have r1 : (r == -1) = false := by rw [beq_eq_false_iff_ne]; omega
  refine L.wp_region_eachL (by kernel_rfl) (fun _ t y _ => G30 pc mb mo len mc i x1 x2 z1 z2 r s t y wb) (fun l W => S30 wb pn X0 ⟨8, 0, z1, z2, 0, 0, []⟩ l W) (by rw [hz]; kernel_rfl) ⟨hb.drew, fun _ => hrow, fun h => by simp at h⟩ ?_ ?_
  · refine And.intro ?_ (And.intro ?_ (And.intro ?_ (And.intro ?_ (And.intro ?_ (And.intro ?_ (And.intro ?_ (And.intro ?_ (And.intro ?_ (And.intro ?_ (And.intro ?_ (And.intro ?_ (And.intro ?_ (And.intro ?_ (And.intro ?_ (And.intro ?_ (And.intro ?_ (And.intro ?_ (And.intro ?_ (And.intro ?_ trivial)))))))))))))))))))
    · refine L.asked_pure rfl rfl (fun _ _ h => h.skip (by decide)) (fun _ _ _ _ _ h => h) (fun _ _ _ => rfl) (fun l a W H => ?_)
      have e3 : a.eval (.tmp 3) = .slice (some ⟨mb, mo, none⟩) len mc := (H.base 3 rfl).trans b3
      exact run_move rfl e3
    · refine L.asked_pure rfl rfl (fun _ _ h => h.skip (by decide)) (fun _ _ _ _ _ h => h) (fun _ _ _ => rfl) (fun l a W H => ?_)
      have e17 : a.eval (.tmp 17) = .int .i64 (i : Nat) := (H.base 17 rfl).trans b17
      exact run_move rfl e17
    · refine L.asked_pure rfl rfl (fun _ _ h => h.skip (by decide)) (fun _ _ _ _ _ h => h) (fun _ _ _ => rfl) (fun l a W H => ?_)
      have e181 : a.eval (.tmp 181) = .int .i64 (i : Nat) := H.facts 181 rfl
      (simp only [execOp]; try simp only [Option.map]); (try simp only [List.map_toArray, List.map_cons, List.map_nil]); (simp only [e181]; go_simp)
      all_goals (try first | go_num | omega | (rw [IntKind.wrap_i64]; omega) | (rw [IntKind.wrap_u8]; omega))
    · refine L.asked_pure rfl rfl (fun _ _ h => h.skip (by decide)) (fun _ _ _ _ _ h => h) (fun _ _ _ => rfl) (fun l a W H => ?_)
      have e180 : a.eval (.tmp 180) = .slice (some ⟨mb, mo, none⟩) len mc := H.facts 180 rfl
      have e182 : a.eval (.tmp 182) = .int .i64 ((i : Int) + 1) := H.facts 182 rfl
      (simp only [execOp]; try simp only [Option.map]); (try simp only [List.map_toArray, List.map_cons, List.map_nil]); (simp only [e180, e182]; go_simp)
      all_goals (try first | go_num | omega | (rw [IntKind.wrap_i64]; omega) | (rw [IntKind.wrap_u8]; omega))
    · refine L.asked_pure rfl rfl (fun _ _ h => h.skip (by decide)) (fun _ _ _ _ _ h => h) (fun _ _ _ => rfl) (fun l a W H => ?_)
      have e183 : a.eval (.tmp 183) = .pointer (some ⟨mb, mo + (i + 1), none⟩) := H.facts 183 rfl
      have hcc := cell_below H.s.below y1
      (simp only [execOp]; try simp only [Option.map]); (try simp only [List.map_toArray, List.map_cons, List.map_nil]); (simp only [e183]; go_simp)
      all_goals (try first | go_num | omega | (rw [IntKind.wrap_i64]; omega) | (rw [IntKind.wrap_u8]; omega))
    · refine L.asked_pure rfl rfl (fun _ _ h => h.skip (by decide)) (fun _ _ _ _ _ h => h) (fun _ _ _ => rfl) (fun l a W H => ?_)
      have e184 : a.eval (.tmp 184) = .int .u8 x1 := H.facts 184 rfl
      (simp only [execOp]; try simp only [Option.map]); (try simp only [List.map_toArray, List.map_cons, List.map_nil]); (simp only [e184]; go_simp)
      all_goals (try first | go_num | omega | (rw [IntKind.wrap_i64]; omega) | (rw [IntKind.wrap_u8]; omega))
    · refine L.asked_pure rfl rfl (fun _ _ h => h.skip (by decide)) (fun _ _ _ _ _ h => h) (fun _ _ _ => rfl) (fun l a W H => ?_)
      have e9 : a.eval (.tmp 9) = .pointer (some ⟨pc, 0, none⟩) := (H.base 9 rfl).trans b9
      simp only [execOp, e9]; go_simp
    · refine L.asked_pure rfl rfl (fun _ _ h => h.skip (by decide)) (fun _ _ _ _ _ h => h) (fun _ _ _ => rfl) (fun l a W H => ?_)
      have e186 : a.eval (.tmp 186) = .pointer (some ⟨pc, 1, none⟩) := H.facts 186 rfl
      have hcc := cell_below H.s.below m1
      simp only [execOp, e186]; go_simp
    · refine L.asked_pure rfl rfl (fun _ _ h => h.skip (by decide)) (fun _ _ _ _ _ h => h) (fun _ _ _ => rfl) (fun l a W H => ?_)
      have e185 : a.eval (.tmp 185) = .int .i64 x1 := H.facts 185 rfl
      have e187 : a.eval (.tmp 187) = .int .i64 r := H.facts 187 rfl
      (simp only [execOp]; try simp only [Option.map]); (try simp only [List.map_toArray, List.map_cons, List.map_nil]); (simp only [e185, e187]; go_simp)
      all_goals (try first | go_num | omega | (rw [IntKind.wrap_i64]; omega) | (rw [IntKind.wrap_u8]; omega))
    · refine L.asked_pure rfl rfl (fun _ _ h => h.skip (by decide)) (fun _ _ _ _ _ h => h) (fun _ _ _ => rfl) (fun l a W H => ?_)
      have e3 : a.eval (.tmp 3) = .slice (some ⟨mb, mo, none⟩) len mc := (H.base 3 rfl).trans b3
      exact run_move rfl e3
    · refine L.asked_pure rfl rfl (fun _ _ h => h.skip (by decide)) (fun _ _ _ _ _ h => h) (fun _ _ _ => rfl) (fun l a W H => ?_)
      have e17 : a.eval (.tmp 17) = .int .i64 (i : Nat) := (H.base 17 rfl).trans b17
      exact run_move rfl e17
    · refine L.asked_pure rfl rfl (fun _ _ h => h.skip (by decide)) (fun _ _ _ _ _ h => h) (fun _ _ _ => rfl) (fun l a W H => ?_)
      have e190 : a.eval (.tmp 190) = .int .i64 (i : Nat) := H.facts 190 rfl
      (simp only [execOp]; try simp only [Option.map]); (try simp only [List.map_toArray, List.map_cons, List.map_nil]); (simp only [e190]; go_simp)
      all_goals (try first | go_num | omega | (rw [IntKind.wrap_i64]; omega) | (rw [IntKind.wrap_u8]; omega))
    · refine L.asked_pure rfl rfl (fun _ _ h => h.skip (by decide)) (fun _ _ _ _ _ h => h) (fun _ _ _ => rfl) (fun l a W H => ?_)
      have e189 : a.eval (.tmp 189) = .slice (some ⟨mb, mo, none⟩) len mc := H.facts 189 rfl
      have e191 : a.eval (.tmp 191) = .int .i64 ((i : Int) + 2) := H.facts 191 rfl
      (simp only [execOp]; try simp only [Option.map]); (try simp only [List.map_toArray, List.map_cons, List.map_nil]); (simp only [e189, e191]; go_simp)
      all_goals (try first | go_num | omega | (rw [IntKind.wrap_i64]; omega) | (rw [IntKind.wrap_u8]; omega))
    · refine L.asked_pure rfl rfl (fun _ _ h => h.skip (by decide)) (fun _ _ _ _ _ h => h) (fun _ _ _ => rfl) (fun l a W H => ?_)
      have e192 : a.eval (.tmp 192) = .pointer (some ⟨mb, mo + (i + 2), none⟩) := H.facts 192 rfl
      have hcc := cell_below H.s.below y2
      simp only [execOp, e192]; go_simp
    · refine L.asked_pure rfl rfl (fun _ _ h => h.skip (by decide)) (fun _ _ _ _ _ h => h) (fun _ _ _ => rfl) (fun l a W H => ?_)
      have e193 : a.eval (.tmp 193) = .int .u8 x2 := H.facts 193 rfl
      (simp only [execOp]; try simp only [Option.map]); (try simp only [List.map_toArray, List.map_cons, List.map_nil]); (simp only [e193]; go_simp)
      all_goals (try first | go_num | omega | (rw [IntKind.wrap_i64]; omega) | (rw [IntKind.wrap_u8]; omega))
    · refine L.asked_pure rfl rfl (fun _ _ h => h.skip (by decide)) (fun _ _ _ _ _ h => h) (fun _ _ _ => rfl) (fun l a W H => ?_)
      have e9 : a.eval (.tmp 9) = .pointer (some ⟨pc, 0, none⟩) := (H.base 9 rfl).trans b9
      simp only [execOp, e9]; go_simp
    · refine L.asked_pure rfl rfl (fun _ _ h => h.skip (by decide)) (fun _ _ _ _ _ h => h) (fun _ _ _ => rfl) (fun l a W H => ?_)
      have e195 : a.eval (.tmp 195) = .pointer (some ⟨pc, 2, none⟩) := H.facts 195 rfl
      have hcc := cell_below H.s.below m2
      (simp only [execOp]; try simp only [Option.map]); (try simp only [List.map_toArray, List.map_cons, List.map_nil]); (simp only [e195]; go_simp)
      all_goals (try first | go_num | omega | (rw [IntKind.wrap_i64]; omega) | (rw [IntKind.wrap_u8]; omega))
    · refine L.asked_pure rfl rfl (fun _ _ h => h.skip (by decide)) (fun _ _ _ _ _ h => h) (fun _ _ _ => rfl) (fun l a W H => ?_)
      have e194 : a.eval (.tmp 194) = .int .i64 x2 := H.facts 194 rfl
      have e196 : a.eval (.tmp 196) = .int .i64 s := H.facts 196 rfl
      (simp only [execOp]; try simp only [Option.map]); (try simp only [List.map_toArray, List.map_cons, List.map_nil]); (simp only [e194, e196]; go_simp)
      all_goals (try first | go_num | omega | (rw [IntKind.wrap_i64]; omega) | (rw [IntKind.wrap_u8]; omega))
    · refine L.asked_pure rfl rfl (fun _ _ h => h.skip (by decide)) (fun _ _ _ _ _ h => h) (fun _ _ _ => rfl) (fun l a W H => ?_)
      have e188 : a.eval (.tmp 188) = .int .i64 z1 := H.facts 188 rfl
      have e197 : a.eval (.tmp 197) = .int .i64 z2 := H.facts 197 rfl
      unfold insV
      (simp only [execOp]; try simp only [Option.map]); (try simp only [List.map_toArray, List.map_cons, List.map_nil]); (simp only [e188, e197]; go_simp)
      all_goals (try first | go_num | omega | (rw [IntKind.wrap_i64]; omega) | (rw [IntKind.wrap_u8]; omega))
    · refine L.asked_skip rfl rfl (fun l a W H => ?_)
      have e19 : a.eval (.tmp 19) = .pointer (some ⟨pn, 0, none⟩) := (H.base 19 rfl).trans b19
      have e198 : a.eval (.tmp 198) = insV ⟨8, 0, z1, z2, 0, 0, []⟩ (.slice none 0 0) := H.facts 198 rfl
      have hrow := H.s.row H.new
      refine ⟨put7 W pn ⟨8, 0, z1, z2, 0, 0, []⟩ (.slice none 0 0), run_store46 rfl e19 e198 hrow, ⟨put7_below H.s.below hpn _ _, fun h => by simp [upd] at h, fun _ => put7_row hrow⟩, fun _ _ h => h⟩
  · intro l q W hall hS hq
    exact hend q W hS.below (hS.done (hall 19 (by decide)))
/-- What is known of each temporary. -/
def G31 (g jb mb mo len mc i n ci kk : Nat) (ua : Option Addr) (x0 xq : Int) : Tmp → Value → World → Prop
  | 199, xx, _ => xx = .slice (some ⟨mb, mo, none⟩) len mc
  | 200, xx, _ => xx = .int .i64 (i : Nat)
  | 201, xx, _ => xx = .pointer (some ⟨mb, mo + i, none⟩)
  | 202, xx, _ => xx = .int .u8 x0
  | 203, xx, _ => xx = .int .u8 xq
  | 204, xx, _ => xx = .int .i64 xq
  | 205, xx, _ => xx = .pointer (some ⟨g, jb * 5, none⟩)
  | 206, xx, _ => xx = .pointer (some ⟨g, jb * 5, none⟩)
  | 207, xx, _ => xx = .pointer (some ⟨g, jb * 5, none⟩)
  | 208, xx, _ => xx = .slice ua n ci
  | 209, xx, _ => xx = .int .i64 (n : Nat)
  | 210, xx, _ => xx = .int .i64 ((n : Int) + 1)
  | 211, xx, _ => xx = .int .i64 (kk : Nat)
  | 20, xx, _ => xx = .int .i64 (kk : Nat)
  | _, _, _ => True
set_option maxRecDepth 100000 in
theorem r31_ok {Q : Exit → Act → World → Prop} {a0 : Act} {wa : World} {g jb mb mo len mc i n ci kk : Nat} {ua : Option Addr} {x0 xq : Int} (hz : a0.tmps.size = 234) (b3 : a0.eval (.tmp 3) = .slice (some ⟨mb, mo, none⟩) len mc) (b17 : a0.eval (.tmp 17) = .int .i64 (i : Nat)) (b18 : a0.eval (.tmp 18) = .pointer (some ⟨g, jb * 5, none⟩))
    (y0 : wa.cell? ⟨mb, mo + i, none⟩ = some (.int .u8 x0)) (hc0 : wa.cell? ⟨g, jb * 5, none⟩ = some (.slice ua n ci)) (hi : (i : Int) < (len : Int)) (tq : x0.tdiv 8 = xq) (hq : 0 ≤ xq ∧ xq < 256) (hn : n ≤ 100) (hkk : xq.tmod ((n : Int) + 1) = (kk : Int))
    (hend : ∀ s : Tmp → Value, s 20 = .int .i64 (kk : Nat) → Q .normal (overlay a0 (dstsOf ops31) s) wa.drew) : (Code.region 31 ops31 true).wp Try.prog Q a0 wa := by
  have n0 : ((n : Int) + 1 == 0) = false := by rw [beq_eq_false_iff_ne]; omega
  have n1 : ((n : Int) + 1 == -1) = false := by rw [beq_eq_false_iff_ne]; omega
  refine L.wp_region_eachL (by kernel_rfl) (fun _ t y _ => G31 g jb mb mo len mc i n ci kk ua x0 xq t y wa) (fun _ W => W = wa.drew) (by rw [hz]; kernel_rfl) rfl ?_ ?_
  · refine And.intro ?_ (And.intro ?_ (And.intro ?_ (And.intro ?_ (And.intro ?_ (And.intro ?_ (And.intro ?_ (And.intro ?_ (And.intro ?_ (And.intro ?_ (And.intro ?_ (And.intro ?_ (And.intro ?_ (And.intro ?_ trivial)))))))))))))
    · refine L.asked_pure rfl rfl (fun _ _ h => h) (fun _ _ _ _ _ h => h) (fun _ _ _ => rfl) (fun l a W H => ?_)
      have e3 : a.eval (.tmp 3) = .slice (some ⟨mb, mo, none⟩) len mc := (H.base 3 rfl).trans b3
      exact run_move rfl e3
    · refine L.asked_pure rfl rfl (fun _ _ h => h) (fun _ _ _ _ _ h => h) (fun _ _ _ => rfl) (fun l a W H => ?_)
      have e17 : a.eval (.tmp 17) = .int .i64 (i : Nat) := (H.base 17 rfl).trans b17
      exact run_move rfl e17
    · refine L.asked_pure rfl rfl (fun _ _ h => h) (fun _ _ _ _ _ h => h) (fun _ _ _ => rfl) (fun l a W H => ?_)
      have e199 : a.eval (.tmp 199) = .slice (some ⟨mb, mo, none⟩) len mc := H.facts 199 rfl
      have e200 : a.eval (.tmp 200) = .int .i64 (i : Nat) := H.facts 200 rfl
      (simp only [execOp]; try simp only [Option.map]); (try simp only [List.map_toArray, List.map_cons, List.map_nil]); (simp only [e199, e200]; go_simp)
      all_goals (try first | go_num | omega | (rw [IntKind.wrap_i64]; omega) | (rw [IntKind.wrap_u8]; omega))
    · refine L.asked_pure rfl rfl (fun _ _ h => h) (fun _ _ _ _ _ h => h) (fun _ _ _ => rfl) (fun l a W H => ?_)
      have e201 : a.eval (.tmp 201) = .pointer (some ⟨mb, mo + i, none⟩) := H.facts 201 rfl
      have hcc : W.cell? ⟨mb, mo + i, none⟩ = some (.int .u8 x0) := by rw [H.s]; exact y0
      simp only [execOp, e201]; go_simp
    · refine L.asked_pure rfl rfl (fun _ _ h => h) (fun _ _ _ _ _ h => h) (fun _ _ _ => rfl) (fun l a W H => ?_)
      have e202 : a.eval (.tmp 202) = .int .u8 x0 := H.facts 202 rfl
      (simp only [execOp]; try simp only [Option.map]); (try simp only [List.map_toArray, List.map_cons, List.map_nil]); (simp only [e202]; go_simp)
      all_goals (try first | go_num | omega | (rw [IntKind.wrap_i64]; omega) | (rw [IntKind.wrap_u8]; omega))
    · refine L.asked_pure rfl rfl (fun _ _ h => h) (fun _ _ _ _ _ h => h) (fun _ _ _ => rfl) (fun l a W H => ?_)
      have e203 : a.eval (.tmp 203) = .int .u8 xq := H.facts 203 rfl
      (simp only [execOp]; try simp only [Option.map]); (try simp only [List.map_toArray, List.map_cons, List.map_nil]); (simp only [e203]; go_simp)
      all_goals (try first | go_num | omega | (rw [IntKind.wrap_i64]; omega) | (rw [IntKind.wrap_u8]; omega))
    · refine L.asked_pure rfl rfl (fun _ _ h => h) (fun _ _ _ _ _ h => h) (fun _ _ _ => rfl) (fun l a W H => ?_)
      have e18 : a.eval (.tmp 18) = .pointer (some ⟨g, jb * 5, none⟩) := (H.base 18 rfl).trans b18
      exact run_move rfl e18
    · refine L.asked_pure rfl rfl (fun _ _ h => h) (fun _ _ _ _ _ h => h) (fun _ _ _ => rfl) (fun l a W H => ?_)
      have e205 : a.eval (.tmp 205) = .pointer (some ⟨g, jb * 5, none⟩) := H.facts 205 rfl
      simp only [execOp, e205]; go_simp
    · refine L.asked_pure rfl rfl (fun _ _ h => h) (fun _ _ _ _ _ h => h) (fun _ _ _ => rfl) (fun l a W H => ?_)
      have e206 : a.eval (.tmp 206) = .pointer (some ⟨g, jb * 5, none⟩) := H.facts 206 rfl
      simp only [execOp, e206]; go_simp
    · refine L.asked_pure rfl rfl (fun _ _ h => h) (fun _ _ _ _ _ h => h) (fun _ _ _ => rfl) (fun l a W H => ?_)
      have e207 : a.eval (.tmp 207) = .pointer (some ⟨g, jb * 5, none⟩) := H.facts 207 rfl
      have hcc : W.cell? ⟨g, jb * 5, none⟩ = some (.slice ua n ci) := by rw [H.s]; exact hc0
      simp only [execOp, e207]; go_simp
    · refine L.asked_pure rfl rfl (fun _ _ h => h) (fun _ _ _ _ _ h => h) (fun _ _ _ => rfl) (fun l a W H => ?_)
      have e208 : a.eval (.tmp 208) = .slice ua n ci := H.facts 208 rfl
      exact run_len rfl e208 Try.underlying80
    · refine L.asked_pure rfl rfl (fun _ _ h => h) (fun _ _ _ _ _ h => h) (fun _ _ _ => rfl) (fun l a W H => ?_)
      have e209 : a.eval (.tmp 209) = .int .i64 (n : Nat) := H.facts 209 rfl
      (simp only [execOp]; try simp only [Option.map]); (try simp only [List.map_toArray, List.map_cons, List.map_nil]); (simp only [e209]; go_simp)
      all_goals (try first | go_num | omega | (rw [IntKind.wrap_i64]; omega) | (rw [IntKind.wrap_u8]; omega))
    · refine L.asked_pure rfl rfl (fun _ _ h => h) (fun _ _ _ _ _ h => h) (fun _ _ _ => rfl) (fun l a W H => ?_)
      have e204 : a.eval (.tmp 204) = .int .i64 xq := H.facts 204 rfl
      have e210 : a.eval (.tmp 210) = .int .i64 ((n : Int) + 1) := H.facts 210 rfl
      (simp only [execOp]; try simp only [Option.map]); (try simp only [List.map_toArray, List.map_cons, List.map_nil]); (simp only [e204, e210]; go_simp)
      all_goals (try first | go_num | omega | (rw [IntKind.wrap_i64]; omega) | (rw [IntKind.wrap_u8]; omega))
    · refine L.asked_pure rfl rfl (fun _ _ h => h) (fun _ _ _ _ _ h => h) (fun _ _ _ => rfl) (fun l a W H => ?_)
      have e211 : a.eval (.tmp 211) = .int .i64 (kk : Nat) := H.facts 211 rfl
      exact run_assign rfl e211
  · intro l s W _ hS hs
    subst hS
    exact hend s (hs 20 rfl)
set_option maxHeartbeats 1000000 in
set_option maxRecDepth 100000 in
theorem r32_ok {Q : Exit → Act → World → Prop} {a0 : Act} {wd : World} {B g jb n ci kk pn : Nat} {ua : Option Addr} {X : Ins} {ps : List (Ins × Value)} (hz : a0.tmps.size = 234) (b18 : a0.eval (.tmp 18) = .pointer (some ⟨g, jb * 5, none⟩)) (b19 : a0.eval (.tmp 19) = .pointer (some ⟨pn, 0, none⟩)) (b20 : a0.eval (.tmp 20) = .int .i64 (kk : Nat))
    (hc0 : wd.cell? ⟨g, jb * 5, none⟩ = some (.slice ua n ci)) (hrow : ∃ cs, wd.heap[g]? = some (Obj.cells cs 82 (0, 0))) (hbox : InsCells wd pn 0 X (.slice none 0 0)) (hown : wd.ownsRow B 86 7 (.slice ua n ci) ps.length (cellsI ps)) (hpl : ps.length ≤ 100) (hk : kk ≤ ps.length) (hsl : ∀ p ∈ ps, ∃ a n c, p.2 = .slice a n c)
    (hend : ∀ (q : Tmp → Value) (W1 : World) (v : Value), Below wd.heap.size wd W1 → W1.ownsRow wd.heap.size 86 7 v ((ps.take kk ++ [(X, Value.slice none 0 0)]) ++ ps.drop kk).length (cellsI ((ps.take kk ++ [(X, Value.slice none 0 0)]) ++ ps.drop kk)) → Q .normal (overlay a0 (dstsOf ops32) q) (W1.setCell ⟨g, jb * 5, none⟩ v)) : (Code.region 32 ops32 true).wp Try.prog Q a0 wd := by
  obtain ⟨hsrc1, hkc⟩ := SrcI.cut1 hown hk
  obtain ⟨hsrc2, hkn⟩ := SrcI.cut2 hown hk
  refine L.wp_region_eachL (by kernel_rfl) (fun l t y W => G32 wd.heap.size g (jb * 5) kk (.slice ua n ci) (.slice ua kk ci) (.slice (if ci = kk then ua else ua.map (·.add (kk * 7))) (n - kk) (ci - kk)) X ps l t y W) (fun l W => S32 g (jb * 5) wd ((ps.take kk ++ [(X, Value.slice none 0 0)]) ++ ps.drop kk) l W) (by rw [hz]; kernel_rfl) ⟨fun _ => (Below.refl _ _).drew, fun h => by simp at h⟩ ?_ ?_
  · refine And.intro ?_ (And.intro ?_ (And.intro ?_ (And.intro ?_ (And.intro ?_ (And.intro ?_ (And.intro ?_ (And.intro ?_ (And.intro ?_ (And.intro ?_ (And.intro ?_ (And.intro ?_ (And.intro ?_ (And.intro ?_ (And.intro ?_ (And.intro ?_ (And.intro ?_ (And.intro ?_ (And.intro ?_ (And.intro ?_ (And.intro ?_ (And.intro ?_ trivial)))))))))))))))))))))
    · refine L.asked_pure rfl rfl (fun _ _ h => h.skip (by decide)) (fun _ _ _ _ _ h => G32_mono h (by decide) (by decide) (by decide) (by decide) (Below.refl _ _)) (fun _ _ _ => rfl) (fun l a W H => ?_)
      have e18 : a.eval (.tmp 18) = .pointer (some ⟨g, jb * 5, none⟩) := (H.base 18 rfl).trans b18
      exact run_move rfl e18
    · refine L.asked_any rfl (fun l a W H => ?_)
      have hl : l 21 = false := by
        cases hs : l 21 with
        | false => rfl
        | true =>
          have h1 := (H.closed 8 1 (by rfl) (H.closed 11 8 (by rfl) (H.closed 18 11 (by rfl) (H.closed 21 18 (by rfl) hs))))
          rw [H.new] at h1
          cases h1
      have hb := H.s.below hl
      have hbx := bel1' W (.cells #[] 86)
      refine ⟨.slice (some ⟨W.heap.size, 0, none⟩) 0 0, W.alloc (.cells #[] 86), ?_, fun d hd => by cases hd; exact fun _ => ⟨W.heap.size, rfl, hb.size, heap_alloc_new W _⟩, ⟨fun _ => bel_of hb hbx, fun h => by have h' : l 21 = true := h; rw [hl] at h'; cases h'⟩, fun _ _ _ h => G32_mono h (by decide) (by decide) (by decide) (by decide) hbx⟩
      simp only [execOp]
      go_simp
    · refine L.asked_pure rfl rfl (fun _ _ h => h.skip (by decide)) (fun _ _ _ _ _ h => G32_mono h (by decide) (by decide) (by decide) (by decide) (Below.refl _ _)) (fun _ _ _ => rfl) (fun l a W H => ?_)
      have e18 : a.eval (.tmp 18) = .pointer (some ⟨g, jb * 5, none⟩) := (H.base 18 rfl).trans b18
      exact run_move rfl e18
    · refine L.asked_pure rfl rfl (fun _ _ h => h.skip (by decide)) (fun _ _ _ _ _ h => G32_mono h (by decide) (by decide) (by decide) (by decide) (Below.refl _ _)) (fun _ _ _ => rfl) (fun l a W H => ?_)
      have e214 : a.eval (.tmp 214) = .pointer (some ⟨g, jb * 5, none⟩) := H.facts 214 rfl
      simp only [execOp, e214]; go_simp
    · refine L.asked_pure rfl rfl (fun _ _ h => h.skip (by decide)) (fun _ _ _ _ _ h => G32_mono h (by decide) (by decide) (by decide) (by decide) (Below.refl _ _)) (fun _ _ _ => rfl) (fun l a W H => ?_)
      have e215 : a.eval (.tmp 215) = .pointer (some ⟨g, jb * 5, none⟩) := H.facts 215 rfl
      (simp only [execOp]; try simp only [Option.map]); (try simp only [List.map_toArray, List.map_cons, List.map_nil]); (simp only [e215]; go_simp)
    · refine L.asked_pure rfl rfl (fun _ _ h => h.skip (by decide)) (fun _ _ _ _ _ h => G32_mono h (by decide) (by decide) (by decide) (by decide) (Below.refl _ _)) (fun _ _ _ => rfl) (fun l a W H => ?_)
      have e216 : a.eval (.tmp 216) = .pointer (some ⟨g, jb * 5, none⟩) := H.facts 216 rfl
      have hl : l 21 = false := by
        cases hs : l 21 with
        | false => rfl
        | true =>
          have h1 := (H.closed 7 5 (by rfl) (H.closed 8 7 (by rfl) (H.closed 11 8 (by rfl) (H.closed 18 11 (by rfl) (H.closed 21 18 (by rfl) hs)))))
          rw [H.new] at h1
          cases h1
      have hb := H.s.below hl
      have hcc := cell_below hb hc0
      (simp only [execOp]; try simp only [Option.map]); (try simp only [List.map_toArray, List.map_cons, List.map_nil]); (simp only [e216]; go_simp)
    · refine L.asked_pure rfl rfl (fun _ _ h => h.skip (by decide)) (fun _ _ _ _ _ h => G32_mono h (by decide) (by decide) (by decide) (by decide) (Below.refl _ _)) (fun _ _ _ => rfl) (fun l a W H => ?_)
      have e20 : a.eval (.tmp 20) = .int .i64 (kk : Nat) := (H.base 20 rfl).trans b20
      exact run_move rfl e20
    · refine L.asked_pure rfl rfl (fun _ _ h => h.skip (by decide)) (fun _ _ _ _ _ h => G32_mono h (by decide) (by decide) (by decide) (by decide) (Below.refl _ _)) (fun _ _ _ => rfl) (fun l a W H => ?_)
      have e217 : a.eval (.tmp 217) = .slice ua n ci := H.facts 217 rfl
      have e218 : a.eval (.tmp 218) = .int .i64 (kk : Nat) := H.facts 218 rfl
      generalize hρ : a.eval = ρ at *
      (simp only [execOp]; try simp only [Option.map]); (try simp only [List.map_toArray, List.map_cons, List.map_nil]); (simp only [e217, e218, run_cut1 hkc, Sem.run_bind, Sem.run_pure, Result.andThen_ok])
    · refine L.asked_any rfl (fun l a W H => ?_)
      have hl : l 21 = false := by
        cases hs : l 21 with
        | false => rfl
        | true =>
          have h1 := (H.closed 11 8 (by rfl) (H.closed 18 11 (by rfl) (H.closed 21 18 (by rfl) hs)))
          rw [H.new] at h1
          cases h1
      have hb := H.s.below hl
      have l11 : l 11 = false := by
        cases hq : l 11 with
        | false => rfl
        | true =>
          have h1 := H.closed 11 8 (by rfl) hq
          rw [H.new] at h1
          cases h1
      have l18 : l 18 = false := by
        cases hq : l 18 with
        | false => rfl
        | true =>
          have h1 := H.closed 11 8 (by rfl) (H.closed 18 11 (by rfl) hq)
          rw [H.new] at h1
          cases h1
      have e219 : a.eval (.tmp 219) = .slice ua kk ci := H.facts 219 rfl
      obtain ⟨h0, e213, hB0, hr0⟩ := (show l 8 = false → ∃ h, a.eval (.tmp 213) = .slice (some ⟨h, 0, none⟩) 0 0 ∧ wd.heap.size ≤ h ∧ W.heap[h]? = some (Obj.cells #[] 86 (0, 0)) from H.facts 213 rfl) H.new
      have hown0 : W.ownsRow wd.heap.size 86 7 (.slice (some ⟨h0, 0, none⟩) 0 0) ([] : List (Ins × Value)).length (cellsI []) := ⟨rfl, .inr ⟨h0, 0, #[], rfl, hB0, hr0, Nat.le_refl _, by simp [maxLen], rfl, rfl⟩⟩
      refine appI_ok rfl e213 e219 hown0 (hsrc1.below hb) (fun p hp => hsl p (List.mem_of_mem_take hp)) (by simp only [List.length_nil, List.length_take]; omega) hb.size fun v' w' g1 g2 => ?_
      rw [List.nil_append] at g1
      exact ⟨fun d hd => by cases hd; exact fun _ _ => g1, ⟨fun _ => hb.grown g2 hb.size (fun k hk => by simp only [Value.ownBlock, Option.some.injEq] at hk; subst hk; exact hB0), fun h => by have h' : l 21 = true := h; rw [hl] at h'; cases h'⟩, fun d _ hd h => G32_8 h (fun e => hd (by rw [e])) l11 l18 hr0 g2⟩
    · refine L.asked_pure rfl rfl (fun _ _ h => h.skip (by decide)) (fun _ _ _ _ _ h => G32_mono h (by decide) (by decide) (by decide) (by decide) (Below.refl _ _)) (fun _ _ _ => rfl) (fun l a W H => ?_)
      have e19 : a.eval (.tmp 19) = .pointer (some ⟨pn, 0, none⟩) := (H.base 19 rfl).trans b19
      have hl : l 21 = false := by
        cases hs : l 21 with
        | false => rfl
        | true =>
          have h1 := (H.closed 10 9 (by rfl) (H.closed 11 10 (by rfl) (H.closed 18 11 (by rfl) (H.closed 21 18 (by rfl) hs))))
          rw [H.new] at h1
          cases h1
      have hb := H.s.below hl
      exact run_load46 rfl e19 (hbox.below hb)
    · refine L.asked_any rfl (fun l a W H => ?_)
      have hl : l 21 = false := by
        cases hs : l 21 with
        | false => rfl
        | true =>
          have h1 := (H.closed 11 10 (by rfl) (H.closed 18 11 (by rfl) (H.closed 21 18 (by rfl) hs)))
          rw [H.new] at h1
          cases h1
      have hb := H.s.below hl
      have e221 : a.eval (.tmp 221) = insV X (.slice none 0 0) := H.facts 221 rfl
      have hbx := bel1' W (.cells (rowI X (.slice none 0 0)) 86)
      refine ⟨.slice (some ⟨W.heap.size, 0, none⟩) 1 1, W.alloc (.cells (rowI X (.slice none 0 0)) 86), ?_, fun d hd => by cases hd; exact fun _ => ⟨W.heap.size, rfl, hb.size, heap_alloc_new W _⟩, ⟨fun _ => bel_of hb hbx, fun h => by have h' : l 21 = true := h; rw [hl] at h'; cases h'⟩, fun _ _ _ h => G32_mono h (by decide) (by decide) (by decide) (by decide) hbx⟩
      unfold insV at e221
      unfold rowI
      (simp only [execOp]; try simp only [Option.map]); (try simp only [List.map_toArray, List.map_cons, List.map_nil]); (simp only [e221]; go_simp)
    · refine L.asked_any rfl (fun l a W H => ?_)
      have hl : l 21 = false := by
        cases hs : l 21 with
        | false => rfl
        | true =>
          have h1 := (H.closed 18 11 (by rfl) (H.closed 21 18 (by rfl) hs))
          rw [H.new] at h1
          cases h1
      have hb := H.s.below hl
      have l18 : l 18 = false := by
        cases hq : l 18 with
        | false => rfl
        | true =>
          have h1 := H.closed 18 11 (by rfl) hq
          rw [H.new] at h1
          cases h1
      have l8 : l 8 = true := H.deps ⟨8, .data⟩ (by simp) rfl
      obtain ⟨h2, e222, hB2, hr2⟩ := (show l 11 = false → ∃ h, a.eval (.tmp 222) = .slice (some ⟨h, 0, none⟩) 1 1 ∧ wd.heap.size ≤ h ∧ W.heap[h]? = some (Obj.cells (rowI X (.slice none 0 0)) 86 (0, 0)) from H.facts 222 rfl) H.new
      have hown0 := (show l 8 = true → l 11 = false → W.ownsRow wd.heap.size 86 7 (a.eval (.tmp 220)) (ps.take kk).length (cellsI (ps.take kk)) from H.facts 220 rfl) l8 H.new
      have hs2 : SrcI W (.slice (some ⟨h2, 0, none⟩) 1 1) [(X, Value.slice none 0 0)] := .inr ⟨_, _, rfl, fun k u hk => by rw [Addr.add_lit, Nat.zero_add, cell_of_row _ _ _ _ _ _ hr2]; simpa [cellsI, rowI] using hk⟩
      refine appI_ok rfl rfl e222 hown0 hs2 (fun p hp => by simp at hp; subst hp; exact ⟨_, _, _, rfl⟩) (by simp only [List.length_cons, List.length_nil, List.length_take]; omega) hb.size fun v' w' g1 g2 => ?_
      exact ⟨fun d hd => by cases hd; exact fun _ _ => g1, ⟨fun _ => hb.grown g2 hb.size (fun k hk => (hown0.lt k hk).1), fun h => by have h' : l 21 = true := h; rw [hl] at h'; cases h'⟩, fun d _ hd h => G32_11 h (fun e => hd (by rw [e])) l8 l18⟩
    · refine L.asked_pure rfl rfl (fun _ _ h => h.skip (by decide)) (fun _ _ _ _ _ h => G32_mono h (by decide) (by decide) (by decide) (by decide) (Below.refl _ _)) (fun _ _ _ => rfl) (fun l a W H => ?_)
      have e18 : a.eval (.tmp 18) = .pointer (some ⟨g, jb * 5, none⟩) := (H.base 18 rfl).trans b18
      exact run_move rfl e18
    · refine L.asked_pure rfl rfl (fun _ _ h => h.skip (by decide)) (fun _ _ _ _ _ h => G32_mono h (by decide) (by decide) (by decide) (by decide) (Below.refl _ _)) (fun _ _ _ => rfl) (fun l a W H => ?_)
      have e224 : a.eval (.tmp 224) = .pointer (some ⟨g, jb * 5, none⟩) := H.facts 224 rfl
      (simp only [execOp]; try simp only [Option.map]); (try simp only [List.map_toArray, List.map_cons, List.map_nil]); (simp only [e224]; go_simp)
    · refine L.asked_pure rfl rfl (fun _ _ h => h.skip (by decide)) (fun _ _ _ _ _ h => G32_mono h (by decide) (by decide) (by decide) (by decide) (Below.refl _ _)) (fun _ _ _ => rfl) (fun l a W H => ?_)
      have e225 : a.eval (.tmp 225) = .pointer (some ⟨g, jb * 5, none⟩) := H.facts 225 rfl
      (simp only [execOp]; try simp only [Option.map]); (try simp only [List.map_toArray, List.map_cons, List.map_nil]); (simp only [e225]; go_simp)
    · refine L.asked_pure rfl rfl (fun _ _ h => h.skip (by decide)) (fun _ _ _ _ _ h => G32_mono h (by decide) (by decide) (by decide) (by decide) (Below.refl _ _)) (fun _ _ _ => rfl) (fun l a W H => ?_)
      have e226 : a.eval (.tmp 226) = .pointer (some ⟨g, jb * 5, none⟩) := H.facts 226 rfl
      have hl : l 21 = false := by
        cases hs : l 21 with
        | false => rfl
        | true =>
          have h1 := (H.closed 17 15 (by rfl) (H.closed 18 17 (by rfl) (H.closed 21 18 (by rfl) hs)))
          rw [H.new] at h1
          cases h1
      have hb := H.s.below hl
      have hcc := cell_below hb hc0
      simp only [execOp, e226]; go_simp
    · refine L.asked_pure rfl rfl (fun _ _ h => h.skip (by decide)) (fun _ _ _ _ _ h => G32_mono h (by decide) (by decide) (by decide) (by decide) (Below.refl _ _)) (fun _ _ _ => rfl) (fun l a W H => ?_)
      have e20 : a.eval (.tmp 20) = .int .i64 (kk : Nat) := (H.base 20 rfl).trans b20
      exact run_move rfl e20
    · refine L.asked_pure rfl rfl (fun _ _ h => h.skip (by decide)) (fun _ _ _ _ _ h => G32_mono h (by decide) (by decide) (by decide) (by decide) (Below.refl _ _)) (fun _ _ _ => rfl) (fun l a W H => ?_)
      have e227 : a.eval (.tmp 227) = .slice ua n ci := H.facts 227 rfl
      have e228 : a.eval (.tmp 228) = .int .i64 (kk : Nat) := H.facts 228 rfl
      generalize hρ : a.eval = ρ at *
      (simp only [execOp]; try simp only [Option.map]); (try simp only [List.map_toArray, List.map_cons, List.map_nil]); (simp only [e227, e228, run_cut2 hkn, Sem.run_bind, Sem.run_pure, Result.andThen_ok])
      cases ua <;> rfl
    · refine L.asked_any rfl (fun l a W H => ?_)
      have hl : l 21 = false := by
        cases hs : l 21 with
        | false => rfl
        | true =>
          have h1 := (H.closed 21 18 (by rfl) hs)
          rw [H.new] at h1
          cases h1
      have hb := H.s.below hl
      have l11 : l 11 = true := H.deps ⟨11, .data⟩ (by simp) rfl
      have l8 : l 8 = true := H.closed 11 8 (by rfl) l11
      have e229 : a.eval (.tmp 229) = .slice (if ci = kk then ua else ua.map (·.add (kk * 7))) (n - kk) (ci - kk) := H.facts 229 rfl
      have hown0 := (show l 11 = true → l 18 = false → W.ownsRow wd.heap.size 86 7 (a.eval (.tmp 223)) (ps.take kk ++ [(X, Value.slice none 0 0)]).length (cellsI (ps.take kk ++ [(X, Value.slice none 0 0)])) from H.facts 223 rfl) l11 H.new
      refine appI_ok rfl rfl e229 hown0 (hsrc2.below hb) (fun p hp => hsl p (List.mem_of_mem_drop hp)) (by simp only [List.length_append, List.length_cons, List.length_nil, List.length_take, List.length_drop]; omega) hb.size fun v' w' g1 g2 => ?_
      exact ⟨fun d hd => by cases hd; exact fun _ _ => g1, ⟨fun _ => hb.grown g2 hb.size (fun k hk => (hown0.lt k hk).1), fun h => by have h' : l 21 = true := h; rw [hl] at h'; cases h'⟩, fun d _ hd h => G32_18 h (fun e => hd (by rw [e])) l8 l11⟩
    · refine L.asked_pure rfl rfl (fun _ _ h => h.skip (by decide)) (fun _ _ _ _ _ h => G32_mono h (by decide) (by decide) (by decide) (by decide) (Below.refl _ _)) (fun _ _ _ => rfl) (fun l a W H => ?_)
      have e212 : a.eval (.tmp 212) = .pointer (some ⟨g, jb * 5, none⟩) := H.facts 212 rfl
      simp only [execOp, e212]; go_simp
    · refine L.asked_pure rfl rfl (fun _ _ h => h.skip (by decide)) (fun _ _ _ _ _ h => G32_mono h (by decide) (by decide) (by decide) (by decide) (Below.refl _ _)) (fun _ _ _ => rfl) (fun l a W H => ?_)
      have e231 : a.eval (.tmp 231) = .pointer (some ⟨g, jb * 5, none⟩) := H.facts 231 rfl
      simp only [execOp, e231]; go_simp
    · refine L.asked_skip rfl rfl (fun l a W H => ?_)
      have hb := H.s.below H.new
      have l18 : l 18 = true := H.deps ⟨18, .data⟩ (by simp) rfl
      have l11 : l 11 = true := H.closed 18 11 (by rfl) l18
      have l8 : l 8 = true := H.closed 11 8 (by rfl) l11
      have e232 : a.eval (.tmp 232) = .pointer (some ⟨g, jb * 5, none⟩) := H.facts 232 rfl
      have hO := (show l 18 = true → l 21 = false → W.ownsRow wd.heap.size 86 7 (a.eval (.tmp 230)) ((ps.take kk ++ [(X, Value.slice none 0 0)]) ++ ps.drop kk).length (cellsI ((ps.take kk ++ [(X, Value.slice none 0 0)]) ++ ps.drop kk)) from H.facts 230 rfl) l18 H.new
      generalize e230 : a.eval (.tmp 230) = yv at hO
      obtain ⟨ya, yn, yc, rfl⟩ : ∃ ya yn yc, yv = .slice ya yn yc := by
        rcases hO.2 with ⟨rfl, _⟩ | ⟨_, _, _, rfl, _⟩
        · exact ⟨_, _, _, rfl⟩
        · exact ⟨_, _, _, rfl⟩
      have hcc := cell_below hb hc0
      obtain ⟨csg, hcg⟩ := hrow
      have hrg := hb.block g (Array.getElem?_eq_some_iff.1 hcg).1
      rw [hcg] at hrg
      have hf : W.frozen? ⟨g, jb * 5, none⟩ = false := frozen_of_row _ _ _ _ _ hrg
      refine ⟨W.setCell ⟨g, jb * 5, none⟩ (.slice ya yn yc), ?_, ⟨fun h => by simp [upd] at h, fun _ => ⟨W, _, hb, hO, rfl⟩⟩, fun _ _ h => G32_21 h l8 l11 l18⟩
      simp only [execOp, e230, e232]; go_simp
  · intro l q W hall hS hq
    obtain ⟨W1, v, h1, h2, rfl⟩ := hS.done (hall 21 (by decide))
    exact hend q W1 v h1 h2

/-! ### What a round picks -/
theorem bytes3 {w : World} {ma : Option Addr} {mc i : Nat} {ms : List Int} (h : Byt w (.slice ma ms.length mc) ms) (hi : i + 2 < ms.length) : ∃ mb mo x0 x1 x2, ma = some ⟨mb, mo, none⟩ ∧ (w.cell? ⟨mb, mo + i, none⟩ = some (.int .u8 x0) ∧ 0 ≤ x0 ∧ x0 < 256) ∧ (w.cell? ⟨mb, mo + (i + 1), none⟩ = some (.int .u8 x1) ∧ 0 ≤ x1 ∧ x1 < 256) ∧ (w.cell? ⟨mb, mo + (i + 2), none⟩ = some (.int .u8 x2) ∧ 0 ≤ x2 ∧ x2 < 256) := by
  obtain ⟨mb, mo, rfl, hall⟩ := SlV.all h (by omega)
  have y0 := hall i (by omega)
  have y1 := hall (i + 1) (by omega)
  have y2 := hall (i + 2) (by omega)
  rw [Nat.mul_one] at y0 y1 y2
  exact ⟨mb, mo, _, _, _, rfl, y0, y1, y2⟩
theorem divQ {x : Int} (hx : 0 ≤ x ∧ x < 256) (n : Nat) : ∃ (xq : Int) (kk : Nat), x.tdiv 8 = xq ∧ (0 ≤ xq ∧ xq < 256) ∧ xq.tmod ((n : Int) + 1) = (kk : Int) ∧ kk ≤ n := by
  have hq : 0 ≤ x.tdiv 8 ∧ x.tdiv 8 < 256 := by
    rw [Int.tdiv_eq_ediv_of_nonneg hx.1]
    omega
  obtain ⟨kk, h1, h2⟩ := modN (x := x.tdiv 8) (j := n + 1) hq.1 (by omega)
  exact ⟨_, kk, rfl, hq, by rw [← h1]; rfl, by omega⟩
theorem block5 {B pc pr g gc nb : Nat} {p r s : Int} {w : World} {i : Nat} {bs2 : List Blk} {wr : World} (h : I5 B pc pr g gc nb p r s w i bs2 wr) (hi : i < 60) {jb : Nat} (hj : jb < bs2.length) : ∃ ua ci, ∃ ps : List (Ins × Value), wr.cell? ⟨g, jb * 5, none⟩ = some (.slice ua ps.length ci) ∧ wr.ownsRow B 86 7 (.slice ua ps.length ci) ps.length (cellsI ps) ∧ ps.map (·.1) = bs2[jb].ins ∧ (∀ q ∈ ps, ArgsO B wr q.2 q.1.args) ∧ ps.length ≤ 100 := by
  obtain ⟨ui, hbc, hio⟩ := h.own.at jb hj
  obtain ⟨ps, hps, hown, hargs⟩ := hio
  have hpl : ps.length ≤ 100 := by
    have h1 := congrArg List.length hps
    rw [List.length_map] at h1
    have h2 := (h.right _ (List.getElem_mem hj)).2
    omega
  rcases hown.2 with ⟨rfl, h0⟩ | ⟨g', cap, cur, rfl, _⟩
  · refine ⟨none, 0, ps, ?_, ?_, hps, hargs, hpl⟩
    · rw [h0]
      exact hbc.c0
    · have := hown
      rw [h0] at this ⊢
      exact this
  · exact ⟨_, _, ps, hbc.c0, hown, hps, hargs, hpl⟩
end Go.Proofs.Ytbjnhicikkjadaa
namespace Go.Proofs.Ytbjnhicikkjadaa
open Go.RowKit Ir

/-- What is known of each temporary of 'i.D, i.A, i.B = at(i.D), at(i.A), at(i.B)'. -/
def G15 (pc gi k : Nat) (r xd xa xb : Int) : Tmp → Value → World → Prop
  | 68, xx, _ => xx = .pointer (some ⟨gi, k * 7, none⟩)
  | 69, xx, _ => xx = .pointer (some ⟨gi, k * 7, none⟩)
  | 70, xx, _ => xx = .pointer (some ⟨gi, k * 7, none⟩)
  | 71, xx, _ => xx = .func (.func 40) #[] #[.pointer (some ⟨pc, 0, none⟩)]
  | 72, xx, _ => xx = .pointer (some ⟨gi, k * 7, none⟩)
  | 73, xx, _ => xx = .pointer (some ⟨gi, k * 7, none⟩)
  | 74, xx, _ => xx = .pointer (some ⟨gi, k * 7 + 2, none⟩)
  | 75, xx, _ => xx = .int .i64 xd
  | 76, xx, _ => xx = .int .i64 (xd.tmod r)
  | 77, xx, _ => xx = .func (.func 40) #[] #[.pointer (some ⟨pc, 0, none⟩)]
  | 78, xx, _ => xx = .pointer (some ⟨gi, k * 7, none⟩)
  | 79, xx, _ => xx = .pointer (some ⟨gi, k * 7, none⟩)
  | 80, xx, _ => xx = .pointer (some ⟨gi, k * 7 + 3, none⟩)
  | 81, xx, _ => xx = .int .i64 xa
  | 82, xx, _ => xx = .int .i64 (xa.tmod r)
  | 83, xx, _ => xx = .func (.func 40) #[] #[.pointer (some ⟨pc, 0, none⟩)]
  | 84, xx, _ => xx = .pointer (some ⟨gi, k * 7, none⟩)
  | 85, xx, _ => xx = .pointer (some ⟨gi, k * 7, none⟩)
  | 86, xx, _ => xx = .pointer (some ⟨gi, k * 7 + 4, none⟩)
  | 87, xx, _ => xx = .int .i64 xb
  | 88, xx, _ => xx = .int .i64 (xb.tmod r)
  | 89, xx, _ => xx = .pointer (some ⟨gi, k * 7, none⟩)
  | 90, xx, _ => xx = .pointer (some ⟨gi, k * 7 + 2, none⟩)
  | 91, xx, _ => xx = .pointer (some ⟨gi, k * 7, none⟩)
  | 92, xx, _ => xx = .pointer (some ⟨gi, k * 7 + 3, none⟩)
  | 93, xx, _ => xx = .pointer (some ⟨gi, k * 7, none⟩)
  | 94, xx, _ => xx = .pointer (some ⟨gi, k * 7 + 4, none⟩)
  | _, _, _ => True

/-- What stands in the world while that is done. -/
structure S15 (B : Nat) (r : Int) (gi k : Nat) (d a b : Int) (ws : World) (l : Nat → Bool) (W : World) : Prop where
  md : Md B r ws W
  cd : W.cell? ⟨gi, k * 7 + 2, none⟩ = some (.int .i64 (if l 23 = true then d.tmod r else d))
  ca : W.cell? ⟨gi, k * 7 + 3, none⟩ = some (.int .i64 (if l 26 = true then a.tmod r else a))
  cb : W.cell? ⟨gi, k * 7 + 4, none⟩ = some (.int .i64 (if l 29 = true then b.tmod r else b))
section
variable {B : Nat} {r : Int} {gi k : Nat} {d a b : Int} {ws W : World} {l : Nat → Bool}
theorem S15.skip (h : S15 B r gi k d a b ws l W) {i : Nat} (h1 : i ≠ 23) (h2 : i ≠ 26) (h3 : i ≠ 29) : S15 B r gi k d a b ws (upd l i) W := by
  have u1 : upd l i 23 = l 23 := if_neg (fun e => h1 e.symm)
  have u2 : upd l i 26 = l 26 := if_neg (fun e => h2 e.symm)
  have u3 : upd l i 29 = l 29 := if_neg (fun e => h3 e.symm)
  exact ⟨h.md, by rw [u1]; exact h.cd, by rw [u2]; exact h.ca, by rw [u3]; exact h.cb⟩
theorem oth {W : World} {g o o' : Nat} {y c : Value} (hne : o ≠ o') (h : W.cell? ⟨g, o', none⟩ = some c) : (W.setCell ⟨g, o, none⟩ y).cell? ⟨g, o', none⟩ = some c :=
  (World.cell?_setCell_other (w := W) (a := ⟨g, o, none⟩) (b := ⟨g, o', none⟩) (v := y) (by simp only [ne_eq, Addr.mk.injEq, true_and, and_true]; exact hne)).trans h
theorem S15.stcd (h : S15 B r gi k d a b ws l W) (hm : Md B r ws (W.setCell ⟨gi, k * 7 + 2, none⟩ (.int .i64 (d.tmod r)))) {c : Value} (hc : W.cell? ⟨gi, k * 7 + 2, none⟩ = some c) : S15 B r gi k d a b ws (upd l 23) (W.setCell ⟨gi, k * 7 + 2, none⟩ (.int .i64 (d.tmod r))) := by
  have u2 : upd l 23 26 = l 26 := if_neg (by decide)
  have u3 : upd l 23 29 = l 29 := if_neg (by decide)
  refine ⟨hm, ?_, by rw [u2]; exact oth (by omega) h.ca, by rw [u3]; exact oth (by omega) h.cb⟩
  simp only [upd, if_true]
  exact World.cell?_setCell_same (w := W) (a := ⟨gi, k * 7 + 2, none⟩) (v := .int .i64 (d.tmod r)) hc
theorem S15.stca (h : S15 B r gi k d a b ws l W) (hm : Md B r ws (W.setCell ⟨gi, k * 7 + 3, none⟩ (.int .i64 (a.tmod r)))) {c : Value} (hc : W.cell? ⟨gi, k * 7 + 3, none⟩ = some c) : S15 B r gi k d a b ws (upd l 26) (W.setCell ⟨gi, k * 7 + 3, none⟩ (.int .i64 (a.tmod r))) := by
  have u2 : upd l 26 23 = l 23 := if_neg (by decide)
  have u3 : upd l 26 29 = l 29 := if_neg (by decide)
  refine ⟨hm, by rw [u2]; exact oth (by omega) h.cd, ?_, by rw [u3]; exact oth (by omega) h.cb⟩
  simp only [upd, if_true]
  exact World.cell?_setCell_same (w := W) (a := ⟨gi, k * 7 + 3, none⟩) (v := .int .i64 (a.tmod r)) hc
theorem S15.stcb (h : S15 B r gi k d a b ws l W) (hm : Md B r ws (W.setCell ⟨gi, k * 7 + 4, none⟩ (.int .i64 (b.tmod r)))) {c : Value} (hc : W.cell? ⟨gi, k * 7 + 4, none⟩ = some c) : S15 B r gi k d a b ws (upd l 29) (W.setCell ⟨gi, k * 7 + 4, none⟩ (.int .i64 (b.tmod r))) := by
  have u2 : upd l 29 23 = l 23 := if_neg (by decide)
  have u3 : upd l 29 26 = l 26 := if_neg (by decide)
  refine ⟨hm, by rw [u2]; exact oth (by omega) h.cd, by rw [u3]; exact oth (by omega) h.ca, ?_⟩
  simp only [upd, if_true]
  exact World.cell?_setCell_same (w := W) (a := ⟨gi, k * 7 + 4, none⟩) (v := .int .i64 (b.tmod r)) hc
end
/-- What is known of each temporary of 'i.Args[a] = at(i.Args[a])'. -/
def G19 (pc gi k ga na ca2 m : Nat) (r x : Int) : Tmp → Value → World → Prop
  | 103, xx, _ => xx = .pointer (some ⟨gi, k * 7, none⟩)
  | 104, xx, _ => xx = .pointer (some ⟨gi, k * 7, none⟩)
  | 105, xx, _ => xx = .pointer (some ⟨gi, k * 7 + 6, none⟩)
  | 106, xx, _ => xx = .slice (some ⟨ga, 0, none⟩) na ca2
  | 107, xx, _ => xx = .int .i64 (m : Nat)
  | 108, xx, _ => xx = .func (.func 40) #[] #[.pointer (some ⟨pc, 0, none⟩)]
  | 109, xx, _ => xx = .pointer (some ⟨gi, k * 7, none⟩)
  | 110, xx, _ => xx = .pointer (some ⟨gi, k * 7, none⟩)
  | 111, xx, _ => xx = .pointer (some ⟨gi, k * 7 + 6, none⟩)
  | 112, xx, _ => xx = .slice (some ⟨ga, 0, none⟩) na ca2
  | 113, xx, _ => xx = .int .i64 (m : Nat)
  | 114, xx, _ => xx = .pointer (some ⟨ga, m, none⟩)
  | 115, xx, _ => xx = .int .i64 x
  | 116, xx, _ => xx = .int .i64 (x.tmod r)
  | 117, xx, _ => xx = .pointer (some ⟨ga, m, none⟩)
  | _, _, _ => True

structure S19 (B : Nat) (r : Int) (ga m : Nat) (x : Int) (wt : World) (l : Nat → Bool) (W : World) : Prop where
  md : Md B r wt W
  cx : W.cell? ⟨ga, m, none⟩ = some (.int .i64 (if l 15 = true then x.tmod r else x))
theorem S19.skip {B : Nat} {r : Int} {ga m : Nat} {x : Int} {wt W : World} {l : Nat → Bool} (h : S19 B r ga m x wt l W) {i : Nat} (h1 : i ≠ 15) : S19 B r ga m x wt (upd l i) W := by
  have u1 : upd l i 15 = l 15 := if_neg (fun e => h1 e.symm)
  exact ⟨h.md, by rw [u1]; exact h.cx⟩
/-- A cell's number below r, as its row has it. -/
theorem Sm.cell {t : TypeId} {r x : Int} {w w' : World} {B g o : Nat} {cs : Array Value} (hm : Md B r w w') (hrow : w.heap[g]? = some (Obj.cells cs t (0, 0))) (hc : w'.cell? ⟨g, o, none⟩ = some (.int .i64 x)) (hx : 0 ≤ x ∧ x < r) : Sm t r w' g o := by
  obtain ⟨cs', e1, _, _⟩ := hm.cells g cs t hrow
  rw [cell_of_row _ _ _ _ _ _ e1] at hc
  exact ⟨cs', x, e1, hc, hx.1, hx.2⟩

/-- 'c.Params, c.Blocks = f.Params, f.Blocks', then c.Slots. -/
theorem start5 {w W : World} {B pc pr : Nat} {p r s : Int} {u v : Value} {bs : List Blk} (h1 : W.heap[pc]? = some (Obj.cells (rowC 0 r 0 (.slice none 0 0)) 42 (0, 0))) (h2 : W.heap[pr]? = some (Obj.cells (rowC 0 0 0 (.slice none 0 0)) 42 (0, 0))) (hne : pr ≠ pc) (hB : B ≤ pc) (hO : BlksO B W v bs) (hb : Below B w W) :
    (((W.setCell ⟨pc, 0, none⟩ (.int .i64 p)).setCell ⟨pc, 3, none⟩ u).drew).heap[pc]? = some (Obj.cells (rowC p r 0 u) 42 (0, 0)) ∧
    ((((W.setCell ⟨pc, 0, none⟩ (.int .i64 p)).setCell ⟨pc, 3, none⟩ u).drew).setCell ⟨pc, 2, none⟩ (.int .i64 s)).heap[pc]? = some (Obj.cells (rowC p r s u) 42 (0, 0)) ∧
    ((((W.setCell ⟨pc, 0, none⟩ (.int .i64 p)).setCell ⟨pc, 3, none⟩ u).drew).setCell ⟨pc, 2, none⟩ (.int .i64 s)).heap[pr]? = some (Obj.cells (rowC 0 0 0 (.slice none 0 0)) 42 (0, 0)) ∧
    BlksO B ((((W.setCell ⟨pc, 0, none⟩ (.int .i64 p)).setCell ⟨pc, 3, none⟩ u).drew).setCell ⟨pc, 2, none⟩ (.int .i64 s)) v bs ∧
    Below B w ((((W.setCell ⟨pc, 0, none⟩ (.int .i64 p)).setCell ⟨pc, 3, none⟩ u).drew).setCell ⟨pc, 2, none⟩ (.int .i64 s)) := by
  have a1 := heap_setCell_same W pc 0 _ _ (.int .i64 p) h1
  have a2 := heap_setCell_same _ pc 3 _ _ u a1
  have a2' : (((W.setCell ⟨pc, 0, none⟩ (.int .i64 p)).setCell ⟨pc, 3, none⟩ u).drew).heap[pc]? = some (Obj.cells (rowC p r 0 u) 42 (0, 0)) := a2
  have a3 := heap_setCell_same _ pc 2 _ _ (.int .i64 s) a2'
  have k1 : Keeps T41 W _ := Keeps.set h1 rfl (.int .i64 p) (off := 0)
  have k2 : Keeps T41 _ _ := Keeps.set a1 rfl u (off := 3)
  have k3 : Keeps T41 _ _ := Keeps.set a2' rfl (.int .i64 s) (off := 2)
  refine ⟨a2', a3, ?_, ((hO.keeps k1).keeps k2 |>.keeps (Keeps.drew _)).keeps k3, (((hb.setCell (p := ⟨pc, 0, none⟩) hB _).setCell (p := ⟨pc, 3, none⟩) hB _).drew).setCell (p := ⟨pc, 2, none⟩) hB _⟩
  rw [Below.heap_setCell _ _ _ _ (by simpa using hne)]
  show ((W.setCell ⟨pc, 0, none⟩ (.int .i64 p)).setCell ⟨pc, 3, none⟩ u).heap[pr]? = _
  rw [Below.heap_setCell _ _ _ _ (by simpa using hne), Below.heap_setCell _ _ _ _ (by simpa using hne)]
  exact h2
set_option maxHeartbeats 8000000 in
set_option maxRecDepth 100000 in
theorem made5_any (sp : Value) (a b c : Int) (bs : List Int) (rg sl : Int) (mv : Value) (ms : List Int) (w : World) (h : SpecV w sp a b c bs) (hrg : 0 ≤ rg ∧ rg < 256) (hsl : 0 ≤ sl ∧ sl < 256) (hm : Byt w mv ms) :
    Calls Try.prog 16 #[sp, .int .u8 rg, .int .u8 sl, mv] w fun e w' => ∃ (C : Cod) (u : Value), e = .returned (.agg #[.int .i64 C.p, .int .i64 C.r, .int .i64 C.s, u]) ∧ BlksO w.heap.size w' u C.bs ∧ mchk C = (0, 0, 0) ∧ (∀ b ∈ C.bs, b.ins.length ≤ 100) ∧ (∀ b ∈ C.bs, ∀ i ∈ b.ins, I64 i.n) ∧ (ms.length < 3 → C = cod5 a c bs rg sl) ∧ Below w.heap.size w w' := by
  obtain ⟨DD, hDD⟩ : ∃ DD, DD = cod5 a c bs rg sl := ⟨_, rfl⟩
  rw [← hDD]
  obtain ⟨su, rfl, ha, hb, hc, hu⟩ := h
  obtain ⟨ao, cap, rfl⟩ := hu.slice
  obtain ⟨ma, mc, rfl⟩ := hm.slice
  have hmf : ∀ (fn : Fn) (first cap : Array Value) (w : World), (Instr.makeFunc fn first cap).run Try.prog w = .ok (.func fn first cap) w := fun _ _ _ _ => rfl
  have tr : rg.tmod 6 = rg % 6 := Int.tmod_eq_emod_of_nonneg hrg.1
  have ts : sl.tmod 8 = sl % 8 := Int.tmod_eq_emod_of_nonneg hsl.1
  generalize hrr : rg % 6 = rr at tr
  generalize hss : sl % 8 = ss at ts
  have hrr' : 0 ≤ rr ∧ rr < 6 := by omega
  have hss' : 0 ≤ ss ∧ ss < 8 := by omega
  have HDD : Hid (DD = ⟨(made a 0 c bs).p, 3 + rr, max (made a 0 c bs).p 1 + ss, (made a 0 c bs).bs.map (modB (3 + rr))⟩) := by
    show _ = _
    rw [hDD, ← hrr, ← hss]
    rfl
  clear hDD
  have HMS := hide hm
  have B1 := bel1 w (.cells #[.int .u8 a, .int .u8 0, .int .u8 c, .slice ao bs.length cap] 27)
  have z1 : (w.alloc (.cells #[.int .u8 a, .int .u8 0, .int .u8 c, .slice ao bs.length cap] 27)).heap.size = w.heap.size + 1 := by simp
  have hu1 := hu.below B1
  generalize hW1 : w.alloc (.cells #[.int .u8 a, .int .u8 0, .int .u8 c, .slice ao bs.length cap] 27) = W1 at *
  have B2 := bel1 W1 (.cells (rowC 0 0 0 (.slice none 0 0)) 42)
  have z2 : (W1.alloc (.cells (rowC 0 0 0 (.slice none 0 0)) 42)).heap.size = w.heap.size + 1 + 1 := by simp [z1]
  have h2 := heap_alloc_new W1 (.cells (rowC 0 0 0 (.slice none 0 0)) 42)
  rw [z1] at h2
  have hu2 := hu1.below B2
  generalize hW2 : W1.alloc (.cells (rowC 0 0 0 (.slice none 0 0)) 42) = W2 at *
  have B3 := bel1 W2 (.cells (rowC 0 (3 + rr) 0 (.slice none 0 0)) 42)
  have z3 : (W2.alloc (.cells (rowC 0 (3 + rr) 0 (.slice none 0 0)) 42)).heap.size = w.heap.size + 1 + 1 + 1 := by simp [z2]
  have h3 := heap_alloc_new W2 (.cells (rowC 0 (3 + rr) 0 (.slice none 0 0)) 42)
  rw [z2] at h3
  have h23 : (W2.alloc (.cells (rowC 0 (3 + rr) 0 (.slice none 0 0)) 42)).heap[w.heap.size + 1]? = some (Obj.cells (rowC 0 0 0 (.slice none 0 0)) 42 (0, 0)) := by
    rw [B3.block _ (by omega)]
    exact h2
  have hu3 := hu2.below B3
  generalize hW3 : W2.alloc (.cells (rowC 0 (3 + rr) 0 (.slice none 0 0)) 42) = W3 at *
  have hM := hide (made_any _ a 0 c bs W3 ⟨_, rfl, ha, by omega, hc, hu3⟩)
  have HB3 := hide (bel_of (bel_of B1 B2) B3)
  have H3 := hide h3
  have H23 := hide h23
  have HZ3 := hide z3
  have HMB := hide (made_blocks a 0 c bs)
  have HRG := hide (made_rgd a 0 c bs)
  have HML := hide (made_len a 0 c bs)
  have HMP : Hid ((made a 0 c bs).p = a % 5) := rfl
  rw [← hW3, ← hW2, ← hW1] at hM
  have E1 := hide hW1
  have E2 := hide hW2
  have E3 := hide hW3
  unfold rowC at hM
  clear hu hu1 hu2 hu3 B1 B2 B3 z1 z2 z3 h2 h3 h23 hW1 hW2 hW3 hm
  go_enter Try.func16, Try.ntmps16
  go_wp2_with fail
  refine hM.out.mono ?_
  rintro e w4 ⟨u, rfl, hO4, hB4⟩
  have e1 := E1.out
  have e2 := E2.out
  have e3 := E3.out
  unfold rowC at e2 e3
  rw [e1, e2, e3] at hO4 hB4
  clear e1 e2 e3 E1 E2 E3 hM
  have hBw := HB3.out
  have hO4 := BlksO.mono hO4 hBw.size
  have hmb := HMB.out
  have hml := HML.out
  have hmp := HMP.out
  generalize made a 0 c bs = F at *
  generalize hvv : vOf a 0 = vv at *
  obtain ⟨g, gc, rfl, hBg, hok⟩ := hO4.ok hmb (by omega)
  have hP : 0 ≤ F.p ∧ F.p ≤ 4 := by rw [hmp]; omega
  have hN : 1 ≤ F.bs.length ∧ F.bs.length ≤ 7 := by omega
  have hz3 := HZ3.out
  have hz4 := hB4.size
  have hr3 := hB4.block (w.heap.size + 1 + 1) (by omega)
  rw [H3.out] at hr3
  have hr2 := hB4.block (w.heap.size + 1) (by omega)
  rw [H23.out] at hr2
  have B5 := bel1 w4 (.cells #[.int .i64 F.p, .int .i64 F.v, .slice (some ⟨g, 0, none⟩) F.bs.length gc] 24)
  have hf := heap_alloc_new w4 (.cells #[.int .i64 F.p, .int .i64 F.v, .slice (some ⟨g, 0, none⟩) F.bs.length gc] 24)
  have hr35 := B5.block (w.heap.size + 1 + 1) (by omega)
  rw [hr3] at hr35
  have hr25 := B5.block (w.heap.size + 1) (by omega)
  rw [hr2] at hr25
  have HO5 := hide (hO4.below B5)
  have HB5 := hide (bel_to (bel_to hBw hB4 hBw.size) B5 (Nat.le_trans hBw.size hz4))
  have f0 : (w4.alloc (.cells #[.int .i64 F.p, .int .i64 F.v, .slice (some ⟨g, 0, none⟩) F.bs.length gc] 24)).cell? ⟨w4.heap.size, 0, none⟩ = some (.int .i64 F.p) := by rw [cell_of_row _ _ _ _ _ _ hf]; rfl
  have f2 : (w4.alloc (.cells #[.int .i64 F.p, .int .i64 F.v, .slice (some ⟨g, 0, none⟩) F.bs.length gc] 24)).cell? ⟨w4.heap.size, 2, none⟩ = some (.slice (some ⟨g, 0, none⟩) F.bs.length gc) := by rw [cell_of_row _ _ _ _ _ _ hf]; rfl
  obtain ⟨c0, c1, c2, c3⟩ := rowC_cells hr35
  have q0 := frozen_of_row _ _ 0 _ _ hr35
  have q2 := frozen_of_row _ _ 2 _ _ hr35
  have q3 := frozen_of_row _ _ 3 _ _ hr35
  have HR3 := hide hr35
  have HR2 := hide hr25
  have HZ4 : Hid (w.heap.size + 1 + 1 < w4.heap.size) := by show _ < _; omega
  have HMB2 := hide hmb
  have HML2 := hide hml
  clear hr35 hr25 hr3 hr2 hf B5 hO4 hB4 H3 H23 hmb hml hmp HMB HML hz3 hz4 hok HB3
  go_wp2_with fail
  generalize w4.alloc (.cells #[.int .i64 F.p, .int .i64 F.v, .slice (some ⟨g, 0, none⟩) F.bs.length gc] 24) = W5 at *
  generalize w4.heap.size = pf at *
  obtain ⟨mx, hmx⟩ : ∃ mx, mx = max F.p 1 := ⟨_, rfl⟩
  rw [← hmx] at HDD
  have hmax : ∀ (ts : Array TypeId) (t : TypeId) (W : World), (Builtin.max_ ts t #[.int .i64 F.p, .int .i64 1]).run Try.prog W = .ok (.int .i64 mx) W := by
    intro ts t W
    rw [run_max_int2, hmx]
    congr 2
    split <;> omega
  have hmx' : 1 ≤ mx ∧ mx < 5 ∧ F.p ≤ mx := by omega
  clear hmx
  obtain ⟨s1, s2, s3, s4, s5⟩ := start5 (p := F.p) (s := mx + ss) (u := .slice (some ⟨g, 0, none⟩) F.bs.length gc) HR3.out HR2.out (by omega) (by omega) HO5.out HB5.out
  go_region
  generalize ((W5.setCell ⟨w.heap.size + 1 + 1, 0, none⟩ (.int .i64 F.p)).setCell ⟨w.heap.size + 1 + 1, 3, none⟩ (.slice (some ⟨g, 0, none⟩) F.bs.length gc)).drew = W6 at *
  obtain ⟨k0, k1, k2, k3⟩ := rowC_cells s1
  have k4 := frozen_of_row _ _ 2 _ _ s1
  obtain ⟨m0, m1, m2, m3⟩ := rowC_cells s2
  have S2 := hide s2
  have S3 := hide s3
  have S4 := hide s4
  have S5 := hide s5
  clear s1 s2 s3 s4 s5 c0 c1 c2 c3 q0 q2 q3 f0 f2 HR2 HR3 HO5 HB5
  go_wp2_with fail
  generalize W6.setCell ⟨w.heap.size + 1 + 1, 2, none⟩ (.int .i64 (mx + ss)) = W0 at *
  obtain ⟨g', c', e', _, hok⟩ := S4.out.ok HMB2.out (by omega)
  simp only [Value.slice.injEq, Option.some.injEq, Addr.mk.injEq, and_true] at e'
  obtain ⟨rfl, _, rfl⟩ := e'
  have HOK := hide hok
  have hr0 : 0 < 3 + rr := by omega
  have hrb : 3 ≤ 3 + rr ∧ 3 + rr ≤ 8 := by omega
  have hsb : F.p ≤ mx + ss ∧ 1 ≤ mx + ss ∧ mx + ss ≤ 64 := by omega
  generalize 3 + rr = r at *
  generalize mx + ss = s at *
  generalize hnb : F.bs.length = nb at *
  have HNB := hide hnb
  have hpc0 : w.heap.size + 1 ≠ w.heap.size + 1 + 1 ∧ w.heap.size ≤ w.heap.size + 1 + 1 ∧ w.heap.size ≤ w.heap.size + 1 := by omega
  generalize hpce : w.heap.size + 1 + 1 = pc at *
  generalize hpre : w.heap.size + 1 = pr at *
  generalize hBe : w.heap.size = B at *
  clear hok k0 k1 k2 k3 k4 hmax hpce hpre hnb tr ts hrr hss HZ3 HZ4
  go_loopw [12, 13, 14, 15, 16, 47] (fun _ _ _ _ _ iv wr => ∃ j : Nat, j ≤ nb ∧ iv = .int .i64 j ∧ Md B r W0 wr ∧ ∀ j', j' < j → BlkDone r wr g (j' * 5)) (fun _ _ _ _ _ iv _ => nb - (intOf iv).toNat)
  case atStart => exact ⟨0, by omega, rfl, Md.refl _ _ _, fun j' h => by omega⟩
  case round =>
    rename World => wo
    obtain ⟨j, hj, rfl, hMd, hdone⟩ := hrel
    have hpc := hMd.keeps S2.out ⟨by decide, by decide, by decide⟩
    obtain ⟨m0, m1, m2, m3⟩ := rowC_cells hpc
    by_cases hlt : j < nb
    · obtain ⟨hN0, ua, n, uc, hSl, hn1000, hIs⟩ := (HOK.out j hlt).md hMd
      have hc0 := hSl.cell
      have HPC := hide hpc
      have HN0 := hide hN0
      have HSL := hide hSl
      have HIS := hide hIs
      have HMD := hide hMd
      have HDONE := hide hdone
      have hlt' : (j : Int) < (nb : Int) := by omega
      clear hN0 hSl hIs hMd hdone hpc
      go_wp2_with fail
      go_loopw [14, 15, 16, 59] (fun _ _ _ kv ws => ∃ k : Nat, k ≤ n ∧ kv = .int .i64 k ∧ Md B r wo ws ∧ InssDone r ws ua k) (fun _ _ _ kv _ => n - (intOf kv).toNat)
      case atStart => exact ⟨0, by omega, rfl, Md.refl _ _ _, fun k' h => by omega⟩
      case round =>
        rename World => ws
        obtain ⟨k, hk, rfl, hMd2, hdone2⟩ := hrel
        have hpc := HPC.out
        have hpc := hMd2.keeps hpc ⟨by decide, by decide, by decide⟩
        have hc0 := (HSL.out.md hMd2).cell
        by_cases hltk : k < n
        · obtain ⟨gi, rfl, hBi, hd0, ha0, hb0, ua2, na, ca2, hSl6, hna, hArgs⟩ := (HIS.out.md hMd2) k hltk
          obtain ⟨cs, xd, hrow, hcd, hd, hxd1⟩ := hd0.cell
          obtain ⟨_, xa, _, _, ha, hxa1⟩ := ha0.cell
          obtain ⟨_, xb, _, _, hb, hxb1⟩ := hb0.cell
          have hltk' : (k : Int) < (n : Int) := by omega
          have HA := hide hArgs
          have HMD2 := hide hMd2
          have HD2 := hide hdone2
          have HROW := hide hrow
          clear hArgs hMd2 hdone2 hd0 ha0 hb0 hcd HOK
          go_wp2_with fail
          refine L.wp_region_eachL (by kernel_rfl) (fun _ t y _ => G15 pc gi k r xd xa xb t y ws) (fun l W => S15 B r gi k xd xa xb ws l W) (by kernel_rfl) ⟨Md.drew _ _ _, hd, ha, hb⟩ ?_ ?_
          · refine And.intro ?_ (And.intro ?_ (And.intro ?_ (And.intro ?_ (And.intro ?_ (And.intro ?_ (And.intro ?_ (And.intro ?_ (And.intro ?_ (And.intro ?_ (And.intro ?_ (And.intro ?_ (And.intro ?_ (And.intro ?_ (And.intro ?_ (And.intro ?_ (And.intro ?_ (And.intro ?_ (And.intro ?_ (And.intro ?_ (And.intro ?_ (And.intro ?_ (And.intro ?_ (And.intro ?_ (And.intro ?_ (And.intro ?_ (And.intro ?_ (And.intro ?_ (And.intro ?_ (And.intro ?_ trivial)))))))))))))))))))))))))))))
            · refine L.asked_pure rfl rfl (fun _ _ h => h.skip (by decide) (by decide) (by decide)) (fun _ _ _ _ _ h => h) (fun _ _ _ => rfl) (fun l a W H => ?_)
              have e15 : a.eval (.tmp 15) = .pointer (some ⟨gi, k * 7, none⟩) := H.base 15 rfl
              exact run_move rfl e15
            · refine L.asked_pure rfl rfl (fun _ _ h => h.skip (by decide) (by decide) (by decide)) (fun _ _ _ _ _ h => h) (fun _ _ _ => rfl) (fun l a W H => ?_)
              have e15 : a.eval (.tmp 15) = .pointer (some ⟨gi, k * 7, none⟩) := H.base 15 rfl
              exact run_move rfl e15
            · refine L.asked_pure rfl rfl (fun _ _ h => h.skip (by decide) (by decide) (by decide)) (fun _ _ _ _ _ h => h) (fun _ _ _ => rfl) (fun l a W H => ?_)
              have e15 : a.eval (.tmp 15) = .pointer (some ⟨gi, k * 7, none⟩) := H.base 15 rfl
              exact run_move rfl e15
            · refine L.asked_pure rfl rfl (fun _ _ h => h.skip (by decide) (by decide) (by decide)) (fun _ _ _ _ _ h => h) (fun _ _ _ => rfl) (fun l a W H => ?_)
              have e11 : a.eval (.tmp 11) = .func (.func 40) #[] #[.pointer (some ⟨pc, 0, none⟩)] := H.base 11 rfl
              exact run_move rfl e11
            · refine L.asked_pure rfl rfl (fun _ _ h => h.skip (by decide) (by decide) (by decide)) (fun _ _ _ _ _ h => h) (fun _ _ _ => rfl) (fun l a W H => ?_)
              have e15 : a.eval (.tmp 15) = .pointer (some ⟨gi, k * 7, none⟩) := H.base 15 rfl
              exact run_move rfl e15
            · refine L.asked_pure rfl rfl (fun _ _ h => h.skip (by decide) (by decide) (by decide)) (fun _ _ _ _ _ h => h) (fun _ _ _ => rfl) (fun l a W H => ?_)
              have e72 : a.eval (.tmp 72) = .pointer (some ⟨gi, k * 7, none⟩) := H.facts 72 rfl
              simp only [execOp, e72]; go_simp
            · refine L.asked_pure rfl rfl (fun _ _ h => h.skip (by decide) (by decide) (by decide)) (fun _ _ _ _ _ h => h) (fun _ _ _ => rfl) (fun l a W H => ?_)
              have e73 : a.eval (.tmp 73) = .pointer (some ⟨gi, k * 7, none⟩) := H.facts 73 rfl
              simp only [execOp, e73]; go_simp
            · refine L.asked_pure rfl rfl (fun _ _ h => h.skip (by decide) (by decide) (by decide)) (fun _ _ _ _ _ h => h) (fun _ _ _ => rfl) (fun l a W H => ?_)
              have e74 : a.eval (.tmp 74) = .pointer (some ⟨gi, k * 7 + 2, none⟩) := H.facts 74 rfl
              have hl : l 23 = false := by
                cases hs : l 23 with
                | false => rfl
                | true =>
                  have h1 := H.closed 8 7 (by rfl) (H.closed 23 8 (by rfl) hs)
                  rw [H.new] at h1
                  cases h1
              have hcc := H.s.cd
              rw [hl] at hcc
              have hcc : W.cell? ⟨gi, k * 7 + 2, none⟩ = some (.int .i64 xd) := hcc
              simp only [execOp, e74]; go_simp
            · refine L.asked_clos (cap := #[.pointer (some ⟨pc, 0, none⟩)]) rfl Try.func40 (by kernel_rfl) (by kernel_rfl) rfl rfl (fun l a W H => ?_)
              have ef : a.eval (.tmp 71) = .func (.func 40) #[] #[.pointer (some ⟨pc, 0, none⟩)] := H.facts 71 rfl
              have ex : a.eval (.tmp 75) = .int .i64 xd := H.facts 75 rfl
              refine ⟨ef, ?_⟩
              have ea : (#[Operand.tmp 75] : Array Operand).map a.eval ++ #[Value.pointer (some ⟨pc, 0, none⟩)] = #[.int .i64 xd, .pointer (some ⟨pc, 0, none⟩)] := by simp [ex]
              rw [ea]
              refine (at_any xd r pc W ((rowC_cells (H.s.md.keeps hpc ⟨by decide, by decide, by decide⟩)).2.1) hr0).mono ?_
              rintro y w' ⟨rfl, rfl⟩
              exact ⟨_, rfl, rfl, H.s.skip (by decide) (by decide) (by decide), fun _ _ _ h => h⟩
            · refine L.asked_pure rfl rfl (fun _ _ h => h.skip (by decide) (by decide) (by decide)) (fun _ _ _ _ _ h => h) (fun _ _ _ => rfl) (fun l a W H => ?_)
              have e11 : a.eval (.tmp 11) = .func (.func 40) #[] #[.pointer (some ⟨pc, 0, none⟩)] := H.base 11 rfl
              exact run_move rfl e11
            · refine L.asked_pure rfl rfl (fun _ _ h => h.skip (by decide) (by decide) (by decide)) (fun _ _ _ _ _ h => h) (fun _ _ _ => rfl) (fun l a W H => ?_)
              have e15 : a.eval (.tmp 15) = .pointer (some ⟨gi, k * 7, none⟩) := H.base 15 rfl
              exact run_move rfl e15
            · refine L.asked_pure rfl rfl (fun _ _ h => h.skip (by decide) (by decide) (by decide)) (fun _ _ _ _ _ h => h) (fun _ _ _ => rfl) (fun l a W H => ?_)
              have e78 : a.eval (.tmp 78) = .pointer (some ⟨gi, k * 7, none⟩) := H.facts 78 rfl
              simp only [execOp, e78]; go_simp
            · refine L.asked_pure rfl rfl (fun _ _ h => h.skip (by decide) (by decide) (by decide)) (fun _ _ _ _ _ h => h) (fun _ _ _ => rfl) (fun l a W H => ?_)
              have e79 : a.eval (.tmp 79) = .pointer (some ⟨gi, k * 7, none⟩) := H.facts 79 rfl
              simp only [execOp, e79]; go_simp
            · refine L.asked_pure rfl rfl (fun _ _ h => h.skip (by decide) (by decide) (by decide)) (fun _ _ _ _ _ h => h) (fun _ _ _ => rfl) (fun l a W H => ?_)
              have e80 : a.eval (.tmp 80) = .pointer (some ⟨gi, k * 7 + 3, none⟩) := H.facts 80 rfl
              have hl : l 26 = false := by
                cases hs : l 26 with
                | false => rfl
                | true =>
                  have h1 := H.closed 14 13 (by rfl) (H.closed 26 14 (by rfl) hs)
                  rw [H.new] at h1
                  cases h1
              have hcc := H.s.ca
              rw [hl] at hcc
              have hcc : W.cell? ⟨gi, k * 7 + 3, none⟩ = some (.int .i64 xa) := hcc
              simp only [execOp, e80]; go_simp
            · refine L.asked_clos (cap := #[.pointer (some ⟨pc, 0, none⟩)]) rfl Try.func40 (by kernel_rfl) (by kernel_rfl) rfl rfl (fun l a W H => ?_)
              have ef : a.eval (.tmp 77) = .func (.func 40) #[] #[.pointer (some ⟨pc, 0, none⟩)] := H.facts 77 rfl
              have ex : a.eval (.tmp 81) = .int .i64 xa := H.facts 81 rfl
              refine ⟨ef, ?_⟩
              have ea : (#[Operand.tmp 81] : Array Operand).map a.eval ++ #[Value.pointer (some ⟨pc, 0, none⟩)] = #[.int .i64 xa, .pointer (some ⟨pc, 0, none⟩)] := by simp [ex]
              rw [ea]
              refine (at_any xa r pc W ((rowC_cells (H.s.md.keeps hpc ⟨by decide, by decide, by decide⟩)).2.1) hr0).mono ?_
              rintro y w' ⟨rfl, rfl⟩
              exact ⟨_, rfl, rfl, H.s.skip (by decide) (by decide) (by decide), fun _ _ _ h => h⟩
            · refine L.asked_pure rfl rfl (fun _ _ h => h.skip (by decide) (by decide) (by decide)) (fun _ _ _ _ _ h => h) (fun _ _ _ => rfl) (fun l a W H => ?_)
              have e11 : a.eval (.tmp 11) = .func (.func 40) #[] #[.pointer (some ⟨pc, 0, none⟩)] := H.base 11 rfl
              exact run_move rfl e11
            · refine L.asked_pure rfl rfl (fun _ _ h => h.skip (by decide) (by decide) (by decide)) (fun _ _ _ _ _ h => h) (fun _ _ _ => rfl) (fun l a W H => ?_)
              have e15 : a.eval (.tmp 15) = .pointer (some ⟨gi, k * 7, none⟩) := H.base 15 rfl
              exact run_move rfl e15
            · refine L.asked_pure rfl rfl (fun _ _ h => h.skip (by decide) (by decide) (by decide)) (fun _ _ _ _ _ h => h) (fun _ _ _ => rfl) (fun l a W H => ?_)
              have e84 : a.eval (.tmp 84) = .pointer (some ⟨gi, k * 7, none⟩) := H.facts 84 rfl
              simp only [execOp, e84]; go_simp
            · refine L.asked_pure rfl rfl (fun _ _ h => h.skip (by decide) (by decide) (by decide)) (fun _ _ _ _ _ h => h) (fun _ _ _ => rfl) (fun l a W H => ?_)
              have e85 : a.eval (.tmp 85) = .pointer (some ⟨gi, k * 7, none⟩) := H.facts 85 rfl
              simp only [execOp, e85]; go_simp
            · refine L.asked_pure rfl rfl (fun _ _ h => h.skip (by decide) (by decide) (by decide)) (fun _ _ _ _ _ h => h) (fun _ _ _ => rfl) (fun l a W H => ?_)
              have e86 : a.eval (.tmp 86) = .pointer (some ⟨gi, k * 7 + 4, none⟩) := H.facts 86 rfl
              have hl : l 29 = false := by
                cases hs : l 29 with
                | false => rfl
                | true =>
                  have h1 := H.closed 20 19 (by rfl) (H.closed 29 20 (by rfl) hs)
                  rw [H.new] at h1
                  cases h1
              have hcc := H.s.cb
              rw [hl] at hcc
              have hcc : W.cell? ⟨gi, k * 7 + 4, none⟩ = some (.int .i64 xb) := hcc
              simp only [execOp, e86]; go_simp
            · refine L.asked_clos (cap := #[.pointer (some ⟨pc, 0, none⟩)]) rfl Try.func40 (by kernel_rfl) (by kernel_rfl) rfl rfl (fun l a W H => ?_)
              have ef : a.eval (.tmp 83) = .func (.func 40) #[] #[.pointer (some ⟨pc, 0, none⟩)] := H.facts 83 rfl
              have ex : a.eval (.tmp 87) = .int .i64 xb := H.facts 87 rfl
              refine ⟨ef, ?_⟩
              have ea : (#[Operand.tmp 87] : Array Operand).map a.eval ++ #[Value.pointer (some ⟨pc, 0, none⟩)] = #[.int .i64 xb, .pointer (some ⟨pc, 0, none⟩)] := by simp [ex]
              rw [ea]
              refine (at_any xb r pc W ((rowC_cells (H.s.md.keeps hpc ⟨by decide, by decide, by decide⟩)).2.1) hr0).mono ?_
              rintro y w' ⟨rfl, rfl⟩
              exact ⟨_, rfl, rfl, H.s.skip (by decide) (by decide) (by decide), fun _ _ _ h => h⟩
            · refine L.asked_pure rfl rfl (fun _ _ h => h.skip (by decide) (by decide) (by decide)) (fun _ _ _ _ _ h => h) (fun _ _ _ => rfl) (fun l a W H => ?_)
              have e68 : a.eval (.tmp 68) = .pointer (some ⟨gi, k * 7, none⟩) := H.facts 68 rfl
              simp only [execOp, e68]; go_simp
            · refine L.asked_pure rfl rfl (fun _ _ h => h.skip (by decide) (by decide) (by decide)) (fun _ _ _ _ _ h => h) (fun _ _ _ => rfl) (fun l a W H => ?_)
              have e89 : a.eval (.tmp 89) = .pointer (some ⟨gi, k * 7, none⟩) := H.facts 89 rfl
              simp only [execOp, e89]; go_simp
            · refine L.asked_skip rfl rfl (fun l a W H => ?_)
              have ep : a.eval (.tmp 90) = .pointer (some ⟨gi, k * 7 + 2, none⟩) := H.facts 90 rfl
              have ev : a.eval (.tmp 76) = .int .i64 (xd.tmod r) := H.facts 76 rfl
              have hcc := H.s.cd
              rw [H.new] at hcc
              have hcc : W.cell? ⟨gi, k * 7 + 2, none⟩ = some (.int .i64 xd) := hcc
              obtain ⟨cs', e1, _, _⟩ := H.s.md.cells gi cs 86 hrow
              have hf : W.frozen? ⟨gi, k * 7 + 2, none⟩ = false := frozen_of_row _ _ _ _ _ e1
              have hci := hcc
              rw [cell_of_row _ _ _ _ _ _ e1] at hci
              refine ⟨W.setCell ⟨gi, k * 7 + 2, none⟩ (.int .i64 (xd.tmod r)), ?_, H.s.stcd (H.s.md.trans (Md.set e1 hci (by simp [may]) (Rm.tmod hr0 hxd1) hBi)) hcc, fun _ _ h => h⟩
              simp only [execOp, ep, ev]; go_simp
            · refine L.asked_pure rfl rfl (fun _ _ h => h.skip (by decide) (by decide) (by decide)) (fun _ _ _ _ _ h => h) (fun _ _ _ => rfl) (fun l a W H => ?_)
              have e69 : a.eval (.tmp 69) = .pointer (some ⟨gi, k * 7, none⟩) := H.facts 69 rfl
              simp only [execOp, e69]; go_simp
            · refine L.asked_pure rfl rfl (fun _ _ h => h.skip (by decide) (by decide) (by decide)) (fun _ _ _ _ _ h => h) (fun _ _ _ => rfl) (fun l a W H => ?_)
              have e91 : a.eval (.tmp 91) = .pointer (some ⟨gi, k * 7, none⟩) := H.facts 91 rfl
              simp only [execOp, e91]; go_simp
            · refine L.asked_skip rfl rfl (fun l a W H => ?_)
              have ep : a.eval (.tmp 92) = .pointer (some ⟨gi, k * 7 + 3, none⟩) := H.facts 92 rfl
              have ev : a.eval (.tmp 82) = .int .i64 (xa.tmod r) := H.facts 82 rfl
              have hcc := H.s.ca
              rw [H.new] at hcc
              have hcc : W.cell? ⟨gi, k * 7 + 3, none⟩ = some (.int .i64 xa) := hcc
              obtain ⟨cs', e1, _, _⟩ := H.s.md.cells gi cs 86 hrow
              have hf : W.frozen? ⟨gi, k * 7 + 3, none⟩ = false := frozen_of_row _ _ _ _ _ e1
              have hci := hcc
              rw [cell_of_row _ _ _ _ _ _ e1] at hci
              refine ⟨W.setCell ⟨gi, k * 7 + 3, none⟩ (.int .i64 (xa.tmod r)), ?_, H.s.stca (H.s.md.trans (Md.set e1 hci (by simp [may]) (Rm.tmod hr0 hxa1) hBi)) hcc, fun _ _ h => h⟩
              simp only [execOp, ep, ev]; go_simp
            · refine L.asked_pure rfl rfl (fun _ _ h => h.skip (by decide) (by decide) (by decide)) (fun _ _ _ _ _ h => h) (fun _ _ _ => rfl) (fun l a W H => ?_)
              have e70 : a.eval (.tmp 70) = .pointer (some ⟨gi, k * 7, none⟩) := H.facts 70 rfl
              simp only [execOp, e70]; go_simp
            · refine L.asked_pure rfl rfl (fun _ _ h => h.skip (by decide) (by decide) (by decide)) (fun _ _ _ _ _ h => h) (fun _ _ _ => rfl) (fun l a W H => ?_)
              have e93 : a.eval (.tmp 93) = .pointer (some ⟨gi, k * 7, none⟩) := H.facts 93 rfl
              simp only [execOp, e93]; go_simp
            · refine L.asked_skip rfl rfl (fun l a W H => ?_)
              have ep : a.eval (.tmp 94) = .pointer (some ⟨gi, k * 7 + 4, none⟩) := H.facts 94 rfl
              have ev : a.eval (.tmp 88) = .int .i64 (xb.tmod r) := H.facts 88 rfl
              have hcc := H.s.cb
              rw [H.new] at hcc
              have hcc : W.cell? ⟨gi, k * 7 + 4, none⟩ = some (.int .i64 xb) := hcc
              obtain ⟨cs', e1, _, _⟩ := H.s.md.cells gi cs 86 hrow
              have hf : W.frozen? ⟨gi, k * 7 + 4, none⟩ = false := frozen_of_row _ _ _ _ _ e1
              have hci := hcc
              rw [cell_of_row _ _ _ _ _ _ e1] at hci
              refine ⟨W.setCell ⟨gi, k * 7 + 4, none⟩ (.int .i64 (xb.tmod r)), ?_, H.s.stcb (H.s.md.trans (Md.set e1 hci (by simp [may]) (Rm.tmod hr0 hxb1) hBi)) hcc, fun _ _ h => h⟩
              simp only [execOp, ep, ev]; go_simp
          · intro l s5 w2 hall hS _
            have hmd := hS.md
            have t1 := hS.cd
            have t2 := hS.ca
            have t3 := hS.cb
            rw [hall 23 (by decide)] at t1
            rw [hall 26 (by decide)] at t2
            rw [hall 29 (by decide)] at t3
            have D1 := hide (Sm.cell hmd HROW.out t1 (tmod_in hr0 hxd1))
            have D2 := hide (Sm.cell hmd HROW.out t2 (tmod_in hr0 hxa1))
            have D3 := hide (Sm.cell hmd HROW.out t3 (tmod_in hr0 hxb1))
            have HSL6 := hide (hSl6.md hmd)
            have hc6 := (hSl6.md hmd).cell
            have HA2 := hide (HA.out.md hmd)
            have HMD3 := hide (HMD2.out.trans hmd)
            have HD3 := hide (HD2.out.md hmd)
            have HPC2 := hide (hmd.keeps hpc ⟨by decide, by decide, by decide⟩)
            clear hS hall t1 t2 t3 hmd hd ha hb hpc HROW HMD2 HD2 HA hSl6 hc0 m0 m1 m2 m3 hrow hxd1 hxa1 hxb1
            simp [overlay, dstsOf]
            go_wp2_with fail
            go_loopw [16, 100] (fun _ mv wt => ∃ m : Nat, m ≤ na ∧ mv = .int .i64 m ∧ Md B r w2 wt ∧ ArgsDone r wt ua2 m) (fun _ mv _ => na - (intOf mv).toNat)
            case atStart => exact ⟨0, by omega, rfl, Md.refl _ _ _, fun k' h => by omega⟩
            case round =>
              rename World => wt
              obtain ⟨m, hm, rfl, hMd4, hdone4⟩ := hrel
              have hSl6 := HSL6.out.md hMd4
              by_cases hltm : m < na
              · obtain ⟨ga, rfl, hBa, hx0⟩ := (HA2.out.md hMd4) m hltm
                obtain ⟨csx, x, hrx, _, hx, hx1⟩ := hx0.cell
                have hpc := hMd4.keeps HPC2.out ⟨by decide, by decide, by decide⟩
                have hltm' : (m : Int) < (na : Int) := by omega
                have HMD4 := hide hMd4
                have HD4 := hide hdone4
                clear hMd4 hdone4 hx0
                go_wp2_with fail
                refine L.wp_region_eachL (by kernel_rfl) (fun _ t y _ => G19 pc gi k ga na ca2 m r x t y wt) (fun l W => S19 B r ga m x wt l W) (by kernel_rfl) ⟨Md.drew _ _ _, hx⟩ ?_ ?_
                · refine And.intro ?_ (And.intro ?_ (And.intro ?_ (And.intro ?_ (And.intro ?_ (And.intro ?_ (And.intro ?_ (And.intro ?_ (And.intro ?_ (And.intro ?_ (And.intro ?_ (And.intro ?_ (And.intro ?_ (And.intro ?_ (And.intro ?_ (And.intro ?_ trivial)))))))))))))))
                  · refine L.asked_pure rfl rfl (fun _ _ h => h.skip (by decide)) (fun _ _ _ _ _ h => h) (fun _ _ _ => rfl) (fun l a W H => ?_)
                    have e15 : a.eval (.tmp 15) = .pointer (some ⟨gi, k * 7, none⟩) := H.base 15 rfl
                    exact run_move rfl e15
                  · refine L.asked_pure rfl rfl (fun _ _ h => h.skip (by decide)) (fun _ _ _ _ _ h => h) (fun _ _ _ => rfl) (fun l a W H => ?_)
                    have e103 : a.eval (.tmp 103) = .pointer (some ⟨gi, k * 7, none⟩) := H.facts 103 rfl
                    simp only [execOp, e103]; go_simp
                  · refine L.asked_pure rfl rfl (fun _ _ h => h.skip (by decide)) (fun _ _ _ _ _ h => h) (fun _ _ _ => rfl) (fun l a W H => ?_)
                    have e104 : a.eval (.tmp 104) = .pointer (some ⟨gi, k * 7, none⟩) := H.facts 104 rfl
                    simp only [execOp, e104]; go_simp
                  · refine L.asked_pure rfl rfl (fun _ _ h => h.skip (by decide)) (fun _ _ _ _ _ h => h) (fun _ _ _ => rfl) (fun l a W H => ?_)
                    have e105 : a.eval (.tmp 105) = .pointer (some ⟨gi, k * 7 + 6, none⟩) := H.facts 105 rfl
                    have hcc := (hSl6.md H.s.md).cell
                    simp only [execOp, e105]; go_simp
                  · refine L.asked_pure rfl rfl (fun _ _ h => h.skip (by decide)) (fun _ _ _ _ _ h => h) (fun _ _ _ => rfl) (fun l a W H => ?_)
                    have e16 : a.eval (.tmp 16) = .int .i64 (m : Nat) := H.base 16 rfl
                    exact run_move rfl e16
                  · refine L.asked_pure rfl rfl (fun _ _ h => h.skip (by decide)) (fun _ _ _ _ _ h => h) (fun _ _ _ => rfl) (fun l a W H => ?_)
                    have e11 : a.eval (.tmp 11) = .func (.func 40) #[] #[.pointer (some ⟨pc, 0, none⟩)] := H.base 11 rfl
                    exact run_move rfl e11
                  · refine L.asked_pure rfl rfl (fun _ _ h => h.skip (by decide)) (fun _ _ _ _ _ h => h) (fun _ _ _ => rfl) (fun l a W H => ?_)
                    have e15 : a.eval (.tmp 15) = .pointer (some ⟨gi, k * 7, none⟩) := H.base 15 rfl
                    exact run_move rfl e15
                  · refine L.asked_pure rfl rfl (fun _ _ h => h.skip (by decide)) (fun _ _ _ _ _ h => h) (fun _ _ _ => rfl) (fun l a W H => ?_)
                    have e109 : a.eval (.tmp 109) = .pointer (some ⟨gi, k * 7, none⟩) := H.facts 109 rfl
                    simp only [execOp, e109]; go_simp
                  · refine L.asked_pure rfl rfl (fun _ _ h => h.skip (by decide)) (fun _ _ _ _ _ h => h) (fun _ _ _ => rfl) (fun l a W H => ?_)
                    have e110 : a.eval (.tmp 110) = .pointer (some ⟨gi, k * 7, none⟩) := H.facts 110 rfl
                    simp only [execOp, e110]; go_simp
                  · refine L.asked_pure rfl rfl (fun _ _ h => h.skip (by decide)) (fun _ _ _ _ _ h => h) (fun _ _ _ => rfl) (fun l a W H => ?_)
                    have e111 : a.eval (.tmp 111) = .pointer (some ⟨gi, k * 7 + 6, none⟩) := H.facts 111 rfl
                    have hcc := (hSl6.md H.s.md).cell
                    simp only [execOp, e111]; go_simp
                  · refine L.asked_pure rfl rfl (fun _ _ h => h.skip (by decide)) (fun _ _ _ _ _ h => h) (fun _ _ _ => rfl) (fun l a W H => ?_)
                    have e16 : a.eval (.tmp 16) = .int .i64 (m : Nat) := H.base 16 rfl
                    exact run_move rfl e16
                  · refine L.asked_pure rfl rfl (fun _ _ h => h.skip (by decide)) (fun _ _ _ _ _ h => h) (fun _ _ _ => rfl) (fun l a W H => ?_)
                    have e112 : a.eval (.tmp 112) = .slice (some ⟨ga, 0, none⟩) na ca2 := H.facts 112 rfl
                    have e113 : a.eval (.tmp 113) = .int .i64 (m : Nat) := H.facts 113 rfl
                    have hm' : (m : Int) < (na : Int) := by omega
                    simp only [execOp, e112, e113]; go_simp
                  · refine L.asked_pure rfl rfl (fun _ _ h => h.skip (by decide)) (fun _ _ _ _ _ h => h) (fun _ _ _ => rfl) (fun l a W H => ?_)
                    have e114 : a.eval (.tmp 114) = .pointer (some ⟨ga, m, none⟩) := H.facts 114 rfl
                    have hl : l 15 = false := by
                      cases hs : l 15 with
                      | false => rfl
                      | true =>
                        have h1 := H.closed 13 12 (by rfl) (H.closed 15 13 (by rfl) hs)
                        rw [H.new] at h1
                        cases h1
                    have hcc := H.s.cx
                    rw [hl] at hcc
                    have hcc : W.cell? ⟨ga, m, none⟩ = some (.int .i64 x) := hcc
                    simp only [execOp, e114]; go_simp
                  · refine L.asked_clos (cap := #[.pointer (some ⟨pc, 0, none⟩)]) rfl Try.func40 (by kernel_rfl) (by kernel_rfl) rfl rfl (fun l a W H => ?_)
                    have ef : a.eval (.tmp 108) = .func (.func 40) #[] #[.pointer (some ⟨pc, 0, none⟩)] := H.facts 108 rfl
                    have ex : a.eval (.tmp 115) = .int .i64 x := H.facts 115 rfl
                    refine ⟨ef, ?_⟩
                    have ea : (#[Operand.tmp 115] : Array Operand).map a.eval ++ #[Value.pointer (some ⟨pc, 0, none⟩)] = #[.int .i64 x, .pointer (some ⟨pc, 0, none⟩)] := by simp [ex]
                    rw [ea]
                    refine (at_any x r pc W ((rowC_cells (H.s.md.keeps hpc ⟨by decide, by decide, by decide⟩)).2.1) hr0).mono ?_
                    rintro y w' ⟨rfl, rfl⟩
                    exact ⟨_, rfl, rfl, H.s.skip (by decide), fun _ _ _ h => h⟩
                  · refine L.asked_pure rfl rfl (fun _ _ h => h.skip (by decide)) (fun _ _ _ _ _ h => h) (fun _ _ _ => rfl) (fun l a W H => ?_)
                    have e106 : a.eval (.tmp 106) = .slice (some ⟨ga, 0, none⟩) na ca2 := H.facts 106 rfl
                    have e107 : a.eval (.tmp 107) = .int .i64 (m : Nat) := H.facts 107 rfl
                    have hm' : (m : Int) < (na : Int) := by omega
                    simp only [execOp, e106, e107]; go_simp
                  · refine L.asked_skip rfl rfl (fun l a W H => ?_)
                    have ep : a.eval (.tmp 117) = .pointer (some ⟨ga, m, none⟩) := H.facts 117 rfl
                    have ev : a.eval (.tmp 116) = .int .i64 (x.tmod r) := H.facts 116 rfl
                    have hcc := H.s.cx
                    rw [H.new] at hcc
                    have hcc : W.cell? ⟨ga, m, none⟩ = some (.int .i64 x) := hcc
                    obtain ⟨cs', e1, _, _⟩ := H.s.md.cells ga csx 3 hrx
                    have hf : W.frozen? ⟨ga, m, none⟩ = false := frozen_of_row _ _ _ _ _ e1
                    have hci := hcc
                    rw [cell_of_row _ _ _ _ _ _ e1] at hci
                    refine ⟨W.setCell ⟨ga, m, none⟩ (.int .i64 (x.tmod r)), ?_, ⟨H.s.md.trans (Md.set e1 hci (by simp [may]) (Rm.tmod hr0 hx1) hBa), by simp only [upd, if_true]; exact World.cell?_setCell_same (w := W) (a := ⟨ga, m, none⟩) (v := .int .i64 (x.tmod r)) hcc⟩, fun _ _ h => h⟩
                    simp only [execOp, ep, ev]; go_simp
                · intro l s9 w5 hall hS _
                  have hmd := hS.md
                  have t1 := hS.cx
                  rw [hall 15 (by decide)] at t1
                  have D4 := Sm.cell hmd hrx t1 (tmod_in hr0 hx1)
                  have hMd5 := HMD4.out.trans hmd
                  have hD5 : ArgsDone r w5 (some ⟨ga, 0, none⟩) (m + 1) := by
                    intro m' hm'
                    by_cases e : m' = m
                    · subst e
                      exact ⟨ga, rfl, D4⟩
                    · exact (HD4.out.md hmd) m' (by omega)
                  clear hS hall t1 D4 hmd HMD4 HD4 hx hrx hpc hSl6
                  simp [overlay, dstsOf]
                  go_wp2_with fail
                  go_roundw
                  case rel => exact ⟨m + 1, by omega, by go_num, hMd5, hD5⟩
                  case measure => simp [intOf]; omega
              · obtain rfl : m = na := by omega
                have hMd5 := HMD3.out.trans hMd4
                have hI5 : InsDone r wt gi (k * 7) := ⟨D1.out.md hMd4, D2.out.md hMd4, D3.out.md hMd4, _, _, _, hSl6, hdone4⟩
                have hD5 : InssDone r wt (some ⟨gi, 0, none⟩) (k + 1) := by
                  intro k' hk'
                  by_cases e : k' = k
                  · subst e
                    exact ⟨gi, rfl, hI5⟩
                  · exact (HD3.out.md hMd4) k' (by omega)
                clear hI5 hMd4 hdone4 HMD3 HD3 D1 D2 D3 HSL6 HA2
                go_wp2_with fail
                go_roundw
                case rel => exact ⟨k + 1, by omega, by go_num, hMd5, hD5⟩
                case measure => simp [intOf]; omega
        · obtain rfl : k = n := by omega
          obtain ⟨csA, xA, hrA, hiA, hcA, hA1⟩ := (HN0.out.md hMd2).cell
          have hfA : ws.frozen? ⟨g, j * 5 + 2, none⟩ = false := frozen_of_row _ _ _ _ _ hrA
          have hat := hide (at_any xA r pc ws (rowC_cells hpc).2.1 hr0)
          have hset : Md B r ws (ws.setCell ⟨g, j * 5 + 2, none⟩ (.int .i64 (xA.tmod r))) := Md.set hrA hiA (by simp [may]) (Rm.tmod hr0 hA1) hBg
          have hsm := Sm.cell hset hrA (World.cell?_setCell_same (w := ws) (a := ⟨g, j * 5 + 2, none⟩) (v := .int .i64 (xA.tmod r)) hcA) (tmod_in hr0 hA1)
          have HB2 : Hid (BlkDone r (ws.setCell ⟨g, j * 5 + 2, none⟩ (.int .i64 (xA.tmod r))) g (j * 5)) := ⟨hsm, _, _, _, (HSL.out.md hMd2).md hset, hdone2.md hset⟩
          have HMF := hide ((HMD.out.trans hMd2).trans hset)
          have HDF : Hid (∀ j', j' < j + 1 → BlkDone r (ws.setCell ⟨g, j * 5 + 2, none⟩ (.int .i64 (xA.tmod r))) g (j' * 5)) := by
            intro j' hj'
            by_cases e : j' = j
            · subst e
              exact HB2.out
            · exact ((HDONE.out j' (by omega)).md hMd2).md hset
          generalize xA.tmod r = yA at *
          clear hset hsm HB2 hMd2 hdone2 HMD HDONE hpc hc0 m0 m1 m2 m3 HOK hA1
          go_wp2_with fail
          refine hat.out.mono ?_
          rintro y w7 ⟨rfl, rfl⟩
          clear hat
          go_wp2_with fail
          go_roundw
          case rel => exact ⟨j + 1, by omega, by go_num, HMF.out, HDF.out⟩
          case measure => simp [intOf]; omega
    · obtain rfl : j = nb := by omega
      have hF := S4.out.fit s HMB2.out hMd (g0 := g) (c0 := gc) (by rw [HNB.out]) (by rw [HNB.out]; exact hdone)
      obtain ⟨hO1, hR1⟩ := hF
      have hl1 : (F.bs.map (modB r)).length = F.bs.length := List.length_map _
      have HRG1 : Hid (∀ b ∈ F.bs.map (modB r), ∀ i ∈ b.ins, I64 i.n) := fun b hb i hi => by
        obtain ⟨b', hb', rfl⟩ := List.mem_map.1 hb
        obtain ⟨i', hi', rfl⟩ := List.mem_map.1 hi
        exact HRG.out b' hb' i' hi'
      generalize F.bs.map (modB r) = bs1 at *
      have hpr := hMd.keeps S3.out ⟨by decide, by decide, by decide⟩
      have HI0 : Hid (I5 B pc pr g gc j F.p r s w 0 bs1 wo) := ⟨hO1, by rw [hl1, HNB.out], fun b hb => ⟨by have := (hR1 b hb).1; rw [← HML2.out] at this; exact this, by have := (hR1 b hb).2; omega⟩, hpc, hpr, S5.out.trans hMd.below, by have h1 := S5.out.size; have h2 := hMd.below.size; rw [← hBe]; exact Nat.le_trans h1 h2, HRG1.out⟩
      clear hl1 hO1 hR1 hpr hMd hdone hpc HOK S2 S3 S4 S5 HMB2 m0 m1 m2 m3 hlt hO4
      go_wp2_with fail
      go_loopw [17, 18, 20] (fun iv _ _ wr => ∃ (i : Nat) (bs2 : List Blk), i ≤ 62 ∧ iv = .int .i64 i ∧ I5 B pc pr g gc j F.p r s w i bs2 wr ∧ (ms.length < 3 → bs2 = bs1)) (fun iv _ _ _ => 100 - (intOf iv).toNat)
      case atStart => exact ⟨0, bs1, by omega, rfl, HI0.out, fun _ => rfl⟩
      case round =>
        rename World => wa
        obtain ⟨i, bs2, hi, rfl, hI, hsame⟩ := hrel
        have hms : Byt wa (.slice ma ms.length mc) ms := HMS.out.below (by rw [hBe]; exact hI.below)
        by_cases h12 : i + 2 < ms.length ∧ i < 60
        · obtain ⟨h1, h2⟩ := h12
          obtain ⟨m0, m1, m2, m3⟩ := rowC_cells hI.pcr
          have h1' : (i : Int) + 2 < (ms.length : Int) := by omega
          have h2' : (i : Int) < 60 := by omega
          obtain ⟨mb, mo, x0, x1, x2, rfl, ⟨y0, hx0⟩, ⟨y1, hx1⟩, ⟨y2, hx2⟩⟩ := bytes3 hms h1
          obtain ⟨jb, hjb, hjl⟩ := modN (j := j) hx0.1 (by omega)
          have hjb2 : jb < bs2.length := by rw [hI.len]; exact hjl
          obtain ⟨ua, ci, ps, hc0, hown, hps, hargs, hpl⟩ := block5 hI h2 hjb2
          obtain ⟨z1, t1, e1⟩ := modZ (r := s) hx1.1 (by omega)
          obtain ⟨z2, t2, e2⟩ := modZ (r := r) hx2.1 hr0
          obtain ⟨z3, t3, e3⟩ := modZ (r := r) hx1.1 hr0
          obtain ⟨z4, t4, e4⟩ := modZ (r := s) hx2.1 (by omega)
          obtain ⟨xq, kk, tq, hxq, hkk, hkn⟩ := divQ hx0 ps.length
          obtain ⟨xp, tp⟩ : ∃ xp, x0.tmod 2 = xp := ⟨_, rfl⟩
          have hsl : ∀ p ∈ ps, ∃ a n c, p.2 = .slice a n c := fun p hp => by
            obtain ⟨q1, q2, q3⟩ := (hargs p hp).v.slice
            exact ⟨_, _, _, q3⟩
          have HI := hide hI
          have HOWN := hide hown
          have HSL := hide hsl
          have HARGS := hide hargs
          have HPS := hide hps
          have HT := hide (And.intro t1 (And.intro t2 (And.intro t3 t4)))
          have HTQ := hide (And.intro tq hkk)
          have HJB := hide hjb
          have HC0 := hide hc0
          have HM := hide (And.intro m1 (And.intro m2 m3))
          clear hms hI HI0 hown hsl hargs hps t1 t2 t3 t4 tq hkk hjb hc0 m0 m1 m2 m3
          go_wp2_with fail
          refine r27_ok (pc := pc) (g := g) (j := j) (gc := gc) (jb := jb) rfl rfl rfl rfl HM.out.2.2 y0 hx0 (by omega) HJB.out (by omega) ?_
          intro s27 hs27
          simp [overlay, dstsOf, ops27, hs27]
          go_wp2_with fail
          refine r28_ok (wb := wa.drew) (pc := pc) (r := r) (s := s) rfl rfl rfl rfl HM.out.1 HM.out.2.1 y1 y2 hx1 hx2 h1' h2' hr0 (by omega) HT.out.1 HT.out.2.1 ?_
          intro s28 WX hs28 hb28 hrow28
          have hb28 : Below wa.heap.size wa WX := bel_of (Below.refl wa.heap.size wa).drew hb28
          have hrow28 : WX.heap[wa.heap.size]? = some (Obj.cells (rowI ⟨7, 0, z1, z2, 0, 0, []⟩ (.slice none 0 0)) 86 (0, 0)) := hrow28
          have hs28 : s28 19 = .pointer (some ⟨wa.heap.size, 0, none⟩) := hs28
          have y0x := cell_below hb28 y0
          simp [overlay, dstsOf, ops28, hs28]
          by_cases hp : xp = 1
          · have hp1 : (xp == 1) = true := by simp [hp]
            clear hp
            go_wp2_with fail
            clear y0x
            refine r30_ok (wb := wa) (pn := wa.heap.size) (pc := pc) (r := r) (s := s) rfl rfl rfl rfl HM.out.1 HM.out.2.1 y1 y2 hx1 hx2 h1' h2' hr0 (by omega) HT.out.2.2.1 HT.out.2.2.2 rfl hb28 (Nat.le_refl _) hrow28 ?_
            clear hb28 hrow28
            intro s30 WX hb28 hrow28
            simp [overlay, dstsOf, ops30]
            have hI5 := HI.out.next hb28
            have hown := HOWN.out
            have hsl := HSL.out
            have hps := HPS.out
            have hc0 := HC0.out
            have tq := HTQ.out.1
            have hkk := HTQ.out.2
            have hargs5 : ∀ q ∈ ps, ArgsO B WX q.2 q.1.args := fun q hq => (HARGS.out q hq).keeps (Keeps.below hb28)
            go_wp2_with fail
            refine r31_ok (wa := WX) (kk := kk) (n := ps.length) (ci := ci) (ua := ua) rfl rfl rfl rfl (cell_below hb28 y0) (cell_below hb28 hc0) (by omega) tq hxq hpl hkk ?_
            intro s31 hs31
            simp [overlay, dstsOf, ops31, hs31]
            go_wp2_with fail
            refine r32_ok (wd := WX.drew) (B := B) (g := g) (jb := jb) (n := ps.length) (ci := ci) (ua := ua) (kk := kk) (pn := wa.heap.size) (X := ⟨8, 0, z3, z4, 0, 0, []⟩) (ps := ps) rfl rfl rfl rfl (cell_below hb28 hc0) (hI5.own.row.2) (row_cells hrow28) (owns_below hown (bel_of hb28 (Below.refl _ _).drew)) hpl hkn hsl ?_
            intro s32 W1 v32 hb32 hv32
            have hb32 : Below WX.heap.size WX W1 := bel_of (Below.refl WX.heap.size WX).drew hb32
            have hfin := hI5.step hjb2 hps hargs5 (fill_right e3 e4) rfl (show I64 0 from ⟨by omega, by omega⟩) h2 kk hb32 hv32
            simp [overlay, dstsOf, ops32]
            go_wp2_with fail
            go_roundw
            case rel => exact ⟨i + 3, _, by omega, by go_num, hfin, fun h3 => by omega⟩
            case measure => simp [intOf]; omega
          · have hp1 : (xp == 1) = false := by simp [hp]
            clear hp
            go_wp2_with fail
            clear y0x
            have hI5 := HI.out.next hb28
            have hown := HOWN.out
            have hsl := HSL.out
            have hps := HPS.out
            have hc0 := HC0.out
            have tq := HTQ.out.1
            have hkk := HTQ.out.2
            have hargs5 : ∀ q ∈ ps, ArgsO B WX q.2 q.1.args := fun q hq => (HARGS.out q hq).keeps (Keeps.below hb28)
            refine r31_ok (wa := WX) (kk := kk) (n := ps.length) (ci := ci) (ua := ua) rfl rfl rfl rfl (cell_below hb28 y0) (cell_below hb28 hc0) (by omega) tq hxq hpl hkk ?_
            intro s31 hs31
            simp [overlay, dstsOf, ops31, hs31]
            go_wp2_with fail
            refine r32_ok (wd := WX.drew) (B := B) (g := g) (jb := jb) (n := ps.length) (ci := ci) (ua := ua) (kk := kk) (pn := wa.heap.size) (X := ⟨7, 0, z1, z2, 0, 0, []⟩) (ps := ps) rfl rfl rfl rfl (cell_below hb28 hc0) (hI5.own.row.2) (row_cells hrow28) (owns_below hown (bel_of hb28 (Below.refl _ _).drew)) hpl hkn hsl ?_
            intro s32 W1 v32 hb32 hv32
            have hb32 : Below WX.heap.size WX W1 := bel_of (Below.refl WX.heap.size WX).drew hb32
            have hfin := hI5.step hjb2 hps hargs5 (spill_right e1 e2) rfl (show I64 0 from ⟨by omega, by omega⟩) h2 kk hb32 hv32
            simp [overlay, dstsOf, ops32]
            go_wp2_with fail
            go_roundw
            case rel => exact ⟨i + 3, _, by omega, by go_num, hfin, fun h3 => by omega⟩
            case measure => simp [intOf]; omega
        · have hmch : Hid (mchk ⟨F.p, r, s, bs2⟩ = (0, 0, 0)) := by
            refine mchk_zero ?_ fun b hb => ?_
            · simp only [msz, decide_eq_true_eq, hI.len]
              omega
            · simp only [hI.len]
              exact (hI.right b hb).1
          have hsame2 : Hid (ms.length < 3 → (⟨F.p, r, s, bs2⟩ : Cod) = DD) := fun h => by rw [HDD.out, hsame h]
          have hrg2 : Hid (∀ b ∈ bs2, ∀ i ∈ b.ins, I64 i.n) := hI.rng
          have hsmall : Hid (∀ b ∈ bs2, b.ins.length ≤ 100) := fun b hb => by have := (hI.right b hb).2; omega
          obtain ⟨m0, m1, m2, m3⟩ := rowC_cells hI.pcr
          obtain ⟨q0, q1, q2, q3⟩ := rowC_cells hI.prr
          have f0 := frozen_of_row _ _ 0 _ _ hI.prr
          have f1 := frozen_of_row _ _ 1 _ _ hI.prr
          have f2 := frozen_of_row _ _ 2 _ _ hI.prr
          have f3 := frozen_of_row _ _ 3 _ _ hI.prr
          obtain ⟨v0, v1, v2, v3⟩ := set4 (.int .i64 F.p) (.int .i64 r) (.int .i64 s) (.slice (some ⟨g, 0, none⟩) j gc) q0 q1 q2 q3
          have HOf := hide (hI.own.keeps (keeps_set4 hI.prr (.int .i64 F.p) (.int .i64 r) (.int .i64 s) (.slice (some ⟨g, 0, none⟩) j gc)))
          have HBf := hide (bel_set4 hI.below hpc0.2.2 (.int .i64 F.p) (.int .i64 r) (.int .i64 s) (.slice (some ⟨g, 0, none⟩) j gc))
          clear hI hms HI0
          have hcase : i + 2 < ms.length → ¬ i < 60 := fun a b => h12 ⟨a, b⟩
          clear h12
          by_cases h1 : i + 2 < ms.length
          · have h2 := hcase h1
            have h1' : (i : Int) + 2 < (ms.length : Int) := by omega
            have h2' : 60 ≤ (i : Int) := by omega
            clear hcase
            go_wp2_with fail
            refine bodyPost_ret (v := .agg #[.int .i64 F.p, .int .i64 r, .int .i64 s, .slice (some ⟨g, 0, none⟩) j gc]) (by simp [results, Try.results16, go_sem, v0, v1, v2, v3]) rfl ?_
            subst hBe
            exact ⟨⟨F.p, r, s, bs2⟩, _, rfl, HOf.out, hmch.out, hsmall.out, hrg2.out, hsame2.out, HBf.out⟩
          · have h1' : (ms.length : Int) ≤ (i : Int) + 2 := by omega
            clear hcase
            go_wp2_with fail
            refine bodyPost_ret (v := .agg #[.int .i64 F.p, .int .i64 r, .int .i64 s, .slice (some ⟨g, 0, none⟩) j gc]) (by simp [results, Try.results16, go_sem, v0, v1, v2, v3]) rfl ?_
            subst hBe
            exact ⟨⟨F.p, r, s, bs2⟩, _, rfl, HOf.out, hmch.out, hsmall.out, hrg2.out, hsame2.out, HBf.out⟩
end Go.Proofs.Ytbjnhicikkjadaa
