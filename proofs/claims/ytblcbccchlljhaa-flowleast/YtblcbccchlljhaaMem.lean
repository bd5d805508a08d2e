/- Functions over vregs in memory: how they are read, and how they lie where the call itself has laid them. -/
import Derived.Test.YtblcbccchlljhaaIr
import Derived.Test.YtblcbccchlljhaaChecked
import Derived.WalkSpells
import Derived.Below
import Derived.Laws.CopyOwn
import Derived.Laws.AppendOwnNone
namespace Go.Proofs.Ytblcbccchlljhaa
open Go.RowKit Ir

theorem hide {p : Prop} (h : p) : Hid p := h
theorem bel_of {w w1 w2 : World} (h1 : Below w.heap.size w w1) (h2 : Below w1.heap.size w1 w2) : Below w.heap.size w w2 := h1.trans (h2.mono h1.size)
theorem bel_to {B : Nat} {w w1 w2 : World} (h1 : Below B w w1) (h2 : Below w1.heap.size w1 w2) (hB : B ≤ w1.heap.size) : Below B w w2 := h1.trans (h2.mono hB)

/-! ### Reading -/
section
variable {α : Type}
/-- The slice value v leads to xs: each takes sz cells, E says what lies there. -/
def SlV (sz : Nat) (E : World → Nat → Nat → α → Prop) (z : α) (w : World) (v : Value) (xs : List α) : Prop :=
  ∃ ao cap, v = .slice ao xs.length cap ∧ xs.length ≤ cap ∧ cap ≤ maxLen ∧ (ao = none → cap = 0) ∧ (0 < xs.length → ∃ b off, ao = some ⟨b, off, none⟩ ∧ ∀ j, j < xs.length → E w b (off + j * sz) (xs.getD j z))
variable {sz : Nat} {E : World → Nat → Nat → α → Prop} {z : α} {w w' : World} {v : Value} {xs : List α}
theorem SlV.mono (h : SlV sz E z w v xs) (hE : ∀ b off x, E w b off x → E w' b off x) : SlV sz E z w' v xs := by
  obtain ⟨ao, cap, h1, h2, h3, h4, h5⟩ := h
  refine ⟨ao, cap, h1, h2, h3, h4, fun h0 => ?_⟩
  obtain ⟨b, off, e, hc⟩ := h5 h0
  exact ⟨b, off, e, fun j hj => hE _ _ _ (hc j hj)⟩
theorem SlV.slice (h : SlV sz E z w v xs) : ∃ ao cap, v = .slice ao xs.length cap := by
  obtain ⟨ao, cap, h, _⟩ := h
  exact ⟨ao, cap, h⟩
theorem SlV.cap {ao : Option Addr} {n c : Nat} (h : SlV sz E z w (.slice ao n c) xs) : n = xs.length ∧ n ≤ c ∧ c ≤ maxLen ∧ (ao = none → c = 0) := by
  obtain ⟨ao', cap, h1, h2, h3, h4, _⟩ := h
  simp only [Value.slice.injEq] at h1
  obtain ⟨rfl, rfl, rfl⟩ := h1
  exact ⟨rfl, h2, h3, h4⟩
theorem SlV.at {ao : Option Addr} {n c : Nat} (h : SlV sz E z w (.slice ao n c) xs) (j : Nat) (hj : j < xs.length) : ∃ b off, ao = some ⟨b, off, none⟩ ∧ E w b (off + j * sz) (xs.getD j z) := by
  obtain ⟨ao', cap, h1, _, _, _, h5⟩ := h
  obtain ⟨b, off, e, hc⟩ := h5 (by omega)
  simp only [Value.slice.injEq] at h1
  exact ⟨b, off, h1.1.trans e, hc j hj⟩
/-- The same place for all. -/
theorem SlV.all {ao : Option Addr} {n c : Nat} (h : SlV sz E z w (.slice ao n c) xs) (h0 : 0 < xs.length) : ∃ b off, ao = some ⟨b, off, none⟩ ∧ ∀ j, j < xs.length → E w b (off + j * sz) (xs.getD j z) := by
  obtain ⟨ao', cap, h1, _, _, _, h5⟩ := h
  obtain ⟨b, off, e, hc⟩ := h5 h0
  simp only [Value.slice.injEq] at h1
  exact ⟨b, off, h1.1.trans e, hc⟩
theorem SlV.nil : SlV sz E z w (.slice none 0 0) [] := ⟨none, 0, rfl, Nat.le_refl _, by simp [maxLen], fun _ => rfl, fun h => by simp at h⟩
theorem SlV.len_le (h : SlV sz E z w v xs) : xs.length ≤ maxLen := by
  obtain ⟨ao, cap, _, h2, h3, _⟩ := h
  omega
end

def IntAt (w : World) (b off : Nat) (x : Int) : Prop := w.cell? ⟨b, off, none⟩ = some (.int .i64 x)
def IntsV (w : World) (v : Value) (xs : List Int) : Prop := SlV 1 IntAt 0 w v xs
theorem cell_below {w w' : World} (hB : Below w.heap.size w w') {b off : Nat} {u : Value} (h : w.cell? ⟨b, off, none⟩ = some u) : w'.cell? ⟨b, off, none⟩ = some u :=
  (hB.cell (p := ⟨b, off, none⟩) (World.block_lt_of_cell? w _ h)).trans h
theorem IntsV.below {w w' : World} {v : Value} {xs : List Int} (h : IntsV w v xs) (hB : Below w.heap.size w w') : IntsV w' v xs := SlV.mono h fun _ _ _ => cell_below hB
theorem IntsV.drew {w : World} {v : Value} {xs : List Int} (h : IntsV w v xs) : IntsV w.drew v xs := h.below (Below.refl _ _).drew
theorem IntsV.slice {w : World} {v : Value} {xs : List Int} (h : IntsV w v xs) : ∃ ao cap, v = .slice ao xs.length cap := SlV.slice h
theorem IntsV.at {w : World} {ao : Option Addr} {n c : Nat} {xs : List Int} (h : IntsV w (.slice ao n c) xs) (j : Nat) (hj : j < xs.length) : ∃ b off, ao = some ⟨b, off, none⟩ ∧ w.cell? ⟨b, off + j, none⟩ = some (.int .i64 (xs.getD j 0)) := by
  obtain ⟨b, off, e, h⟩ := SlV.at h j hj
  rw [Nat.mul_one] at h
  exact ⟨b, off, e, h⟩

/-- An instruction's value, with its arguments' value u. -/
def insV (i : Ins) (u : Value) : Value := .agg #[.int .u8 i.k, .int .u8 i.op, .int .i64 i.d, .int .i64 i.a, .int .i64 i.b, .int .i64 i.n, u]
def InsV (w : World) (v : Value) (i : Ins) : Prop := ∃ u, v = insV i u ∧ IntsV w u i.args
/-- An instruction at block b, off, with its arguments' value u. -/
structure InsCells (w : World) (b off : Nat) (i : Ins) (u : Value) : Prop where
  c0 : w.cell? ⟨b, off, none⟩ = some (.int .u8 i.k)
  c1 : w.cell? ⟨b, off + 1, none⟩ = some (.int .u8 i.op)
  c2 : w.cell? ⟨b, off + 2, none⟩ = some (.int .i64 i.d)
  c3 : w.cell? ⟨b, off + 3, none⟩ = some (.int .i64 i.a)
  c4 : w.cell? ⟨b, off + 4, none⟩ = some (.int .i64 i.b)
  c5 : w.cell? ⟨b, off + 5, none⟩ = some (.int .i64 i.n)
  c6 : w.cell? ⟨b, off + 6, none⟩ = some u
def InsAt (w : World) (b off : Nat) (i : Ins) : Prop := ∃ u, InsCells w b off i u ∧ IntsV w u i.args
theorem InsCells.below {w w' : World} {b off : Nat} {i : Ins} {u : Value} (h : InsCells w b off i u) (hB : Below w.heap.size w w') : InsCells w' b off i u :=
  ⟨cell_below hB h.c0, cell_below hB h.c1, cell_below hB h.c2, cell_below hB h.c3, cell_below hB h.c4, cell_below hB h.c5, cell_below hB h.c6⟩
theorem InsAt.below {w w' : World} {b off : Nat} {i : Ins} (h : InsAt w b off i) (hB : Below w.heap.size w w') : InsAt w' b off i := by
  obtain ⟨u, h1, h2⟩ := h
  exact ⟨u, h1.below hB, h2.below hB⟩
theorem InsV.below {w w' : World} {v : Value} {i : Ins} (h : InsV w v i) (hB : Below w.heap.size w w') : InsV w' v i := by
  obtain ⟨u, h1, h2⟩ := h
  exact ⟨u, h1, h2.below hB⟩
def InssV (w : World) (v : Value) (is : List Ins) : Prop := SlV 7 InsAt Ins.zero w v is
theorem InssV.below {w w' : World} {v : Value} {is : List Ins} (h : InssV w v is) (hB : Below w.heap.size w w') : InssV w' v is := SlV.mono h fun _ _ _ h => h.below hB
theorem InssV.slice {w : World} {v : Value} {is : List Ins} (h : InssV w v is) : ∃ ao cap, v = .slice ao is.length cap := SlV.slice h

def blkV (u : Value) (e : En) : Value := .agg #[u, .int .u8 e.k, .int .i64 e.a, .int .i64 e.to, .int .i64 e.el]
def endV (e : En) : Value := .agg #[.int .u8 e.k, .int .i64 e.a, .int .i64 e.to, .int .i64 e.el]
def BlkV (w : World) (v : Value) (b : Blk) : Prop := ∃ u, v = blkV u b.e ∧ InssV w u b.ins
structure BlkCells (w : World) (g off : Nat) (u : Value) (e : En) : Prop where
  c0 : w.cell? ⟨g, off, none⟩ = some u
  c1 : w.cell? ⟨g, off + 1, none⟩ = some (.int .u8 e.k)
  c2 : w.cell? ⟨g, off + 2, none⟩ = some (.int .i64 e.a)
  c3 : w.cell? ⟨g, off + 3, none⟩ = some (.int .i64 e.to)
  c4 : w.cell? ⟨g, off + 4, none⟩ = some (.int .i64 e.el)
def BlkAt (w : World) (g off : Nat) (b : Blk) : Prop := ∃ u, BlkCells w g off u b.e ∧ InssV w u b.ins
theorem BlkCells.below {w w' : World} {g off : Nat} {u : Value} {e : En} (h : BlkCells w g off u e) (hB : Below w.heap.size w w') : BlkCells w' g off u e :=
  ⟨cell_below hB h.c0, cell_below hB h.c1, cell_below hB h.c2, cell_below hB h.c3, cell_below hB h.c4⟩
theorem BlkAt.below {w w' : World} {g off : Nat} {b : Blk} (h : BlkAt w g off b) (hB : Below w.heap.size w w') : BlkAt w' g off b := by
  obtain ⟨u, h1, h2⟩ := h
  exact ⟨u, h1.below hB, h2.below hB⟩
theorem BlkV.below {w w' : World} {v : Value} {b : Blk} (h : BlkV w v b) (hB : Below w.heap.size w w') : BlkV w' v b := by
  obtain ⟨u, h1, h2⟩ := h
  exact ⟨u, h1, h2.below hB⟩
def BlksV (w : World) (v : Value) (bs : List Blk) : Prop := SlV 5 BlkAt Blk.zero w v bs
theorem BlksV.below {w w' : World} {v : Value} {bs : List Blk} (h : BlksV w v bs) (hB : Below w.heap.size w w') : BlksV w' v bs := SlV.mono h fun _ _ _ h => h.below hB
theorem BlksV.slice {w : World} {v : Value} {bs : List Blk} (h : BlksV w v bs) : ∃ ao cap, v = .slice ao bs.length cap := SlV.slice h
def FunV (w : World) (v : Value) (F : Fun) : Prop := ∃ u, v = .agg #[.int .i64 F.p, .int .i64 F.v, u] ∧ BlksV w u F.bs
theorem FunV.below {w w' : World} {v : Value} {F : Fun} (h : FunV w v F) (hB : Below w.heap.size w w') : FunV w' v F := by
  obtain ⟨u, h1, h2⟩ := h
  exact ⟨u, h1, h2.below hB⟩

/-! ### Bytes -/
def BytAt (w : World) (b off : Nat) (x : Int) : Prop := w.cell? ⟨b, off, none⟩ = some (.int .u8 x) ∧ 0 ≤ x ∧ x < 256
def Byt (w : World) (v : Value) (xs : List Int) : Prop := SlV 1 BytAt 0 w v xs
theorem Byt.below {w w' : World} {v : Value} {xs : List Int} (h : Byt w v xs) (hB : Below w.heap.size w w') : Byt w' v xs := SlV.mono h fun _ _ _ h => ⟨cell_below hB h.1, h.2⟩
theorem Byt.slice {w : World} {v : Value} {xs : List Int} (h : Byt w v xs) : ∃ ao cap, v = .slice ao xs.length cap := SlV.slice h

/-! ### What the call itself has laid -/
/-- Blocks of these types are as they were. -/
def Keeps (T : TypeId → Bool) (w w' : World) : Prop := ∀ (g : Nat) (cs : Array Value) (t : TypeId) (fr : Nat × Nat), T t = true → w.heap[g]? = some (Obj.cells cs t fr) → w'.heap[g]? = some (Obj.cells cs t fr)
theorem Keeps.refl (T : TypeId → Bool) (w : World) : Keeps T w w := fun _ _ _ _ _ h => h
theorem Keeps.trans {T : TypeId → Bool} {w w1 w2 : World} (h1 : Keeps T w w1) (h2 : Keeps T w1 w2) : Keeps T w w2 := fun g cs t fr ht h => h2 g cs t fr ht (h1 g cs t fr ht h)
theorem Keeps.weak {T T' : TypeId → Bool} {w w' : World} (h : Keeps T w w') (hT : ∀ t, T' t = true → T t = true) : Keeps T' w w' := fun g cs t fr ht h0 => h g cs t fr (hT t ht) h0
theorem Keeps.below {T : TypeId → Bool} {w w' : World} (h : Below w.heap.size w w') : Keeps T w w' := by
  intro g cs t fr _ h0
  rw [h.block g (Array.getElem?_eq_some_iff.1 h0).1]
  exact h0
theorem Keeps.drew {T : TypeId → Bool} (w : World) : Keeps T w w.drew := Keeps.below (Below.refl _ _).drew
theorem Keeps.grown {T : TypeId → Bool} {w w' : World} {B : Nat} {e : TypeId} {size : Nat} {v : Value} {n : Nat} {xs : List Value} (ho : w.ownsRow B e size v n xs) (he : T e = false) (hg : w.grownBy w' v.ownBlock) : Keeps T w w' := by
  intro g cs t fr ht h0
  rw [hg.block g (Array.getElem?_eq_some_iff.1 h0).1 ?_]
  · exact h0
  · intro e1
    rcases ho.2 with ⟨rfl, _⟩ | ⟨g', cap, cur, rfl, _, hgg, _⟩
    · simp [Value.ownBlock] at e1
    · simp only [Value.ownBlock, Option.some.injEq] at e1
      subst e1
      rw [h0] at hgg
      simp only [Option.some.injEq, Obj.cells.injEq] at hgg
      rw [hgg.2.1, he] at ht
      exact absurd ht (by simp)
theorem Keeps.set {T : TypeId → Bool} {w : World} {g off : Nat} {cs : Array Value} {t : TypeId} {fr : Nat × Nat} (h0 : w.heap[g]? = some (.cells cs t fr)) (ht : T t = false) (u : Value) : Keeps T w (w.setCell ⟨g, off, none⟩ u) := by
  intro g' cs' t' fr' ht' h'
  rw [Below.heap_setCell _ _ _ _ (fun e => ?_)]
  · exact h'
  · simp only at e
    subst e
    rw [h0] at h'
    simp only [Option.some.injEq, Obj.cells.injEq] at h'
    rw [← h'.2.1, ht] at ht'
    exact absurd ht' (by simp)

def T3 : TypeId → Bool := fun t => t == 3
def T46 : TypeId → Bool := fun t => t == 3 || t == 79
def T41 : TypeId → Bool := fun t => t == 3 || t == 79 || t == 69
theorem owns_keeps {T : TypeId → Bool} {w w' : World} {B : Nat} {e : TypeId} {size : Nat} {v : Value} {n : Nat} {xs : List Value} (h : w.ownsRow B e size v n xs) (hk : Keeps T w w') (he : T e = true) : w'.ownsRow B e size v n xs := by
  refine ⟨h.1, ?_⟩
  rcases h.2 with h | ⟨g, cap, cur, hv, hb, hg, r⟩
  · exact .inl h
  · exact .inr ⟨g, cap, cur, hv, hb, hk g cur e (0, 0) he hg, r⟩
theorem owns_below {w w' : World} {B : Nat} {e : TypeId} {size : Nat} {v : Value} {n : Nat} {xs : List Value} (h : w.ownsRow B e size v n xs) (hk : Below w.heap.size w w') : w'.ownsRow B e size v n xs :=
  owns_keeps (T := fun _ => true) h (Keeps.below hk) rfl
theorem owns_cast {w : World} {B : Nat} {e : TypeId} {size : Nat} {v : Value} {n m : Nat} {xs ys : List Value} (h : w.ownsRow B e size v n xs) (hn : n = m) (hx : xs = ys) : w.ownsRow B e size v m ys := by
  subst hn
  subst hx
  exact h
theorem owns_mono {w : World} {B B' : Nat} {e : TypeId} {size : Nat} {v : Value} {n : Nat} {xs : List Value} (h : w.ownsRow B e size v n xs) (hB : B' ≤ B) : w.ownsRow B' e size v n xs := by
  refine ⟨h.1, ?_⟩
  rcases h.2 with h | ⟨g, cap, cur, hv, hb, r⟩
  · exact .inl h
  · exact .inr ⟨g, cap, cur, hv, by omega, r⟩

def ArgsO (B : Nat) (w : World) (v : Value) (xs : List Int) : Prop := w.ownsRow B 3 1 v xs.length (xs.map (Value.int .i64))
theorem ArgsO.keeps {B : Nat} {w w' : World} {v : Value} {xs : List Int} (h : ArgsO B w v xs) (hk : Keeps T3 w w') : ArgsO B w' v xs := owns_keeps h hk rfl
theorem ArgsO.nil (B : Nat) (w : World) : ArgsO B w (.slice none 0 0) [] := World.ownsRow_nil _ _ _ _
theorem ArgsO.v {B : Nat} {w : World} {v : Value} {xs : List Int} (h : ArgsO B w v xs) : IntsV w v xs := by
  rcases h.2 with ⟨rfl, h0⟩ | ⟨g, cap, cur, rfl, _, hg, hnc, hcm, _, _⟩
  · have : xs = [] := List.eq_nil_of_length_eq_zero h0
    subst this
    exact SlV.nil
  · refine ⟨_, cap, rfl, hnc, hcm, fun e => by simp at e, fun _ => ⟨g, 0, rfl, fun j hj => ?_⟩⟩
    have := h.cellAt j (by omega)
    show w.cell? _ = _
    rw [Nat.zero_add, Nat.mul_one, this]
    simp [List.getElem?_eq_getElem hj]

def cellsI (ps : List (Ins × Value)) : List Value := ps.flatMap fun p => [.int .u8 p.1.k, .int .u8 p.1.op, .int .i64 p.1.d, .int .i64 p.1.a, .int .i64 p.1.b, .int .i64 p.1.n, p.2]
theorem cellsI_len (ps : List (Ins × Value)) : (cellsI ps).length = ps.length * 7 := by
  induction ps with
  | nil => rfl
  | cons p ps ih => simp [cellsI] at *; omega
theorem cellsI_get : ∀ (ps : List (Ins × Value)) (j : Nat) (p : Ins × Value), ps[j]? = some p →
    (cellsI ps)[j * 7]? = some (.int .u8 p.1.k) ∧ (cellsI ps)[j * 7 + 1]? = some (.int .u8 p.1.op) ∧ (cellsI ps)[j * 7 + 2]? = some (.int .i64 p.1.d) ∧ (cellsI ps)[j * 7 + 3]? = some (.int .i64 p.1.a) ∧
    (cellsI ps)[j * 7 + 4]? = some (.int .i64 p.1.b) ∧ (cellsI ps)[j * 7 + 5]? = some (.int .i64 p.1.n) ∧ (cellsI ps)[j * 7 + 6]? = some p.2
  | [], j, p, h => by simp at h
  | q :: ps, 0, p, h => by
    simp at h
    subst h
    simp [cellsI]
  | q :: ps, j + 1, p, h => by
    have := cellsI_get ps j p (by simpa using h)
    simpa [cellsI, Nat.add_mul] using this
theorem cellsI_snoc (ps : List (Ins × Value)) (p : Ins × Value) : cellsI (ps ++ [p]) = cellsI ps ++ [.int .u8 p.1.k, .int .u8 p.1.op, .int .i64 p.1.d, .int .i64 p.1.a, .int .i64 p.1.b, .int .i64 p.1.n, p.2] := by simp [cellsI]

def InssO (B : Nat) (w : World) (v : Value) (is : List Ins) : Prop := ∃ ps : List (Ins × Value), ps.map (·.1) = is ∧ w.ownsRow B 79 7 v ps.length (cellsI ps) ∧ ∀ p ∈ ps, ArgsO B w p.2 p.1.args
theorem InssO.keeps {B : Nat} {w w' : World} {v : Value} {is : List Ins} (h : InssO B w v is) (hk : Keeps T46 w w') : InssO B w' v is := by
  obtain ⟨ps, h1, h2, h3⟩ := h
  exact ⟨ps, h1, owns_keeps h2 hk rfl, fun p hp => (h3 p hp).keeps (hk.weak fun t ht => by simp [T3, T46] at *; exact .inl ht)⟩
theorem InssO.nil (B : Nat) (w : World) : InssO B w (.slice none 0 0) [] := ⟨[], rfl, World.ownsRow_nil _ _ _ _, fun p hp => by simp at hp⟩
theorem InssO.v {B : Nat} {w : World} {v : Value} {is : List Ins} (h : InssO B w v is) : InssV w v is := by
  obtain ⟨ps, rfl, h2, h3⟩ := h
  rcases h2.2 with ⟨rfl, h0⟩ | ⟨g, cap, cur, rfl, _, hg, hnc, hcm, _, _⟩
  · have : ps = [] := List.eq_nil_of_length_eq_zero h0
    subst this
    exact SlV.nil
  · refine ⟨_, cap, by rw [List.length_map], by rw [List.length_map]; exact hnc, hcm, fun e => by simp at e, fun _ => ⟨g, 0, rfl, fun j hj => ?_⟩⟩
    rw [List.length_map] at hj
    have hp : ps[j]? = some ps[j] := List.getElem?_eq_getElem hj
    obtain ⟨g0, g1, g2, g3, g4, g5, g6⟩ := cellsI_get ps j _ hp
    have hd : (ps.map (·.1)).getD j Ins.zero = ps[j].1 := by simp [hj]
    rw [hd, Nat.zero_add]
    have hc : ∀ k u, k < 7 → (cellsI ps)[j * 7 + k]? = some u → w.cell? ⟨g, j * 7 + k, none⟩ = some u := by
      intro k u hk hu
      rw [h2.cellAt (j * 7 + k) (by omega), hu]
    exact ⟨ps[j].2, ⟨hc 0 _ (by omega) g0, hc 1 _ (by omega) g1, hc 2 _ (by omega) g2, hc 3 _ (by omega) g3, hc 4 _ (by omega) g4, hc 5 _ (by omega) g5, hc 6 _ (by omega) g6⟩, (h3 _ (List.getElem_mem hj)).v⟩

def cellsB (ps : List (Blk × Value)) : List Value := ps.flatMap fun p => [p.2, .int .u8 p.1.e.k, .int .i64 p.1.e.a, .int .i64 p.1.e.to, .int .i64 p.1.e.el]
theorem cellsB_len (ps : List (Blk × Value)) : (cellsB ps).length = ps.length * 5 := by
  induction ps with
  | nil => rfl
  | cons p ps ih => simp [cellsB] at *; omega
theorem cellsB_get : ∀ (ps : List (Blk × Value)) (j : Nat) (p : Blk × Value), ps[j]? = some p →
    (cellsB ps)[j * 5]? = some p.2 ∧ (cellsB ps)[j * 5 + 1]? = some (.int .u8 p.1.e.k) ∧ (cellsB ps)[j * 5 + 2]? = some (.int .i64 p.1.e.a) ∧ (cellsB ps)[j * 5 + 3]? = some (.int .i64 p.1.e.to) ∧ (cellsB ps)[j * 5 + 4]? = some (.int .i64 p.1.e.el)
  | [], j, p, h => by simp at h
  | q :: ps, 0, p, h => by
    simp at h
    subst h
    simp [cellsB]
  | q :: ps, j + 1, p, h => by
    have := cellsB_get ps j p (by simpa using h)
    simpa [cellsB, Nat.add_mul] using this
theorem cellsB_snoc (ps : List (Blk × Value)) (p : Blk × Value) : cellsB (ps ++ [p]) = cellsB ps ++ [p.2, .int .u8 p.1.e.k, .int .i64 p.1.e.a, .int .i64 p.1.e.to, .int .i64 p.1.e.el] := by simp [cellsB]

def BlksO (B : Nat) (w : World) (v : Value) (bs : List Blk) : Prop := ∃ ps : List (Blk × Value), ps.map (·.1) = bs ∧ w.ownsRow B 69 5 v ps.length (cellsB ps) ∧ ∀ p ∈ ps, InssO B w p.2 p.1.ins
theorem BlksO.keeps {B : Nat} {w w' : World} {v : Value} {bs : List Blk} (h : BlksO B w v bs) (hk : Keeps T41 w w') : BlksO B w' v bs := by
  obtain ⟨ps, h1, h2, h3⟩ := h
  exact ⟨ps, h1, owns_keeps h2 hk rfl, fun p hp => (h3 p hp).keeps (hk.weak fun t ht => by simp [T46, T41] at *; rcases ht with h | h <;> simp [h])⟩
theorem BlksO.nil (B : Nat) (w : World) : BlksO B w (.slice none 0 0) [] := ⟨[], rfl, World.ownsRow_nil _ _ _ _, fun p hp => by simp at hp⟩
theorem BlksO.v {B : Nat} {w : World} {v : Value} {bs : List Blk} (h : BlksO B w v bs) : BlksV w v bs := by
  obtain ⟨ps, rfl, h2, h3⟩ := h
  rcases h2.2 with ⟨rfl, h0⟩ | ⟨g, cap, cur, rfl, _, hg, hnc, hcm, _, _⟩
  · have : ps = [] := List.eq_nil_of_length_eq_zero h0
    subst this
    exact SlV.nil
  · refine ⟨_, cap, by rw [List.length_map], by rw [List.length_map]; exact hnc, hcm, fun e => by simp at e, fun _ => ⟨g, 0, rfl, fun j hj => ?_⟩⟩
    rw [List.length_map] at hj
    have hp : ps[j]? = some ps[j] := List.getElem?_eq_getElem hj
    obtain ⟨g0, g1, g2, g3, g4⟩ := cellsB_get ps j _ hp
    have hd : (ps.map (·.1)).getD j Blk.zero = ps[j].1 := by simp [hj]
    rw [hd, Nat.zero_add]
    have hc : ∀ k u, k < 5 → (cellsB ps)[j * 5 + k]? = some u → w.cell? ⟨g, j * 5 + k, none⟩ = some u := by
      intro k u hk hu
      rw [h2.cellAt (j * 5 + k) (by omega), hu]
    exact ⟨ps[j].2, ⟨hc 0 _ (by omega) g0, hc 1 _ (by omega) g1, hc 2 _ (by omega) g2, hc 3 _ (by omega) g3, hc 4 _ (by omega) g4⟩, (h3 _ (List.getElem_mem hj)).v⟩
end Go.Proofs.Ytblcbccchlljhaa
namespace Go.Proofs.Ytblcbccchlljhaa
open Go.RowKit Ir

/-- The value of 'b[1:]'. -/
def tailV (ao : Option Addr) (cap n : Nat) : Value := .slice (if cap = 1 then ao else ao.map fun x => (⟨x.block, x.off + 1, none⟩ : Addr)) (n - 1) (cap - 1)
theorem run_tail {ao : Option Addr} {n cap : Nat} (hj : 1 ≤ n) (W : World) : (Instr.sliceAt 22 (.slice ao n cap) (some (.int .i64 1)) none none).run Try.prog W = .ok (tailV ao cap n) W := by
  have h1 : (1 : Int) ≤ (n : Int) := by omega
  go_simp
  simp [tailV]
theorem Byt.tail {w : World} {ao : Option Addr} {cap : Nat} {x : Int} {xs : List Int} (h : Byt w (.slice ao (xs.length + 1) cap) (x :: xs)) : Byt w (tailV ao cap (xs.length + 1)) xs := by
  obtain ⟨ao', cap', e, h2, h3, h4, h5⟩ := h
  simp only [Value.slice.injEq, List.length_cons, true_and] at e
  obtain ⟨rfl, rfl⟩ := e
  simp only [List.length_cons] at h2
  refine ⟨_, cap - 1, rfl, by omega, by omega, ?_, fun h0 => ?_⟩
  · intro e
    split at e
    · omega
    · cases ao with
      | none => have := h4 rfl; omega
      | some a => simp at e
  · obtain ⟨b, off, rfl, hc⟩ := h5 (by simp)
    refine ⟨b, off + 1, ?_, fun j hj => ?_⟩
    · rw [if_neg (by omega), Option.map_some]
    · have := hc (j + 1) (by simp; omega)
      simpa [Nat.add_assoc, Nat.add_comm 1 j] using this

/-- Bytes that lie below block B. -/
def BytB (B : Nat) (w : World) (v : Value) (xs : List Int) : Prop := SlV 1 (fun w b off x => BytAt w b off x ∧ b < B) 0 w v xs
theorem BytB.of {B : Nat} {w : World} {v : Value} {xs : List Int} (h : Byt w v xs) (hB : w.heap.size ≤ B) : BytB B w v xs := by
  obtain ⟨ao, cap, h1, h2, h3, h4, h5⟩ := h
  refine ⟨ao, cap, h1, h2, h3, h4, fun h0 => ?_⟩
  obtain ⟨b, off, e, hc⟩ := h5 h0
  exact ⟨b, off, e, fun j hj => ⟨hc j hj, Nat.lt_of_lt_of_le (World.block_lt_of_cell? w _ (hc j hj).1) hB⟩⟩
theorem BytB.byt {B : Nat} {w : World} {v : Value} {xs : List Int} (h : BytB B w v xs) : Byt w v xs := by
  obtain ⟨ao, cap, h1, h2, h3, h4, h5⟩ := h
  refine ⟨ao, cap, h1, h2, h3, h4, fun h0 => ?_⟩
  obtain ⟨b, off, e, hc⟩ := h5 h0
  exact ⟨b, off, e, fun j hj => (hc j hj).1⟩
theorem BytB.kept {B : Nat} {w w' : World} {v : Value} {xs : List Int} (h : BytB B w v xs) (hk : ∀ b, b < B → w'.heap[b]? = w.heap[b]?) : BytB B w' v xs :=
  SlV.mono h fun b off _ hx => ⟨⟨(World.cell?_of_block (a := ⟨b, off, none⟩) (hk b hx.2)).trans hx.1.1, hx.1.2⟩, hx.2⟩
theorem BytB.tail {B : Nat} {w : World} {ao : Option Addr} {cap : Nat} {x : Int} {xs : List Int} (h : BytB B w (.slice ao (xs.length + 1) cap) (x :: xs)) : BytB B w (tailV ao cap (xs.length + 1)) xs := by
  obtain ⟨ao1, cap1, e1, h2, h3, h4, h5⟩ := h.byt.tail
  refine ⟨ao1, cap1, e1, h2, h3, h4, fun h0 => ?_⟩
  obtain ⟨b, off, e, hc⟩ := h5 h0
  obtain ⟨ao', cap', e', _, _, _, h5'⟩ := h
  obtain ⟨b', off', e2, hc'⟩ := h5' (by simp)
  have hb' := (hc' 0 (by simp)).2
  simp only [Value.slice.injEq] at e'
  have hbb : b = b' := by
    unfold tailV at e1
    simp only [Value.slice.injEq] at e1
    have q := e1.1
    rw [e, e'.1, e2] at q
    split at q <;> simp at q <;> exact q.1.symm
  exact ⟨b, off, e, fun j hj => ⟨hc j hj, by rw [hbb]; exact hb'⟩⟩
theorem Byt.bts {w : World} {v : Value} {bs : List Int} (h : Byt w v bs) : Bts bs := by
  obtain ⟨ao, cap, _, _, _, _, h5⟩ := h
  intro x hx
  obtain ⟨j, hj, rfl⟩ := List.mem_iff_getElem.1 hx
  obtain ⟨b, off, _, hc⟩ := h5 (by omega)
  have := (hc j hj).2
  simpa [List.getElem?_eq_getElem hj] using this

/-- A maker lies at block pm; these bytes are left, below block B. -/
def MkAt (B : Nat) (w : World) (pm : Nat) (bs : List Int) : Prop := B ≤ pm ∧ ∃ v, w.heap[pm]? = some (Obj.cells #[v] 75 (0, 0)) ∧ BytB B w v bs
theorem MkAt.cells {B : Nat} {w : World} {pm : Nat} {bs : List Int} (h : MkAt B w pm bs) : ∃ ao cap, w.cell? ⟨pm, 0, none⟩ = some (.slice ao bs.length cap) ∧ w.frozen? ⟨pm, 0, none⟩ = false ∧ BytB B w (.slice ao bs.length cap) bs := by
  obtain ⟨_, v, h1, h2⟩ := h
  obtain ⟨ao, cap, rfl⟩ := SlV.slice h2
  refine ⟨ao, cap, ?_, frozen_of_row _ _ _ _ _ h1, h2⟩
  rw [cell_of_row _ _ _ _ _ _ h1]
  rfl
theorem MkAt.lt {B : Nat} {w : World} {pm : Nat} {bs : List Int} (h : MkAt B w pm bs) : pm < w.heap.size := by
  obtain ⟨_, u, h1, _⟩ := h
  exact (Array.getElem?_eq_some_iff.1 h1).1
theorem grown_refl (w : World) (r : Option Nat) : w.grownBy w r := ⟨rfl, rfl, rfl, Nat.le_refl _, fun _ _ _ => rfl⟩
theorem grown_trans {w w1 w2 : World} {r : Option Nat} (h1 : w.grownBy w1 r) (h2 : w1.grownBy w2 r) : w.grownBy w2 r :=
  ⟨h2.os.trans h1.os, h2.tape.trans h1.tape, h2.output.trans h1.output, Nat.le_trans h1.size h2.size, fun k hk hr => (h2.block k (Nat.lt_of_lt_of_le hk h1.size) hr).trans (h1.block k hk hr)⟩
theorem grown_below {w w1 : World} (h : Below w.heap.size w w1) (r : Option Nat) : w.grownBy w1 r := ⟨h.os, h.tape, h.output, h.size, fun k hk _ => h.block k hk⟩
theorem grown_set (w : World) (p o : Nat) (u : Value) : w.grownBy (w.setCell ⟨p, o, none⟩ u) (some p) :=
  ⟨rfl, rfl, rfl, by simp [World.setCell], fun k _ hr => Below.heap_setCell _ _ _ _ (fun e => hr (by rw [e]))⟩
/-- What is changed but one block that is new, or one more. -/
theorem grown_own {w w1 w2 : World} {r s : Option Nat} (h1 : w.grownBy w1 r) (h2 : w1.grownBy w2 s) (hs : ∀ k, s = some k → w.heap.size ≤ k) : w.grownBy w2 r :=
  ⟨h2.os.trans h1.os, h2.tape.trans h1.tape, h2.output.trans h1.output, Nat.le_trans h1.size h2.size, fun k hk hr => (h2.block k (Nat.lt_of_lt_of_le hk h1.size) (fun e => by have := hs k e.symm; omega)).trans (h1.block k hk hr)⟩
theorem MkAt.set {B : Nat} {w : World} {pm : Nat} {bs cs : List Int} {v : Value} (h : MkAt B w pm bs) (hv : BytB B w v cs) : MkAt B (w.setCell ⟨pm, 0, none⟩ v) pm cs := by
  obtain ⟨h0, u, h1, h2⟩ := h
  refine ⟨h0, v, ?_, hv.kept fun b hb => Below.heap_setCell _ _ _ _ (by simp; omega)⟩
  rw [heap_setCell_same w pm 0 _ _ v h1]
  rfl
/-- A change that leaves the maker's block, and what is below B. -/
theorem MkAt.kept {B : Nat} {w w' : World} {pm : Nat} {bs : List Int} (h : MkAt B w pm bs) (hp : w'.heap[pm]? = w.heap[pm]?) (hB : ∀ b, b < B → w'.heap[b]? = w.heap[b]?) : MkAt B w' pm bs := by
  obtain ⟨h0, u, h1, h2⟩ := h
  exact ⟨h0, u, by rw [hp]; exact h1, h2.kept hB⟩
theorem MkAt.grown {B : Nat} {w w' : World} {pm : Nat} {bs : List Int} {s : Option Nat} (h : MkAt B w pm bs) (hg : w.grownBy w' s) (hB : B ≤ w.heap.size) (hs : ∀ k, s = some k → B ≤ k ∧ k ≠ pm) : MkAt B w' pm bs :=
  h.kept (hg.block pm h.lt (fun e => (hs pm e.symm).2 rfl)) fun b hb => hg.block b (by omega) (fun e => by have := (hs b e.symm).1; omega)
theorem MkAt.below {B : Nat} {w w' : World} {pm : Nat} {bs : List Int} (h : MkAt B w pm bs) (hg : Below w.heap.size w w') (hB : B ≤ w.heap.size) : MkAt B w' pm bs :=
  h.kept (hg.block pm h.lt) fun b hb => hg.block b (by omega)

set_option maxRecDepth 100000 in
theorem next_any (B pm : Nat) (bs : List Int) (n : Int) (w : World) (h : MkAt B w pm bs) (hn : 0 < n) :
    Calls Try.prog 34 #[.pointer (some ⟨pm, 0, none⟩), .int .i64 n] w fun e w' => e = .returned (.int .i64 (nxt bs n).1) ∧ MkAt B w' pm (nxt bs n).2 ∧ w.grownBy w' (some pm) ∧ w'.heap.size = w.heap.size := by
  obtain ⟨ao, cap, c0, f0, hb⟩ := h.cells
  have HM := hide h
  clear h
  cases bs with
  | nil =>
    go_enter Try.func34, Try.ntmps34
    go_wp2_with fail
    go_ret
    exact ⟨rfl, HM.out, grown_refl _ _, rfl⟩
  | cons x xs =>
    obtain ⟨b, off, rfl, ⟨hx, hx0, hx1⟩, _⟩ := SlV.at hb 0 (by simp)
    simp only [Nat.zero_mul, Nat.add_zero, List.getD_cons_zero] at hx
    simp only [List.getD_cons_zero] at hx0 hx1
    have hrun : ∀ W, (Instr.sliceAt 22 (.slice (some ⟨b, off, none⟩) (xs.length + 1) cap) (some (.int .i64 1)) none none).run Try.prog W = .ok (tailV (some ⟨b, off, none⟩) cap (xs.length + 1)) W := fun W => run_tail (by omega) W
    have ht := hb.tail
    have HT := hide (HM.out.set ht)
    have hgs := grown_set w pm 0 (tailV (some ⟨b, off, none⟩) cap (xs.length + 1))
    have htm : x.tmod n = x % n := Int.tmod_eq_emod_of_nonneg hx0
    have hone : ∃ ao' n' c', tailV (some ⟨b, off, none⟩) cap (xs.length + 1) = .slice ao' n' c' := ⟨_, _, _, rfl⟩
    generalize tailV (some ⟨b, off, none⟩) cap (xs.length + 1) = u at *
    obtain ⟨ao', n', c', rfl⟩ := hone
    have hn0 : (n == 0) = false := by simp; omega
    have hn1 : (n == -1) = false := by simp; omega
    have hlen : ((xs.length : Int) + 1 == 0) = false := by simp; omega
    simp only [List.length_cons] at c0
    clear hb ht
    go_enter Try.func34, Try.ntmps34
    go_wp2_with fail
    go_ret
    exact ⟨rfl, HT.out, hgs, by simp⟩
end Go.Proofs.Ytblcbccchlljhaa
