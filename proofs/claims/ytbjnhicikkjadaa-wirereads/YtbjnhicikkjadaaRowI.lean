/- Changes of what the call itself has laid that leave each cell of the kind that lies there: what was a function is one, perhaps another one. -/
import Derived.Test.YtbjnhicikkjadaaInts
import Derived.Test.YtbjnhicikkjadaaBlk
import Derived.Test.YtbjnhicikkjadaaAny
import Derived.Test.YtbjnhicikkjadaaMem
namespace Go.Proofs.Ytbjnhicikkjadaa
open Go.RowKit Ir

/-- A number that an int64 has. -/
def I64 (x : Int) : Prop := -9223372036854775808 ≤ x ∧ x ≤ 9223372036854775807
/-- A cell of a block of type t, at place j, is of the kind that lies there. -/
def Typed (B : Nat) (w : World) (t : TypeId) (j : Nat) (c : Value) : Prop :=
  (t = 3 → ∃ x, c = .int .i64 x) ∧
  (t = 86 → (j % 7 < 2 → ∃ x, c = .int .u8 x) ∧ (2 ≤ j % 7 → j % 7 < 6 → ∃ x, c = .int .i64 x ∧ (j % 7 = 5 → I64 x)) ∧ (j % 7 = 6 → ∃ xs, ArgsO B w c xs)) ∧
  (t = 82 → (j % 5 = 0 → ∃ is, InssO B w c is ∧ ∀ i ∈ is, I64 i.n) ∧ (j % 5 = 1 → ∃ x, c = .int .u8 x) ∧ (2 ≤ j % 5 → ∃ x, c = .int .i64 x))
def Soft (B : Nat) (w w' : World) : Prop :=
  ∀ (g : Nat) (cs : Array Value) (t : TypeId), B ≤ g → w.heap[g]? = some (Obj.cells cs t (0, 0)) →
    ∃ cs', w'.heap[g]? = some (Obj.cells cs' t (0, 0)) ∧ cs'.size = cs.size ∧ ∀ (j : Nat) (c : Value), cs'[j]? = some c → cs[j]? = some c ∨ Typed B w' t j c

theorem ints_map : ∀ (l : List Value), (∀ c ∈ l, ∃ x, c = .int .i64 x) → ∃ xs : List Int, xs.length = l.length ∧ l = xs.map (Value.int .i64)
  | [], _ => ⟨[], rfl, rfl⟩
  | c :: l, h => by
    obtain ⟨x, hx⟩ := h c (by simp)
    obtain ⟨xs, h1, h2⟩ := ints_map l fun c hc => h c (by simp [hc])
    exact ⟨x :: xs, by simp [h1], by rw [hx, h2]; rfl⟩
theorem ArgsO.soft {B : Nat} {w w' : World} {v : Value} {xs : List Int} (h : ArgsO B w v xs) (hs : Soft B w w') : ∃ xs', xs'.length = xs.length ∧ ArgsO B w' v xs' := by
  rcases h.2 with ⟨rfl, h0⟩ | ⟨g, cap, cur, rfl, hb, hg, hnc, hcm, hcs, ht⟩
  · exact ⟨[], by simpa using h0.symm, ArgsO.nil _ _⟩
  · obtain ⟨cs', e1, e2, e3⟩ := hs g cur 3 hb hg
    obtain ⟨ys, y1, y2⟩ := ints_map (cs'.toList.take (xs.length * 1)) (by
      intro c hc
      obtain ⟨j, hj, hjc⟩ := List.mem_iff_getElem.1 hc
      rw [List.length_take] at hj
      have hjc' : cs'[j]? = some c := by
        rw [List.getElem_take] at hjc
        rw [← hjc]
        simp at hj ⊢
      rcases e3 j c hjc' with h1 | h1
      · have h2 : (xs.map (Value.int .i64))[j]? = some c := by
          rw [← ht, List.getElem?_take, if_pos (by omega)]
          simpa using h1
        simp at h2
        obtain ⟨x, _, hx⟩ := h2
        exact ⟨x, hx.symm⟩
      · exact h1.1 rfl)
    have hl : ys.length = xs.length := by
      have hsz : cs'.toList.length = cap * 1 := by rw [← hcs, ← e2]; simp
      rw [y1, List.length_take, hsz]
      omega
    exact ⟨ys, hl, by rw [hl, List.length_map]; omega, .inr ⟨g, cap, cs', by rw [hl], hb, e1, by omega, hcm, by rw [e2, hcs], by rw [hl]; exact y2⟩⟩

theorem list7 {l : List Value} (h : 7 ≤ l.length) : ∃ a0 a1 a2 a3 a4 a5 a6 r, l = a0 :: a1 :: a2 :: a3 :: a4 :: a5 :: a6 :: r := by
  rcases l with _ | ⟨a0, _ | ⟨a1, _ | ⟨a2, _ | ⟨a3, _ | ⟨a4, _ | ⟨a5, _ | ⟨a6, r⟩⟩⟩⟩⟩⟩⟩ <;> simp at h
  exact ⟨_, _, _, _, _, _, _, _, rfl⟩
theorem list5 {l : List Value} (h : 5 ≤ l.length) : ∃ a0 a1 a2 a3 a4 r, l = a0 :: a1 :: a2 :: a3 :: a4 :: r := by
  rcases l with _ | ⟨a0, _ | ⟨a1, _ | ⟨a2, _ | ⟨a3, _ | ⟨a4, r⟩⟩⟩⟩⟩ <;> simp at h
  exact ⟨_, _, _, _, _, _, rfl⟩
theorem split7 (Q : Ins × Value → Prop) : ∀ (n : Nat) (l : List Value), l.length = n * 7 →
    (∀ j, j < n → ∃ p : Ins × Value, Q p ∧ l[j * 7]? = some (.int .u8 p.1.k) ∧ l[j * 7 + 1]? = some (.int .u8 p.1.op) ∧ l[j * 7 + 2]? = some (.int .i64 p.1.d) ∧ l[j * 7 + 3]? = some (.int .i64 p.1.a) ∧ l[j * 7 + 4]? = some (.int .i64 p.1.b) ∧ l[j * 7 + 5]? = some (.int .i64 p.1.n) ∧ l[j * 7 + 6]? = some p.2) →
    ∃ ps : List (Ins × Value), ps.length = n ∧ l = cellsI ps ∧ ∀ p ∈ ps, Q p
  | 0, l, hl, _ => ⟨[], rfl, List.eq_nil_of_length_eq_zero (by omega), fun p hp => by simp at hp⟩
  | n + 1, l, hl, h => by
    obtain ⟨a0, a1, a2, a3, a4, a5, a6, r, rfl⟩ := list7 (l := l) (by omega)
    · obtain ⟨p, hQ, h0, h1, h2, h3, h4, h5, h6⟩ := h 0 (by omega)
      simp at h0 h1 h2 h3 h4 h5 h6
      obtain ⟨ps, g1, g2, g3⟩ := split7 Q n r (by simp at hl; omega) (by
        intro j hj
        obtain ⟨q, hq⟩ := h (j + 1) (by omega)
        simp only [Nat.add_mul, Nat.one_mul] at hq
        refine ⟨q, ?_⟩
        simpa using hq)
      refine ⟨p :: ps, by simp [g1], ?_, ?_⟩
      · rw [g2, h0, h1, h2, h3, h4, h5, h6]
        simp [cellsI]
      · intro q hq
        rcases List.mem_cons.1 hq with rfl | hq
        · exact hQ
        · exact g3 q hq
theorem split5 (Q : Blk × Value → Prop) : ∀ (n : Nat) (l : List Value), l.length = n * 5 →
    (∀ j, j < n → ∃ p : Blk × Value, Q p ∧ l[j * 5]? = some p.2 ∧ l[j * 5 + 1]? = some (.int .u8 p.1.e.k) ∧ l[j * 5 + 2]? = some (.int .i64 p.1.e.a) ∧ l[j * 5 + 3]? = some (.int .i64 p.1.e.to) ∧ l[j * 5 + 4]? = some (.int .i64 p.1.e.el)) →
    ∃ ps : List (Blk × Value), ps.length = n ∧ l = cellsB ps ∧ ∀ p ∈ ps, Q p
  | 0, l, hl, _ => ⟨[], rfl, List.eq_nil_of_length_eq_zero (by omega), fun p hp => by simp at hp⟩
  | n + 1, l, hl, h => by
    obtain ⟨a0, a1, a2, a3, a4, r, rfl⟩ := list5 (l := l) (by omega)
    · obtain ⟨p, hQ, h0, h1, h2, h3, h4⟩ := h 0 (by omega)
      simp at h0 h1 h2 h3 h4
      obtain ⟨ps, g1, g2, g3⟩ := split5 Q n r (by simp at hl; omega) (by
        intro j hj
        obtain ⟨q, hq⟩ := h (j + 1) (by omega)
        simp only [Nat.add_mul, Nat.one_mul] at hq
        refine ⟨q, ?_⟩
        simpa using hq)
      refine ⟨p :: ps, by simp [g1], ?_, ?_⟩
      · rw [g2, h0, h1, h2, h3, h4]
        simp [cellsB]
      · intro q hq
        rcases List.mem_cons.1 hq with rfl | hq
        · exact hQ
        · exact g3 q hq

theorem InssO.soft {B : Nat} {w w' : World} {v : Value} {is : List Ins} (h : InssO B w v is) (hs : Soft B w w') : ∃ is', is'.length = is.length ∧ InssO B w' v is' ∧ ((∀ i ∈ is, I64 i.n) → ∀ i ∈ is', I64 i.n) := by
  obtain ⟨ps, rfl, h2, h3⟩ := h
  rcases h2.2 with ⟨rfl, h0⟩ | ⟨g, cap, cur, rfl, hb, hg, hnc, hcm, hcs, ht⟩
  · exact ⟨[], by simpa using h0.symm, InssO.nil _ _, fun _ i hi => by simp at hi⟩
  · obtain ⟨cs', e1, e2, e3⟩ := hs g cur 86 hb hg
    have hlen : (cs'.toList.take (ps.length * 7)).length = ps.length * 7 := by
      have hsz : cs'.toList.length = cap * 7 := by rw [← hcs, ← e2]; simp
      rw [List.length_take, hsz]
      have := Nat.mul_le_mul_right 7 hnc
      omega
    obtain ⟨qs, q1, q2, q3⟩ := split7 (fun p => ArgsO B w' p.2 p.1.args ∧ ((∀ i ∈ ps.map (·.1), I64 i.n) → I64 p.1.n)) ps.length _ hlen (by
      intro j hj
      have hp : ps[j]? = some ps[j] := List.getElem?_eq_getElem hj
      obtain ⟨g0, g1, g2, g3, g4, g5, g6⟩ := cellsI_get ps j _ hp
      have hcell : ∀ k, k < 7 → ∃ c, (cs'.toList.take (ps.length * 7))[j * 7 + k]? = some c ∧ ((cellsI ps)[j * 7 + k]? = some c ∨ Typed B w' 86 (j * 7 + k) c) := by
        intro k hk
        have hb1 : j * 7 + k < (cs'.toList.take (ps.length * 7)).length := by rw [hlen]; omega
        refine ⟨_, List.getElem?_eq_getElem hb1, ?_⟩
        have hc' : cs'[j * 7 + k]? = some ((cs'.toList.take (ps.length * 7))[j * 7 + k]) := by
          rw [List.getElem_take]
          rw [List.length_take] at hb1
          simp at hb1 ⊢
        rcases e3 _ _ hc' with h1 | h1
        · left
          rw [← ht, List.getElem?_take, if_pos (by omega)]
          simpa using h1
        · exact .inr h1
      obtain ⟨c0, x0, y0⟩ := hcell 0 (by omega)
      obtain ⟨c1, x1, y1⟩ := hcell 1 (by omega)
      obtain ⟨c2, x2, y2⟩ := hcell 2 (by omega)
      obtain ⟨c3, x3, y3⟩ := hcell 3 (by omega)
      obtain ⟨c4, x4, y4⟩ := hcell 4 (by omega)
      obtain ⟨c5, x5, y5⟩ := hcell 5 (by omega)
      obtain ⟨c6, x6, y6⟩ := hcell 6 (by omega)
      rw [Nat.add_zero] at x0 y0
      have z0 : ∃ x, c0 = .int .u8 x := by
        rcases y0 with y | y
        · rw [g0] at y; exact ⟨_, (Option.some.inj y).symm⟩
        · exact (y.2.1 rfl).1 (by omega)
      have z1 : ∃ x, c1 = .int .u8 x := by
        rcases y1 with y | y
        · rw [g1] at y; exact ⟨_, (Option.some.inj y).symm⟩
        · exact (y.2.1 rfl).1 (by omega)
      have z2 : ∃ x, c2 = .int .i64 x := by
        rcases y2 with y | y
        · rw [g2] at y; exact ⟨_, (Option.some.inj y).symm⟩
        · obtain ⟨x, hx, _⟩ := (y.2.1 rfl).2.1 (by omega) (by omega)
          exact ⟨x, hx⟩
      have z3 : ∃ x, c3 = .int .i64 x := by
        rcases y3 with y | y
        · rw [g3] at y; exact ⟨_, (Option.some.inj y).symm⟩
        · obtain ⟨x, hx, _⟩ := (y.2.1 rfl).2.1 (by omega) (by omega)
          exact ⟨x, hx⟩
      have z4 : ∃ x, c4 = .int .i64 x := by
        rcases y4 with y | y
        · rw [g4] at y; exact ⟨_, (Option.some.inj y).symm⟩
        · obtain ⟨x, hx, _⟩ := (y.2.1 rfl).2.1 (by omega) (by omega)
          exact ⟨x, hx⟩
      have z5 : ∃ x, c5 = .int .i64 x ∧ ((∀ i ∈ ps.map (·.1), I64 i.n) → I64 x) := by
        rcases y5 with y | y
        · rw [g5] at y; exact ⟨_, (Option.some.inj y).symm, fun h => h _ (List.mem_map.2 ⟨_, List.getElem_mem hj, rfl⟩)⟩
        · obtain ⟨x, hx, h5⟩ := (y.2.1 rfl).2.1 (by omega) (by omega)
          exact ⟨x, hx, fun _ => h5 (by omega)⟩
      have z6 : ∃ xs, ArgsO B w' c6 xs := by
        rcases y6 with y | y
        · rw [g6] at y
          obtain ⟨xs, _, hx⟩ := (h3 _ (List.getElem_mem hj)).soft hs
          exact ⟨xs, by rw [← Option.some.inj y]; exact hx⟩
        · exact (y.2.1 rfl).2.2 (by omega)
      obtain ⟨x0', rfl⟩ := z0
      obtain ⟨x1', rfl⟩ := z1
      obtain ⟨x2', rfl⟩ := z2
      obtain ⟨x3', rfl⟩ := z3
      obtain ⟨x4', rfl⟩ := z4
      obtain ⟨x5', rfl, hx5⟩ := z5
      obtain ⟨xs, hx⟩ := z6
      exact ⟨(⟨x0', x1', x2', x3', x4', x5', xs⟩, c6), ⟨hx, hx5⟩, x0, x1, x2, x3, x4, x5, x6⟩)
    refine ⟨qs.map (·.1), by simp [q1], ⟨qs, rfl, ⟨?_, .inr ⟨g, cap, cs', by rw [q1], hb, e1, by omega, hcm, by rw [e2, hcs], by rw [q1]; exact q2⟩⟩, fun p hp => (q3 p hp).1⟩, fun h i hi => by
      obtain ⟨q, hq, rfl⟩ := List.mem_map.1 hi
      exact (q3 q hq).2 h⟩
    rw [cellsI_len]

theorem BlksO.soft {B : Nat} {w w' : World} {v : Value} {bs : List Blk} (h : BlksO B w v bs) (hs : Soft B w w') : ∃ bs', bs'.length = bs.length ∧ BlksO B w' v bs' ∧ ((∀ b ∈ bs, ∀ i ∈ b.ins, I64 i.n) → ∀ b ∈ bs', ∀ i ∈ b.ins, I64 i.n) := by
  obtain ⟨ps, rfl, h2, h3⟩ := h
  rcases h2.2 with ⟨rfl, h0⟩ | ⟨g, cap, cur, rfl, hb, hg, hnc, hcm, hcs, ht⟩
  · exact ⟨[], by simpa using h0.symm, BlksO.nil _ _, fun _ i hi => by simp at hi⟩
  · obtain ⟨cs', e1, e2, e3⟩ := hs g cur 82 hb hg
    have hlen : (cs'.toList.take (ps.length * 5)).length = ps.length * 5 := by
      have hsz : cs'.toList.length = cap * 5 := by rw [← hcs, ← e2]; simp
      rw [List.length_take, hsz]
      have := Nat.mul_le_mul_right 5 hnc
      omega
    obtain ⟨qs, q1, q2, q3⟩ := split5 (fun p => InssO B w' p.2 p.1.ins ∧ ((∀ b ∈ ps.map (·.1), ∀ i ∈ b.ins, I64 i.n) → ∀ i ∈ p.1.ins, I64 i.n)) ps.length _ hlen (by
      intro j hj
      have hp : ps[j]? = some ps[j] := List.getElem?_eq_getElem hj
      obtain ⟨g0, g1, g2, g3, g4⟩ := cellsB_get ps j _ hp
      have hcell : ∀ k, k < 5 → ∃ c, (cs'.toList.take (ps.length * 5))[j * 5 + k]? = some c ∧ ((cellsB ps)[j * 5 + k]? = some c ∨ Typed B w' 82 (j * 5 + k) c) := by
        intro k hk
        have hb1 : j * 5 + k < (cs'.toList.take (ps.length * 5)).length := by rw [hlen]; omega
        refine ⟨_, List.getElem?_eq_getElem hb1, ?_⟩
        have hc' : cs'[j * 5 + k]? = some ((cs'.toList.take (ps.length * 5))[j * 5 + k]) := by
          rw [List.getElem_take]
          rw [List.length_take] at hb1
          simp at hb1 ⊢
        rcases e3 _ _ hc' with h1 | h1
        · left
          rw [← ht, List.getElem?_take, if_pos (by omega)]
          simpa using h1
        · exact .inr h1
      obtain ⟨c0, x0, y0⟩ := hcell 0 (by omega)
      obtain ⟨c1, x1, y1⟩ := hcell 1 (by omega)
      obtain ⟨c2, x2, y2⟩ := hcell 2 (by omega)
      obtain ⟨c3, x3, y3⟩ := hcell 3 (by omega)
      obtain ⟨c4, x4, y4⟩ := hcell 4 (by omega)
      rw [Nat.add_zero] at x0 y0
      have z0 : ∃ is, InssO B w' c0 is ∧ ((∀ b ∈ ps.map (·.1), ∀ i ∈ b.ins, I64 i.n) → ∀ i ∈ is, I64 i.n) := by
        rcases y0 with y | y
        · rw [g0] at y
          obtain ⟨is, _, hx, hr⟩ := (h3 _ (List.getElem_mem hj)).soft hs
          exact ⟨is, by rw [← Option.some.inj y]; exact hx, fun h => hr (h _ (List.mem_map.2 ⟨_, List.getElem_mem hj, rfl⟩))⟩
        · obtain ⟨is, hi, hr⟩ := (y.2.2 rfl).1 (by omega)
          exact ⟨is, hi, fun _ => hr⟩
      have z1 : ∃ x, c1 = .int .u8 x := by
        rcases y1 with y | y
        · rw [g1] at y; exact ⟨_, (Option.some.inj y).symm⟩
        · exact (y.2.2 rfl).2.1 (by omega)
      have z2 : ∃ x, c2 = .int .i64 x := by
        rcases y2 with y | y
        · rw [g2] at y; exact ⟨_, (Option.some.inj y).symm⟩
        · exact (y.2.2 rfl).2.2 (by omega)
      have z3 : ∃ x, c3 = .int .i64 x := by
        rcases y3 with y | y
        · rw [g3] at y; exact ⟨_, (Option.some.inj y).symm⟩
        · exact (y.2.2 rfl).2.2 (by omega)
      have z4 : ∃ x, c4 = .int .i64 x := by
        rcases y4 with y | y
        · rw [g4] at y; exact ⟨_, (Option.some.inj y).symm⟩
        · exact (y.2.2 rfl).2.2 (by omega)
      obtain ⟨is, hi, hri⟩ := z0
      obtain ⟨x1', rfl⟩ := z1
      obtain ⟨x2', rfl⟩ := z2
      obtain ⟨x3', rfl⟩ := z3
      obtain ⟨x4', rfl⟩ := z4
      exact ⟨(⟨is, ⟨x1', x2', x3', x4'⟩⟩, c0), ⟨hi, hri⟩, x0, x1, x2, x3, x4⟩)
    refine ⟨qs.map (·.1), by simp [q1], ⟨qs, rfl, ⟨?_, .inr ⟨g, cap, cs', by rw [q1], hb, e1, by omega, hcm, by rw [e2, hcs], by rw [q1]; exact q2⟩⟩, fun p hp => (q3 p hp).1⟩, fun h b hb => by
      obtain ⟨q, hq, rfl⟩ := List.mem_map.1 hb
      exact (q3 q hq).2 h⟩
    rw [cellsB_len]

theorem Typed.soft {B : Nat} {w w' : World} {t : TypeId} {j : Nat} {c : Value} (h : Typed B w t j c) (hs : Soft B w w') : Typed B w' t j c := by
  refine ⟨h.1, fun ht => ⟨(h.2.1 ht).1, (h.2.1 ht).2.1, fun hj => ?_⟩, fun ht => ⟨fun hj => ?_, (h.2.2 ht).2.1, (h.2.2 ht).2.2⟩⟩
  · obtain ⟨xs, hx⟩ := (h.2.1 ht).2.2 hj
    obtain ⟨ys, _, hy⟩ := hx.soft hs
    exact ⟨ys, hy⟩
  · obtain ⟨xs, hx, hr⟩ := (h.2.2 ht).1 hj
    obtain ⟨ys, _, hy, hr2⟩ := hx.soft hs
    exact ⟨ys, hy, hr2 hr⟩
theorem Soft.trans {B : Nat} {w w1 w2 : World} (h1 : Soft B w w1) (h2 : Soft B w1 w2) : Soft B w w2 := by
  intro g cs t hg h0
  obtain ⟨cs1, e1, e2, e3⟩ := h1 g cs t hg h0
  obtain ⟨cs2, f1, f2, f3⟩ := h2 g cs1 t hg e1
  refine ⟨cs2, f1, by rw [f2, e2], fun j c hc => ?_⟩
  rcases f3 j c hc with h | h
  · rcases e3 j c h with k | k
    · exact .inl k
    · exact .inr (k.soft h2)
  · exact .inr h
theorem Soft.keeps {B : Nat} {w w' : World} (h : Keeps (fun _ => true) w w') : Soft B w w' := fun g cs t _ h0 => ⟨cs, h g cs t (0, 0) rfl h0, rfl, fun _ _ h => .inl h⟩
theorem Soft.below {B : Nat} {w w' : World} (h : Below w.heap.size w w') : Soft B w w' := Soft.keeps (Keeps.below h)
theorem Soft.refl (B : Nat) (w : World) : Soft B w w := Soft.keeps (Keeps.refl _ _)
/-- One cell of a row, stored: of its kind. -/
theorem Soft.set {B : Nat} {w : World} {g j : Nat} {cs : Array Value} {t : TypeId} {c : Value} (h0 : w.heap[g]? = some (Obj.cells cs t (0, 0))) (hT : Typed B (w.setCell ⟨g, j, none⟩ c) t j c) : Soft B w (w.setCell ⟨g, j, none⟩ c) := by
  intro g' cs' t' hg' h'
  by_cases e : g' = g
  · subst e
    rw [h0] at h'
    simp only [Option.some.injEq, Obj.cells.injEq] at h'
    obtain ⟨rfl, rfl, _⟩ := h'
    refine ⟨_, heap_setCell_same w g' j cs t c h0, by simp, fun i x hx => ?_⟩
    by_cases hij : i = j
    · subst hij
      by_cases hl : i < cs.size
      · simp [hl] at hx
        subst hx
        exact .inr hT
      · simp [hl] at hx
    · left
      rw [Array.getElem?_setIfInBounds_ne (fun h => hij h.symm)] at hx
      exact hx
  · refine ⟨cs', ?_, rfl, fun _ _ h => .inl h⟩
    rw [Below.heap_setCell _ _ _ _ (fun h => e (by simpa using h))]
    exact h'
/-- The same where the row may be of any frozen range, not ours. -/
theorem Soft.setOther {B : Nat} {w : World} {g j : Nat} {c : Value} (hg : g < B) : Soft B w (w.setCell ⟨g, j, none⟩ c) := by
  intro g' cs' t' hg' h'
  refine ⟨cs', ?_, rfl, fun _ _ h => .inl h⟩
  rw [Below.heap_setCell _ _ _ _ (fun h => by simp at h; omega)]
  exact h'
end Go.Proofs.Ytbjnhicikkjadaa
namespace Go.Proofs.Ytbjnhicikkjadaa
open Go.RowKit Ir
theorem cellsI_cons (p : Ins × Value) (ps : List (Ins × Value)) : cellsI (p :: ps) = [.int .u8 p.1.k, .int .u8 p.1.op, .int .i64 p.1.d, .int .i64 p.1.a, .int .i64 p.1.b, .int .i64 p.1.n, p.2] ++ cellsI ps := by simp [cellsI]
theorem cellsI_set : ∀ (ps : List (Ins × Value)) (j : Nat) (u : Value) (hj : j < ps.length), cellsI (ps.set j (ps[j].1, u)) = (cellsI ps).set (j * 7 + 6) u
  | [], j, _, hj => by simp at hj
  | p :: ps, 0, u, _ => by
    rw [List.set_cons_zero, cellsI_cons, cellsI_cons]
    rfl
  | p :: ps, j + 1, u, hj => by
    have hj' : j < ps.length := by simpa using hj
    rw [List.set_cons_succ, cellsI_cons, cellsI_cons, show (p :: ps)[j + 1] = ps[j] from rfl, cellsI_set ps j u hj', show (j + 1) * 7 + 6 = 7 + (j * 7 + 6) by omega]
    rw [List.set_append_right _ _ (by simp)]
    simp
theorem row_set {B : Nat} {w : World} {g n cap : Nat} {ps : List (Ins × Value)} (h : w.ownsRow B 86 7 (.slice (some ⟨g, 0, none⟩) n cap) ps.length (cellsI ps)) (j : Nat) (hj : j < ps.length) (u : Value) :
    (w.setCell ⟨g, j * 7 + 6, none⟩ u).ownsRow B 86 7 (.slice (some ⟨g, 0, none⟩) n cap) (ps.set j (ps[j].1, u)).length (cellsI (ps.set j (ps[j].1, u))) := by
  rcases h.2 with ⟨h0, _⟩ | ⟨g', cap', cur, hv, hb, hg, h1, h2, h3, h4⟩
  · simp at h0
  · simp only [Value.slice.injEq, Option.some.injEq, Addr.mk.injEq] at hv
    obtain ⟨⟨rfl, _⟩, rfl, rfl⟩ := hv
    refine ⟨by rw [cellsI_len], .inr ⟨g, cap, _, by rw [List.length_set], hb, heap_setCell_same w g _ _ _ u hg, by rw [List.length_set]; exact h1, h2, by simpa using h3, ?_⟩⟩
    rw [cellsI_set ps j u hj, List.length_set, ← h4]
    simp [List.take_set]
end Go.Proofs.Ytbjnhicikkjadaa
namespace Go.Proofs.Ytbjnhicikkjadaa
open Go Go.RowKit

namespace L
section
variable {P : Program} {ops : Array Oper} {Q : Exit → Act → World → Prop} {md : Region.Mode}
variable {a0 : Act} {G : (Nat → Bool) → Tmp → Value → World → Prop} {S : (Nat → Bool) → World → Prop} {j : Nat} {o : Oper} {d : Tmp}
/-- A call of a closure, by its contract; not guarded. -/
theorem asked_clos {f : FuncId} {fn : Func} {x : Operand} {xs : Array Operand} {ts : Array TypeId} {cap : Array Value} (hg : o.guard = none) (hf : P.funcs[f]? = some fn) (hn : (fn.name == "runtime.NumGoroutine") = false) (hbody : fn.body.isNone = false) (hd : o.dst = some d) (hop : o.op = .call { callee := .value x, args := xs, argTypes := ts })
    (h : ∀ l a w, Hand md ops a0 G S j o l a w → a.eval x = .func (.func f) #[] cap ∧ Calls P f (xs.map a.eval ++ cap) w fun e w' => ∃ v, e = .returned v ∧ G (upd l j) d v w' ∧ S (upd l j) w' ∧ ∀ d' u, d' ≠ d → G l d' u w → G (upd l j) d' u w') :
    Asked P md ops a0 Q G S j o := by
  intro l a w h1 h2 hcl h3 h4 h5
  refine ⟨fun _ K hK => ?_, fun hw => absurd (by unfold want; rw [hg]; trivial) hw⟩
  obtain ⟨hx, hC⟩ := h l a w ⟨h1, h2, hcl, h3, h4, h5⟩
  have hrun : (execOp a.eval o).run P w = .ok (.enter f (xs.map a.eval ++ cap)) w := by
    have : execOp a.eval o = callFunc f (#[] ++ xs.map a.eval ++ cap) := by
      unfold execOp
      rw [hop]
      show (do let d ← resolve a.eval { callee := .value x, args := xs, argTypes := ts } o.type; invoke d.target d.args) = _
      unfold resolve
      simp only [hx]
      rfl
    rw [this]
    simp [callFunc, hf]
    rw [if_neg (by simpa using hn), if_neg (fun e => by rw [e] at hbody; simp at hbody)]
  unfold Oper.wp
  rw [hrun, Oper.upon_enter]
  refine hC.mono ?_
  rintro e w' ⟨v, rfl, e2, e3, e4⟩
  refine hK _ _ (fun d' h' => ?_) e3 (fun d' u hne hG => e4 d' u (fun e => hne (by rw [e, hd])) hG)
  rw [hd] at h'
  cases h'
  exact e2
end
end L
theorem at_any (n r : Int) (pc : Nat) (w : World) (hc : w.cell? ⟨pc, 1, none⟩ = some (.int .i64 r)) (h0 : 0 < r) : Calls Try.prog 40 #[.int .i64 n, .pointer (some ⟨pc, 0, none⟩)] w fun e w' => e = .returned (.int .i64 (n.tmod r)) ∧ w' = w := by
  have b0 : (r == 0) = false := by simp; omega
  have b1 : (r == -1) = false := by simp; omega
  go_enter Try.func40, Try.ntmps40
  go_wp2_with fail
  go_ret
  exact ⟨rfl, rfl⟩
end Go.Proofs.Ytbjnhicikkjadaa
namespace Go.Proofs.Ytbjnhicikkjadaa
open Go Ir
/-! ### What is made has numbers in range -/
theorem nxt_rg {bs : List Int} {n : Int} (hn : 0 < n) (h : n ≤ 1000) : I64 (nxt bs n).1 := by
  have := nxt_in (bs := bs) hn
  exact ⟨by omega, by omega⟩
theorem mkOf_rg (k v : Int) (bs : List Int) : I64 (mkOf k v bs).1.n := by
  have z : I64 0 := ⟨by omega, by omega⟩
  have h1 := nxt_in (bs := (nxt bs v).2) (n := 256) (by omega)
  have h2 := nxt_rg (bs := (nxt bs v).2) (n := 5) (by omega) (by omega)
  have h3 : I64 ((nxt (nxt bs v).2 256).1 - 3) := ⟨by omega, by omega⟩
  unfold mkOf
  split
  · exact h3
  split
  · exact z
  split
  · exact z
  split
  · exact h2
  split
  · exact z
  · exact z
theorem mkInss_rg (v : Int) : ∀ (c : Nat) (bs : List Int), ∀ i ∈ (mkInss v c bs).1, I64 i.n
  | 0, _ => fun i hi => by simp [mkInss] at hi
  | c + 1, bs => fun i hi => by
    simp only [mkInss, List.mem_cons] at hi
    rcases hi with rfl | hi
    · exact mkOf_rg _ _ _
    · exact mkInss_rg v c _ i hi
theorem mkBlks_rg (v n : Int) : ∀ (c : Nat) (bs : List Int), ∀ b ∈ (mkBlks v n c bs).1, ∀ i ∈ b.ins, I64 i.n
  | 0, _ => fun b hb => by simp [mkBlks] at hb
  | c + 1, bs => fun b hb => by
    simp only [mkBlks, List.mem_cons] at hb
    rcases hb with rfl | hb
    · exact mkInss_rg _ _ _
    · exact mkBlks_rg v n c _ b hb
theorem made_rgd (p v b : Int) (bs : List Int) : ∀ x ∈ (made p v b bs).bs, ∀ i ∈ x.ins, I64 i.n := mkBlks_rg _ _ _ _
end Go.Proofs.Ytbjnhicikkjadaa
