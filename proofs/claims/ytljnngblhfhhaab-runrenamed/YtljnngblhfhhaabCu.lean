/- A function's rows in memory, cell by cell, while they are stored anew. -/
import Derived.Test.YtljnngblhfhhaabMt
import Derived.Test.YtljnngblhfhhaabPr
namespace Go.Proofs.Ytljnngblhfhhaab.Ap
open Go.RowKit Ir

def ob (v : Value) : Nat := v.ownBlock.getD 0
def zPB : PB := (Blk.zero, .slice none 0 0, [])
def zI : Ins × Value := (Ins.zero, .slice none 0 0)
def rv (qs : List PB) (k : Nat) : Value := (qs.getD k zPB).2.1
def nI (qs : List PB) (k : Nat) : Nat := (qs.getD k zPB).2.2.length
def av (qs : List PB) (k j : Nat) : Value := ((qs.getD k zPB).2.2.getD j zI).2
def D0 (qs : List PB) (k j : Nat) : Ins := ((qs.getD k zPB).2.2.getD j zI).1
def E0 (qs : List PB) (k : Nat) : En := (qs.getD k zPB).1.e
def icell (i : Ins) (u : Value) : Nat → Value
  | 0 => .int .u8 i.k
  | 1 => .int .u8 i.op
  | 2 => .int .i64 i.d
  | 3 => .int .i64 i.a
  | 4 => .int .i64 i.b
  | 5 => .int .i64 i.n
  | _ => u
def ecell (e : En) (u : Value) : Nat → Value
  | 0 => u
  | 1 => .int .u8 e.k
  | 2 => .int .i64 e.a
  | 3 => .int .i64 e.to
  | _ => .int .i64 e.el
/-- Which rows are which: all apart, all between lo and hi. -/
structure Apt (lo hi : Nat) (qs : List PB) (gb : Nat) : Prop where
  a1 : ∀ k1 k2, k1 < qs.length → k2 < qs.length → 0 < nI qs k1 → 0 < nI qs k2 → ob (rv qs k1) = ob (rv qs k2) → k1 = k2
  a2 : ∀ k1 j1 k2 j2, k1 < qs.length → k2 < qs.length → j1 < nI qs k1 → j2 < nI qs k2 → 0 < (D0 qs k1 j1).args.length → 0 < (D0 qs k2 j2).args.length → ob (av qs k1 j1) = ob (av qs k2 j2) → k1 = k2 ∧ j1 = j2
  b1 : ∀ k, k < qs.length → 0 < nI qs k → ob (rv qs k) ≠ gb
  b2 : ∀ k j, k < qs.length → j < nI qs k → 0 < (D0 qs k j).args.length → ob (av qs k j) ≠ gb
  b3 : ∀ k k' j', k < qs.length → k' < qs.length → 0 < nI qs k → j' < nI qs k' → 0 < (D0 qs k' j').args.length → ob (rv qs k) ≠ ob (av qs k' j')
  zb : lo ≤ gb ∧ gb < hi
  zr : ∀ k, k < qs.length → 0 < nI qs k → lo ≤ ob (rv qs k) ∧ ob (rv qs k) < hi
  za : ∀ k j, k < qs.length → j < nI qs k → 0 < (D0 qs k j).args.length → lo ≤ ob (av qs k j) ∧ ob (av qs k j) < hi
/-- A block that is one of the rows. -/
def Zone (qs : List PB) (gb b : Nat) : Prop := b = gb ∨ (∃ k, k < qs.length ∧ 0 < nI qs k ∧ b = ob (rv qs k)) ∨ ∃ k j, k < qs.length ∧ j < nI qs k ∧ 0 < (D0 qs k j).args.length ∧ b = ob (av qs k j)
/-- What stands in memory: D, E. -/
structure Cur (W0 : World) (lo : Nat) (qs : List PB) (gb : Nat) (D : Nat → Nat → Ins) (E : Nat → En) (w : World) : Prop where
  blk : ∀ k, k < qs.length → ∀ f, f < 5 → w.cell? ⟨gb, k * 5 + f, none⟩ = some (ecell (E k) (rv qs k) f)
  ins : ∀ k, k < qs.length → ∀ j, j < nI qs k → ∀ f, f < 7 → w.cell? ⟨ob (rv qs k), j * 7 + f, none⟩ = some (icell (D k j) (av qs k j) f)
  arg : ∀ k, k < qs.length → ∀ j, j < nI qs k → ∀ m, m < (D k j).args.length → w.cell? ⟨ob (av qs k j), m, none⟩ = some (.int .i64 ((D k j).args.getD m 0))
  len : ∀ k, k < qs.length → ∀ j, j < nI qs k → (D k j).args.length = (D0 qs k j).args.length
  out : ∀ b, ¬ Zone qs gb b → w.heap[b]? = W0.heap[b]?
  fro : ∀ a, w.frozen? a = W0.frozen? a
  bel : Below lo W0 w
section
variable {W0 w : World} {lo hi gb : Nat} {qs : List PB} {D : Nat → Nat → Ins} {E : Nat → En}
theorem Cur.congr {D' : Nat → Nat → Ins} {E' : Nat → En} (h : Cur W0 lo qs gb D E w) (hD : ∀ k, k < qs.length → ∀ j, j < nI qs k → D' k j = D k j) (hE : ∀ k, k < qs.length → E' k = E k) : Cur W0 lo qs gb D' E' w :=
  ⟨fun k hk f hf => by rw [hE k hk]; exact h.blk k hk f hf, fun k hk j hj f hf => by rw [hD k hk j hj]; exact h.ins k hk j hj f hf, fun k hk j hj m hm => by rw [hD k hk j hj] at hm ⊢; exact h.arg k hk j hj m hm, fun k hk j hj => by rw [hD k hk j hj]; exact h.len k hk j hj, h.out, h.fro, h.bel⟩
theorem Cur.drew (h : Cur W0 lo qs gb D E w) : Cur W0 lo qs gb D E w.drew := ⟨h.blk, h.ins, h.arg, h.len, h.out, h.fro, h.bel.drew⟩
theorem set_far {w : World} {b b' o o' : Nat} {v : Value} (h : b ≠ b' ∨ o ≠ o') : (w.setCell ⟨b, o, none⟩ v).cell? ⟨b', o', none⟩ = w.cell? ⟨b', o', none⟩ := World.cell?_setCell_other _ _ _ _ (fun e => by
  simp only [Addr.mk.injEq, and_true] at e
  rcases h with h | h
  · exact h e.1
  · exact h e.2)
theorem set_out {w : World} {b o b' : Nat} {v : Value} (h : b' ≠ b) : (w.setCell ⟨b, o, none⟩ v).heap[b']? = w.heap[b']? := Below.heap_setCell _ _ _ _ h
/-- An instruction's own cell is stored. -/
theorem Cur.setI (h : Cur W0 lo qs gb D E w) (hA : Apt lo hi qs gb) {kk jj f0 : Nat} {i' : Ins} {x : Value} (hk : kk < qs.length) (hj : jj < nI qs kk) (hf : f0 < 7) (h0 : ∀ u, icell i' u f0 = x) (h1 : ∀ u f, f < 7 → f ≠ f0 → icell i' u f = icell (D kk jj) u f) (ha : i'.args = (D kk jj).args) :
    Cur W0 lo qs gb (fun k j => if k = kk ∧ j = jj then i' else D k j) E (w.setCell ⟨ob (rv qs kk), jj * 7 + f0, none⟩ x) := by
  have hz := hA.zr kk hk (by omega)
  refine ⟨fun k hk' f hf' => ?_, fun k hk' j hj' f hf' => ?_, fun k hk' j hj' m hm => ?_, fun k hk' j hj' => ?_, fun b hb => ?_, fun a => ?_, h.bel.setCell hz.1 _⟩
  · rw [set_far (.inl (hA.b1 kk hk (by omega)))]
    exact h.blk k hk' f hf'
  · by_cases e : k = kk ∧ j = jj
    · obtain ⟨rfl, rfl⟩ := e
      rw [if_pos ⟨rfl, rfl⟩]
      by_cases e2 : f = f0
      · subst e2
        rw [h0]
        exact World.cell?_setCell_same _ _ _ (h.ins k hk' j hj' f hf')
      · rw [set_far (.inr (by omega)), h1 _ f hf' e2]
        exact h.ins k hk' j hj' f hf'
    · rw [if_neg e, set_far ?_]
      · exact h.ins k hk' j hj' f hf'
      · by_cases e3 : k = kk
        · subst e3
          right
          have : j ≠ jj := fun e4 => e ⟨rfl, e4⟩
          omega
        · left
          intro e4
          exact e3 (hA.a1 k kk hk' hk (by omega) (by omega) e4.symm)
  · have hl : (if k = kk ∧ j = jj then i' else D k j).args = (D k j).args := by
      split
      · rename_i e
        rw [ha, e.1, e.2]
      · rfl
    rw [hl] at hm ⊢
    have hlen := h.len k hk' j hj'
    rw [set_far (.inl (hA.b3 kk k j hk hk' (by omega) hj' (by omega)))]
    exact h.arg k hk' j hj' m hm
  · have hl : (if k = kk ∧ j = jj then i' else D k j).args = (D k j).args := by
      split
      · rename_i e
        rw [ha, e.1, e.2]
      · rfl
    rw [hl]
    exact h.len k hk' j hj'
  · rw [set_out (fun e => hb (.inr (.inl ⟨kk, hk, by omega, e⟩)))]
    exact h.out b hb
  · rw [World.frozen?_setCell]
    exact h.fro a
/-- An argument is stored. -/
theorem Cur.setA (h : Cur W0 lo qs gb D E w) (hA : Apt lo hi qs gb) {kk jj m0 : Nat} {x : Int} (hk : kk < qs.length) (hj : jj < nI qs kk) (hm : m0 < (D kk jj).args.length) :
    Cur W0 lo qs gb (fun k j => if k = kk ∧ j = jj then { D kk jj with args := (D kk jj).args.set m0 x } else D k j) E (w.setCell ⟨ob (av qs kk jj), m0, none⟩ (.int .i64 x)) := by
  have hl0 := h.len kk hk jj hj
  have hz := hA.za kk jj hk hj (by omega)
  refine ⟨fun k hk' f hf' => ?_, fun k hk' j hj' f hf' => ?_, fun k hk' j hj' m hm' => ?_, fun k hk' j hj' => ?_, fun b hb => ?_, fun a => ?_, h.bel.setCell hz.1 _⟩
  · rw [set_far (.inl (hA.b2 kk jj hk hj (by omega)))]
    exact h.blk k hk' f hf'
  · have hs : ∀ u, icell (if k = kk ∧ j = jj then { D kk jj with args := (D kk jj).args.set m0 x } else D k j) u f = icell (D k j) u f := by
      intro u
      split
      · rename_i e
        rw [e.1, e.2]
        unfold icell
        split <;> rfl
      · rfl
    rw [hs, set_far (.inl (fun e => hA.b3 k kk jj hk' hk (by omega) hj (by omega) e.symm))]
    exact h.ins k hk' j hj' f hf'
  · by_cases e : k = kk ∧ j = jj
    · obtain ⟨rfl, rfl⟩ := e
      rw [if_pos ⟨rfl, rfl⟩] at hm' ⊢
      simp only [List.length_set] at hm'
      by_cases e2 : m = m0
      · subst e2
        rw [World.cell?_setCell_same _ _ _ (h.arg k hk' j hj' m hm')]
        simp [hm']
      · rw [set_far (.inr (fun e3 => e2 e3.symm)), h.arg k hk' j hj' m hm']
        simp [List.getElem?_set_ne (fun e3 : m0 = m => e2 e3.symm)]
    · rw [if_neg e] at hm' ⊢
      have hl1 := h.len k hk' j hj'
      rw [set_far (.inl fun e3 => e (by have := hA.a2 k j kk jj hk' hk hj' hj (by omega) (by omega) e3.symm; exact this))]
      exact h.arg k hk' j hj' m hm'
  · have := h.len k hk' j hj'
    show (if k = kk ∧ j = jj then { D kk jj with args := (D kk jj).args.set m0 x } else D k j).args.length = _
    split
    · rename_i e
      rw [e.1, e.2] at this ⊢
      simpa using this
    · exact this
  · rw [set_out (fun e => hb (.inr (.inr ⟨kk, jj, hk, hj, by omega, e⟩)))]
    exact h.out b hb
  · rw [World.frozen?_setCell]
    exact h.fro a
/-- An end's vreg is stored. -/
theorem Cur.setE (h : Cur W0 lo qs gb D E w) (hA : Apt lo hi qs gb) {kk : Nat} {x : Int} (hk : kk < qs.length) :
    Cur W0 lo qs gb D (fun k => if k = kk then { E kk with a := x } else E k) (w.setCell ⟨gb, kk * 5 + 2, none⟩ (.int .i64 x)) := by
  refine ⟨fun k hk' f hf' => ?_, fun k hk' j hj' f hf' => ?_, fun k hk' j hj' m hm' => ?_, h.len, fun b hb => ?_, fun a => ?_, h.bel.setCell hA.zb.1 _⟩
  · by_cases e : k = kk
    · subst e
      rw [if_pos rfl]
      by_cases e2 : f = 2
      · subst e2
        exact World.cell?_setCell_same _ _ _ (h.blk k hk' 2 hf')
      · rw [set_far (.inr (by omega)), h.blk k hk' f hf']
        unfold ecell
        split <;> first | rfl | omega
    · rw [if_neg e, set_far (.inr (by omega))]
      exact h.blk k hk' f hf'
  · rw [set_far (.inl (fun e => hA.b1 k hk' (by omega) e.symm))]
    exact h.ins k hk' j hj' f hf'
  · have := h.len k hk' j hj'
    rw [set_far (.inl (fun e => hA.b2 k j hk' hj' (by omega) e.symm))]
    exact h.arg k hk' j hj' m hm'
  · rw [set_out (fun e => hb (.inl e))]
    exact h.out b hb
  · rw [World.frozen?_setCell]
    exact h.fro a
end
theorem own_off {w : World} {B n sz : Nat} {t : TypeId} {v : Value} {xs : List Value} {b off m c : Nat} (h : w.ownsRow B t sz v n xs) (e : v = .slice (some ⟨b, off, none⟩) m c) : off = 0 := by
  rcases h.2 with ⟨h1, _⟩ | ⟨g, cap, cur, h1, _⟩
  · rw [h1] at e
    simp at e
  · rw [h1] at e
    simp only [Value.slice.injEq, Option.some.injEq, Addr.mk.injEq, and_true] at e
    exact e.1.2.symm
/-- The blocks that D, E say. -/
def blksOf (qs : List PB) (D : Nat → Nat → Ins) (E : Nat → En) : List Blk := (List.range qs.length).map fun k => ⟨(List.range (nI qs k)).map (D k), E k⟩
/-- A slice whose elements were stored anew. -/
theorem SlV.anew {α β : Type} {sz : Nat} {F : World → Nat → Nat → α → Prop} {F' : World → Nat → Nat → β → Prop} {z : α} {z' : β} {w w' : World} {v : Value} {xs : List α} {ys : List β} (h : SlV sz F z w v xs) (hl : ys.length = xs.length) (hE : ∀ b off n c, v = .slice (some ⟨b, off, none⟩) n c → ∀ j, j < ys.length → F' w' b (off + j * sz) (ys.getD j z')) : SlV sz F' z' w' v ys := by
  obtain ⟨ao, cap, h1, h2, h3, h4, h5⟩ := h
  refine ⟨ao, cap, by rw [hl]; exact h1, by omega, h3, h4, fun h0 => ?_⟩
  obtain ⟨b, off, e, _⟩ := h5 (by omega)
  exact ⟨b, off, e, fun j hj => hE b off _ cap (by rw [h1, e]) j hj⟩
theorem Cur.blks {W0 w : World} {lo gb B cb : Nat} {qs : List PB} {D : Nat → Nat → Ins} {E : Nat → En} {ws : World} (h : Cur W0 lo qs gb D E w) (hv : ws.ownsRow B 48 5 (.slice (some ⟨gb, 0, none⟩) qs.length cb) qs.length (cellsB' qs)) (hr : Rest B ws qs) : BlksV w (.slice (some ⟨gb, 0, none⟩) qs.length cb) (blksOf qs D E) := by
  have hO : Ap.BlksO B ws (.slice (some ⟨gb, 0, none⟩) qs.length cb) (qs.map (·.1)) := ⟨qs, rfl, hv, hr⟩
  refine SlV.anew (F' := BlkAt) (z' := Blk.zero) (BlksO.old hO).v (by simp [blksOf]) ?_
  intro b off n c e k hk
  simp only [Value.slice.injEq, Option.some.injEq, Addr.mk.injEq, and_true] at e
  obtain ⟨⟨rfl, rfl⟩, _⟩ := e
  have hk2 : k < qs.length := by simpa [blksOf] using hk
  have hg : (blksOf qs D E).getD k Blk.zero = ⟨(List.range (nI qs k)).map (D k), E k⟩ := by simp [blksOf, hk2]
  rw [hg, Nat.zero_add]
  refine ⟨rv qs k, ⟨h.blk k hk2 0 (by omega), h.blk k hk2 1 (by omega), h.blk k hk2 2 (by omega), h.blk k hk2 3 (by omega), h.blk k hk2 4 (by omega)⟩, ?_⟩
  have hq : qs.getD k zPB ∈ qs := by simp [hk2]
  have hP := (hr.each _ hq).2
  refine SlV.anew (F' := InsAt) (z' := Ins.zero) hP.old.v (by simp [nI]) ?_
  intro b off n c e j hj
  simp only [List.length_map, List.length_range] at hj
  have e' : rv qs k = .slice (some ⟨b, off, none⟩) n c := e
  have hob : ob (rv qs k) = b := by rw [e']; rfl
  have hoff : off = 0 := own_off hP.row e'
  subst hoff
  have hgj : ((List.range (nI qs k)).map (D k)).getD j Ins.zero = D k j := by simp [hj]
  rw [hgj, Nat.zero_add]
  have hi := h.ins k hk2 j hj
  rw [hob] at hi
  refine ⟨av qs k j, ⟨hi 0 (by omega), hi 1 (by omega), hi 2 (by omega), hi 3 (by omega), hi 4 (by omega), hi 5 (by omega), hi 6 (by omega)⟩, ?_⟩
  have hp : (qs.getD k zPB).2.2.getD j zI ∈ (qs.getD k zPB).2.2 := by
    have hj' : j < (qs.getD k zPB).2.2.length := hj
    generalize (qs.getD k zPB).2.2 = l at hj'
    simp [hj']
  have hAr := hP.args _ hp
  refine SlV.anew (F' := IntAt) (z' := 0) hAr.v (h.len k hk2 j hj) ?_
  intro b off n c e m hm
  have e2 : av qs k j = .slice (some ⟨b, off, none⟩) n c := e
  have hob2 : ob (av qs k j) = b := by rw [e2]; rfl
  have hoff : off = 0 := own_off hAr e2
  subst hoff
  have := h.arg k hk2 j hj m hm
  rw [hob2] at this
  show w.cell? _ = _
  rw [Nat.zero_add, Nat.mul_one]
  exact this
theorem own_row {w : World} {B n sz : Nat} {t : TypeId} {v : Value} {xs : List Value} (h : w.ownsRow B t sz v n xs) (hn : 0 < n) : ∃ cap cur, v = .slice (some ⟨ob v, 0, none⟩) n cap ∧ w.heap[ob v]? = some (Obj.cells cur t (0, 0)) ∧ B ≤ ob v ∧ ob v < w.heap.size := by
  rcases h.2 with ⟨_, h0⟩ | ⟨g, cap, cur, rfl, hb, hg, _⟩
  · omega
  · exact ⟨cap, cur, rfl, hg, hb, (Array.getElem?_eq_some_iff.1 hg).1⟩
theorem dif_ob {a b : Value} {ca cb na nb : Nat} (h : Dif a b) (ea : a = .slice (some ⟨ob a, 0, none⟩) na ca) (eb : b = .slice (some ⟨ob b, 0, none⟩) nb cb) : ob a ≠ ob b := by
  intro e
  refine h (ob a) (by rw [ea]; rfl) ?_
  rw [eb, e]
  rfl
theorem rows_ne {w : World} {a b : Nat} {ca cb : Array Value} {ta tb : TypeId} (ha : w.heap[a]? = some (Obj.cells ca ta (0, 0))) (hb : w.heap[b]? = some (Obj.cells cb tb (0, 0))) (ht : ta ≠ tb) : a ≠ b := by
  intro e
  rw [e, hb] at ha
  simp only [Option.some.injEq, Obj.cells.injEq] at ha
  exact ht ha.2.1.symm
theorem getD_at {α : Type} (l : List α) (j : Nat) (z : α) (h : j < l.length) : l.getD j z = l[j] := by simp [h]
/-- How it begins. -/
theorem cur_start {B : Nat} {W : World} {v : Value} {bs : List Blk} (h : BlksO B W v bs) (h1 : 0 < bs.length) :
    ∃ (qs : List PB) (gb cb : Nat), v = .slice (some ⟨gb, 0, none⟩) qs.length cb ∧ qs.map (·.1) = bs ∧ W.ownsRow B 48 5 (.slice (some ⟨gb, 0, none⟩) qs.length cb) qs.length (cellsB' qs) ∧ Rest B W qs ∧ Apt B W.heap.size qs gb ∧ Cur W B qs gb (D0 qs) (E0 qs) W ∧ (∀ b, Zone qs gb b → ∃ cs t, W.heap[b]? = some (Obj.cells cs t (0, 0)) ∧ (t = 48 ∨ t = 53 ∨ t = 3)) := by
  obtain ⟨qs, hq, hO, hR⟩ := h
  have hlen : 0 < qs.length := by have := congrArg List.length hq; rw [List.length_map] at this; omega
  obtain ⟨cb, cur, hv, hrow, hlo, hhi⟩ := own_row hO hlen
  obtain ⟨gb, hgb⟩ : ∃ gb, ob v = gb := ⟨_, rfl⟩
  rw [hgb] at hv hrow hlo hhi
  subst hv
  have hmem : ∀ k, k < qs.length → qs.getD k zPB ∈ qs := fun k hk => by simp [hk]
  have hrowk : ∀ k, k < qs.length → 0 < nI qs k → ∃ cap cur, rv qs k = .slice (some ⟨ob (rv qs k), 0, none⟩) (nI qs k) cap ∧ W.heap[ob (rv qs k)]? = some (Obj.cells cur 53 (0, 0)) ∧ B ≤ ob (rv qs k) ∧ ob (rv qs k) < W.heap.size := fun k hk hn => own_row (hR.each _ (hmem k hk)).2.row hn
  have hmemj : ∀ k j, j < nI qs k → (qs.getD k zPB).2.2.getD j zI ∈ (qs.getD k zPB).2.2 := by
    intro k j hj
    have hj' : j < (qs.getD k zPB).2.2.length := hj
    generalize (qs.getD k zPB).2.2 = l at hj'
    simp [hj']
  have hargk : ∀ k j, k < qs.length → j < nI qs k → 0 < (D0 qs k j).args.length → ∃ cap cur, av qs k j = .slice (some ⟨ob (av qs k j), 0, none⟩) (D0 qs k j).args.length cap ∧ W.heap[ob (av qs k j)]? = some (Obj.cells cur 3 (0, 0)) ∧ B ≤ ob (av qs k j) ∧ ob (av qs k j) < W.heap.size := fun k j hk hj hn => own_row ((hR.each _ (hmem k hk)).2.args _ (hmemj k j hj)) hn
  have hp1 : ∀ k1 k2, k1 < k2 → k2 < qs.length → Dif (rv qs k1) (rv qs k2) := by
    intro k1 k2 h12 h2
    have := List.pairwise_iff_getElem.1 (List.pairwise_map.1 hR.rows) k1 k2 (by omega) h2 h12
    simpa [rv, show k1 < qs.length by omega, h2] using this
  have hargs := hR.args
  rw [List.map_flatMap, List.pairwise_flatMap] at hargs
  have hp2 : ∀ k j1 j2, k < qs.length → j1 < j2 → j2 < nI qs k → Dif (av qs k j1) (av qs k j2) := by
    intro k j1 j2 hk h12 h2
    have := List.pairwise_iff_getElem.1 (List.pairwise_map.1 (hargs.1 _ (hmem k hk))) j1 j2 (by unfold nI at h2; omega) h2 h12
    have e1 : (qs.getD k zPB).2.2.getD j1 zI = (qs.getD k zPB).2.2[j1]'(by unfold nI at h2; omega) := getD_at _ _ _ _
    have e2 : (qs.getD k zPB).2.2.getD j2 zI = (qs.getD k zPB).2.2[j2]'h2 := getD_at _ _ _ _
    unfold av
    rw [e1, e2]
    exact this
  have hp3 : ∀ k1 k2 j1 j2, k1 < k2 → k2 < qs.length → j1 < nI qs k1 → j2 < nI qs k2 → Dif (av qs k1 j1) (av qs k2 j2) := by
    intro k1 k2 j1 j2 h12 h2 hj1 hj2
    have := List.pairwise_iff_getElem.1 hargs.2 k1 k2 (by omega) h2 h12
    have e1 : qs[k1]'(by omega) = qs.getD k1 zPB := (getD_at _ _ _ _).symm
    have e2 : qs[k2]'h2 = qs.getD k2 zPB := (getD_at _ _ _ _).symm
    rw [e1, e2] at this
    exact this _ (List.mem_map.2 ⟨_, hmemj k1 j1 hj1, rfl⟩) _ (List.mem_map.2 ⟨_, hmemj k2 j2 hj2, rfl⟩)
  have hApt : Apt B W.heap.size qs gb := by
    refine ⟨fun k1 k2 hk1 hk2 hn1 hn2 e => ?_, fun k1 j1 k2 j2 hk1 hk2 hj1 hj2 ha1 ha2 e => ?_, fun k hk hn => ?_, fun k j hk hj ha => ?_, fun k k' j' hk hk' hn hj' ha => ?_, ⟨hlo, hhi⟩, fun k hk hn => ?_, fun k j hk hj ha => ?_⟩
    · obtain ⟨_, _, q1, _⟩ := hrowk k1 hk1 hn1
      obtain ⟨_, _, q2, _⟩ := hrowk k2 hk2 hn2
      rcases Nat.lt_trichotomy k1 k2 with h | h | h
      · exact absurd e (dif_ob (hp1 k1 k2 h hk2) q1 q2)
      · exact h
      · exact absurd e.symm (dif_ob (hp1 k2 k1 h hk1) q2 q1)
    · obtain ⟨_, _, q1, _⟩ := hargk k1 j1 hk1 hj1 ha1
      obtain ⟨_, _, q2, _⟩ := hargk k2 j2 hk2 hj2 ha2
      rcases Nat.lt_trichotomy k1 k2 with h | h | h
      · exact absurd e (dif_ob (hp3 k1 k2 j1 j2 h hk2 hj1 hj2) q1 q2)
      · subst h
        refine ⟨rfl, ?_⟩
        rcases Nat.lt_trichotomy j1 j2 with h | h | h
        · exact absurd e (dif_ob (hp2 k1 j1 j2 hk1 h hj2) q1 q2)
        · exact h
        · exact absurd e.symm (dif_ob (hp2 k1 j2 j1 hk1 h hj1) q2 q1)
      · exact absurd e.symm (dif_ob (hp3 k2 k1 j2 j1 h hk1 hj2 hj1) q2 q1)
    · obtain ⟨_, _, _, q2, _⟩ := hrowk k hk hn
      exact rows_ne q2 hrow (by decide)
    · obtain ⟨_, _, _, q2, _⟩ := hargk k j hk hj ha
      exact rows_ne q2 hrow (by decide)
    · obtain ⟨_, _, _, q1, _⟩ := hrowk k hk hn
      obtain ⟨_, _, _, q2, _⟩ := hargk k' j' hk' hj' ha
      exact rows_ne q1 q2 (by decide)
    · obtain ⟨_, _, _, _, q⟩ := hrowk k hk hn
      exact q
    · obtain ⟨_, _, _, _, q⟩ := hargk k j hk hj ha
      exact q
  refine ⟨qs, gb, cb, rfl, hq, hO, hR, hApt, ⟨fun k hk f hf => ?_, fun k hk j hj f hf => ?_, fun k hk j hj m hm => ?_, fun _ _ _ _ => rfl, fun _ _ => rfl, fun _ => rfl, Below.refl _ _⟩, fun b hb => ?_⟩
  · have hg : (qs.map fun q => (q.1, q.2.1))[k]? = some ((qs.getD k zPB).1, (qs.getD k zPB).2.1) := by simp [hk]
    obtain ⟨g0, g1, g2, g3, g4⟩ := cellsB_get _ k _ hg
    have hc : ∀ u, (cellsB' qs)[k * 5 + f]? = some u → W.cell? ⟨gb, k * 5 + f, none⟩ = some u := by
      intro u hu
      rw [hO.cellAt (k * 5 + f) (by omega), hu]
    refine hc _ ?_
    unfold cellsB'
    match f, hf with
    | 0, _ => exact g0
    | 1, _ => exact g1
    | 2, _ => exact g2
    | 3, _ => exact g3
    | 4, _ => exact g4
  · have hP := (hR.each _ (hmem k hk)).2
    obtain ⟨cap, cur, q1, _⟩ := hrowk k hk (by omega)
    have hj' : j < (qs.getD k zPB).2.2.length := hj
    have hg : (qs.getD k zPB).2.2[j]? = some ((qs.getD k zPB).2.2.getD j zI) := by
      generalize (qs.getD k zPB).2.2 = l at hj'
      simp [hj']
    obtain ⟨g0, g1, g2, g3, g4, g5, g6⟩ := cellsI_get _ j _ hg
    have hrw := hP.row
    have q1' : (qs.getD k zPB).2.1 = .slice (some ⟨ob (rv qs k), 0, none⟩) (nI qs k) cap := q1
    rw [q1'] at hrw
    have hc : ∀ u, (cellsI (qs.getD k zPB).2.2)[j * 7 + f]? = some u → W.cell? ⟨ob (rv qs k), j * 7 + f, none⟩ = some u := by
      intro u hu
      rw [hrw.cellAt (j * 7 + f) (by omega), hu]
    refine hc _ ?_
    match f, hf with
    | 0, _ => exact g0
    | 1, _ => exact g1
    | 2, _ => exact g2
    | 3, _ => exact g3
    | 4, _ => exact g4
    | 5, _ => exact g5
    | 6, _ => exact g6
  · have hAr := (hR.each _ (hmem k hk)).2.args _ (hmemj k j hj)
    obtain ⟨cap, cur, q1, _⟩ := hargk k j hk hj (by omega)
    have q1' : ((qs.getD k zPB).2.2.getD j zI).2 = .slice (some ⟨ob (av qs k j), 0, none⟩) (D0 qs k j).args.length cap := q1
    rw [q1'] at hAr
    have hv := hAr.v
    obtain ⟨b, off, e, hc⟩ := IntsV.at hv m hm
    simp only [Option.some.injEq, Addr.mk.injEq, and_true] at e
    obtain ⟨rfl, rfl⟩ := e
    rw [Nat.zero_add] at hc
    exact hc
  · rcases hb with rfl | ⟨k, hk, hn, rfl⟩ | ⟨k, j, hk, hj, ha, rfl⟩
    · exact ⟨_, 48, hrow, .inl rfl⟩
    · obtain ⟨_, cur, _, q, _⟩ := hrowk k hk hn
      exact ⟨_, 53, q, .inr (.inl rfl)⟩
    · obtain ⟨_, cur, _, q, _⟩ := hargk k j hk hj ha
      exact ⟨_, 3, q, .inr (.inr rfl)⟩
/-- All renamed: the function renamed. -/
theorem blksOf_ren {qs : List PB} {B : Nat} {W : World} (hR : Rest B W qs) (u v : Int) : blksOf qs (fun k j => renI u v (D0 qs k j)) (fun k => renE u v (E0 qs k)) = (qs.map (·.1)).map (renB u v) := by
  unfold blksOf
  apply List.ext_getElem?
  intro k
  by_cases hk : k < qs.length
  · have hq : qs.getD k zPB ∈ qs := by simp [hk]
    have he := (hR.each _ hq).1
    rw [List.getElem?_map, List.getElem?_range hk]
    have hg : qs[k]? = some (qs.getD k zPB) := by simp [hk]
    rw [List.getElem?_map, List.getElem?_map, hg]
    simp only [Option.map_some, renB, E0]
    congr 2
    rw [← he]
    apply List.ext_getElem?
    intro j
    by_cases hj : j < nI qs k
    · have hj' : j < (qs.getD k zPB).2.2.length := hj
      rw [List.getElem?_map, List.getElem?_range hj, List.getElem?_map, List.getElem?_map]
      unfold D0
      generalize (qs.getD k zPB).2.2 = l at hj'
      simp [hj']
    · have hj' : ¬ j < (qs.getD k zPB).2.2.length := hj
      rw [List.getElem?_eq_none (by simp; omega), List.getElem?_eq_none (by simp; simpa using hj')]
  · rw [List.getElem?_eq_none (by simp; omega), List.getElem?_eq_none (by simp; omega)]
end Go.Proofs.Ytljnngblhfhhaab.Ap
