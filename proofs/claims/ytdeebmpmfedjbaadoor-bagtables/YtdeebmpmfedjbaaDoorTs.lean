/- A table beside the law's own map. -/
import Derived.Test.YtdeebmpmfedjbaaDoorKt
namespace Go.Proofs.YtdeebmpmfedjbaaDoor
open Go.RowKit Go.Maps Bag
/-- A table of the call's own in block gt, apart from the map mm. -/
def TS (B gt mm n : Nat) (D : DT) (w : World) : Prop := ∃ mo N, TabV w gt mo N D ∧ N ≤ n ∧ B ≤ gt ∧ gt ≠ mm ∧ B ≤ w.heap.size ∧ mm < w.heap.size ∧ ∀ m, mo = some m → B ≤ m ∧ m ≠ mm
/-- The law's own map. -/
def OS (B mm n : Nat) (D : DT) (w : World) : Prop := ∃ M, MapI w mm M D ∧ M ≤ n ∧ B ≤ mm
section
variable {B gt mm n : Nat} {D E : DT} {w w' : World}
theorem TS.chg {S : Nat → Prop} (h : TS B gt mm n D w) (k : Chg S w w') (hn : ∀ j, S j → j = mm) : TS B gt mm n D w' := by
  obtain ⟨mo, N, h1, h2, h3, h4, h5, h6, h7⟩ := h
  exact ⟨mo, N, h1.chg k (fun e => h4 (hn _ e)) (fun m e q => (h7 m e).2 (hn _ q)), h2, h3, h4, Nat.le_trans h5 k.size, Nat.lt_of_lt_of_le h6 k.size, h7⟩
theorem TS.grow (h : TS B gt mm n D w) (hg : w.grownBy w' none) : TS B gt mm n D w' := h.chg (Chg.gb0 (S := fun _ => False) hg) (fun _ e => e.elim)
theorem TS.own (h : TS B gt mm n D w) (hg : w.grownBy w' (some mm)) : TS B gt mm n D w' := h.chg (Chg.of_gb hg) (fun j e => by simpa using e)
theorem TS.more (h : TS B gt mm n D w) {m : Nat} (hm : n ≤ m) : TS B gt mm m D w := by
  obtain ⟨mo, N, h1, h2, r⟩ := h
  exact ⟨mo, N, h1, Nat.le_trans h2 hm, r⟩
theorem OS.grow (h : OS B mm n D w) (hg : w.grownBy w' none) : OS B mm n D w' := by
  obtain ⟨M, h1, r⟩ := h
  exact ⟨M, h1.chg (Chg.gb0 (S := fun _ => False) hg) (fun e => e), r⟩
theorem OS.more (h : OS B mm n D w) {m : Nat} (hm : n ≤ m) : OS B mm m D w := by
  obtain ⟨M, h1, h2, r⟩ := h
  exact ⟨M, h1, Nat.le_trans h2 hm, r⟩
theorem OS.size (h : OS B mm n D w) : size D ≤ n := by
  obtain ⟨M, h1, h2, _⟩ := h
  exact Nat.le_trans (World.ownsMap.size_le h1) h2
theorem TS.hb (h : TS B gt mm n D w) : B ≤ w.heap.size := by
  obtain ⟨mo, N, h1, h2, h3, h4, h5, r⟩ := h
  exact h5
theorem TS.mlt (h : TS B gt mm n D w) : mm < w.heap.size := by
  obtain ⟨mo, N, h1, h2, h3, h4, h5, h6, r⟩ := h
  exact h6
theorem ts_put {wz : World} (hz : TS B gt mm n D wz) (ho : OS B mm n E wz) (hgz : wz.grownBy w none) {s : ByteArray} {v : Int} (hs : s.size ≤ 100) (hv : (Lit.int .i64 v).wf = true) (hn : n < 1000) : Calls Tryd.prog 33 #[.pointer (some ⟨gt, 0, none⟩), .string s, .int .i64 v] w fun e w' => e = .returned (.bool (!has D (lk s))) ∧ TS B gt mm (n + 1) (D.put (lk s) (li v)) w' ∧ OS B mm n E w' ∧ Below B w w' ∧ ∀ j, wz.heap.size ≤ j → j < w.heap.size → w'.heap[j]? = w.heap[j]? := by
  have h0 := hz.grow hgz
  have o0 := ho.grow hgz
  obtain ⟨mo, N, z1, z2, z3, z4, z5, z6, z7⟩ := hz
  have h1 : TabV w gt mo N D := z1.chg (Chg.gb0 (S := fun _ => False) hgz) (fun e => e) (fun _ _ e => e)
  refine (tput_any gt N mo D s v w h1 (by unfold maxLen; omega) (by unfold maxLen; omega) hv).mono ?_
  rintro e w' ⟨rfl, ⟨m, hm, hT⟩, hC⟩
  have hmz : ∀ m, mo = some m → m < wz.heap.size := fun m e => World.ownsMap.lt (z1.own m e).2
  obtain ⟨M, q1, q2, q3⟩ := o0
  refine ⟨rfl, ⟨some m, N + 1, hT, by omega, z3, z4, Nat.le_trans z5 (Nat.le_trans hgz.size hC.size), Nat.lt_of_lt_of_le z6 (Nat.le_trans hgz.size hC.size), fun m' e => ?_⟩, ⟨M, q1.chg hC (fun e => ?_), q2, q3⟩, hC.below (Nat.le_trans z5 hgz.size) (fun j e => ?_), fun j hj1 hj2 => hC.block j hj2 (fun e => ?_)⟩
  · simp at e
    subst e
    rcases hm with e | ⟨e, e2⟩
    · exact z7 _ e
    · have := hgz.size
      omega
  · rcases e with e | e
    · exact z4 e.symm
    · exact (z7 _ e).2 rfl
  · rcases e with e | e
    · rw [e]; exact z3
    · exact (z7 _ e).1
  · rcases e with e | e
    · have := z1.lt; omega
    · have := hmz _ e; omega
theorem ts_cut {wz : World} (hz : TS B gt mm n D wz) (ho : OS B mm n E wz) (hgz : wz.grownBy w none) {s : ByteArray} (hs : s.size ≤ 100) : Calls Tryd.prog 34 #[.pointer (some ⟨gt, 0, none⟩), .string s] w fun e w' => e = .returned (.bool (has D (lk s))) ∧ TS B gt mm n (D.del (lk s)) w' ∧ OS B mm n E w' ∧ Below B w w' ∧ ∀ j, wz.heap.size ≤ j → j < w.heap.size → w'.heap[j]? = w.heap[j]? := by
  have o0 := ho.grow hgz
  obtain ⟨mo, N, z1, z2, z3, z4, z5, z6, z7⟩ := hz
  have h1 : TabV w gt mo N D := z1.chg (Chg.gb0 (S := fun _ => False) hgz) (fun e => e) (fun _ _ e => e)
  refine (tcut_any gt N mo D s w h1 (by unfold maxLen; omega)).mono ?_
  rintro e w' ⟨rfl, hT, hC⟩
  have hmz : ∀ m, mo = some m → m < wz.heap.size := fun m e => World.ownsMap.lt (z1.own m e).2
  obtain ⟨M, q1, q2, q3⟩ := o0
  exact ⟨rfl, ⟨mo, N, hT, z2, z3, z4, Nat.le_trans z5 (Nat.le_trans hgz.size hC.size), Nat.lt_of_lt_of_le z6 (Nat.le_trans hgz.size hC.size), z7⟩, ⟨M, q1.chg hC (fun e => (z7 _ e).2 rfl), q2, q3⟩, hC.below (Nat.le_trans z5 hgz.size) (fun j e => (z7 _ e).1), fun j hj1 hj2 => hC.block j hj2 (fun e => by have := hmz _ e; omega)⟩
theorem ts_get (h : TS B gt mm n D w) {s : ByteArray} (hs : s.size ≤ 100) : Calls Tryd.prog 35 #[.pointer (some ⟨gt, 0, none⟩), .string s] w fun e w' => ∃ c, getV D s c ∧ e = .returned (.tuple #[.int .i64 c, .bool (has D (lk s))]) ∧ w' = w := by
  obtain ⟨mo, N, z1, _⟩ := h
  exact tget_any gt mo N D s w z1 (by unfold maxLen; omega)
theorem ts_keys (h : TS B gt mm n D w) (hs : size D ≤ 1000) : Calls Tryd.prog 36 #[.pointer (some ⟨gt, 0, none⟩)] w fun e w' => ∃ v ks, e = .returned v ∧ KV w' v ks ∧ KeysD D ks ∧ w.grownBy w' none := by
  obtain ⟨mo, N, z1, _⟩ := h
  exact keys_any gt N mo D w z1 hs
theorem ts_new {t : TypeId} (h : w.heap[gt]? = some (.cells #[.map none] t (0, 0))) (h1 : B ≤ gt) (h2 : gt ≠ mm) (h3 : B ≤ w.heap.size) (h4 : mm < w.heap.size) : TS B gt mm 0 (.map []) w :=
  ⟨none, 0, ⟨⟨t, h⟩, fun _ => rfl, fun m e => by (cases e)⟩, Nat.le_refl _, h1, h2, h3, h4, fun m e => by (cases e)⟩
end
end Go.Proofs.YtdeebmpmfedjbaaDoor
