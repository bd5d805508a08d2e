/- Queues of strings: Take, Len. -/
import Derived.Test.YtdeebmpmfedjbaaDoorQu
namespace Go.Proofs.YtdeebmpmfedjbaaDoor
open Go.RowKit Bag Go.Maps Go.WideMaps
theorem lk_inj {j k : ByteArray} (h : lk j = lk k) : j = k := by
  unfold lk at h
  simp only [Lit.string.injEq] at h
  have : j.data = k.data := by rw [← Array.toList_inj]; exact h
  cases j; cases k; simpa using this
theorem QueD.cut {N : Nat} {x : ByteArray} {r : List ByteArray} {D : DT} (h : QueD N (x :: r) D) : QueD N r (D.del (lk x)) := by
  have hn := List.nodup_cons.1 h.nodup
  refine ⟨fun j => ?_, h.map.del _, hn.2⟩
  by_cases e : j = x
  · subst e
    rw [has_del_same]
    simp [hn.1]
  · rw [has_del_other (fun q => e (lk_inj q)), h.key j]
    simp [e]
/-- The first cell is written, and the row begins behind it. -/
theorem RowW.tail_set {w : World} {e : TypeId} {g off n cap : Nat} {xs : List Value} {y : Value} (h : RowW w e 1 (.slice (some ⟨g, off, none⟩) (n + 1) cap) (n + 1) xs) : RowW (w.setCell ⟨g, off, none⟩ y) e 1 (.slice (if cap = 1 then some ⟨g, off, none⟩ else some ⟨g, off + 1, none⟩) n (cap - 1)) n (xs.drop 1) := by
  have ht := h.tail
  refine ⟨ht.1, ?_⟩
  rcases ht.2 with ⟨h0, h1⟩ | ⟨g', off', cap', cur, e1, hg, hnc, hcm, hcs, hx⟩
  · exact .inl ⟨h0, h1⟩
  · by_cases hc : cap = 1
    · rw [if_pos hc] at e1
      simp only [Value.slice.injEq, Option.some.injEq, Addr.mk.injEq, true_and, and_true] at e1
      obtain ⟨⟨rfl, rfl⟩, rfl⟩ := e1
      refine .inr ⟨g, off, _, cur.setIfInBounds off y, by rw [if_pos hc], by simp [World.setCell, Array.getElem?_modify, hg], hnc, hcm, by simpa using hcs, ?_⟩
      obtain rfl : n = 0 := by omega
      rw [← hx]
      simp
    · rw [if_neg hc] at e1
      simp only [Value.slice.injEq, Option.some.injEq, Addr.mk.injEq, true_and, and_true] at e1
      obtain ⟨⟨rfl, rfl⟩, rfl⟩ := e1
      refine .inr ⟨g, off + 1, _, cur.setIfInBounds off y, by rw [if_neg hc], by simp [World.setCell, Array.getElem?_modify, hg], hnc, hcm, by simpa using hcs, ?_⟩
      rw [← hx, Array.toList_setIfInBounds, List.drop_set_of_lt (by omega)]
theorem qlen_any (b N : Nat) (v : Value) (mo : Option Nat) (l : List ByteArray) (D : DT) (w : World) (h : QueV w b v mo N l D) : Calls Tryd.prog 32 #[.pointer (some ⟨b, 0, none⟩)] w fun e w' => e = .returned (.int .i64 (l.length : Nat)) ∧ w' = w := by
  obtain ⟨t, ht⟩ := h.cell
  have c0 : w.cell? ⟨b, 0, none⟩ = some v := (cell_of_row w b 0 _ _ _ ht).trans rfl
  obtain ⟨ao, cap, rfl⟩ := h.row.slice
  clear h ht
  go_enter Tryd.func32, Tryd.ntmps32
  go_wp2
  go_ret
  exact ⟨rfl, rfl⟩
theorem qtake_nil (b N : Nat) (v : Value) (mo : Option Nat) (D : DT) (w : World) (h : QueV w b v mo N [] D) : Calls Tryd.prog 31 #[.pointer (some ⟨b, 0, none⟩)] w fun e w' => e = .returned (.tuple #[.string ⟨#[]⟩, .bool false]) ∧ w' = w := by
  obtain ⟨t, ht⟩ := h.cell
  have c0 : w.cell? ⟨b, 0, none⟩ = some v := (cell_of_row w b 0 _ _ _ ht).trans rfl
  obtain ⟨ao, cap, rfl⟩ := h.row.slice
  clear h ht
  go_enter Tryd.func31, Tryd.ntmps31
  go_wp2
  go_ret2
  exact ⟨rfl, rfl⟩
theorem qtake_done {w w3 : World} {b m N g off cap : Nat} {x : ByteArray} {r : List ByteArray} {D : DT} (h : QueV w b (.slice (some ⟨g, off, none⟩) (x :: r).length cap) (some m) N (x :: r) D)
    (hr : RowW (w.setCell ⟨g, off, none⟩ (.string ⟨#[]⟩)) 9 1 (.slice (if cap = 1 then some ⟨g, off, none⟩ else some ⟨g, off + 1, none⟩) r.length (cap - 1)) r.length (((x :: r).map Value.string).drop 1))
    (hown : w3.ownsMap Tryd.prog 9 unitElem m N (D.del (lk x))) (ht : ((w.setCell ⟨g, off, none⟩ (.string ⟨#[]⟩)).setCell ⟨b, 0, none⟩ (.slice (if cap = 1 then some ⟨g, off, none⟩ else some ⟨g, off + 1, none⟩) r.length (cap - 1))).mapTurned w3 m) :
    ∃ v' : Value, v'.ownBlock = some g ∧ QueV w3 b v' (some m) N r (D.del (lk x)) ∧ Chg (fun j => j = b ∨ j = m ∨ some g = some j) w w3 := by
  obtain ⟨t, hb⟩ := h.cell
  have hgb : g ≠ b := fun e => h.rne (by simp [Value.ownBlock, e])
  have hgm : g ≠ m := fun e => (h.own m rfl).2.1 (by simp [Value.ownBlock, e])
  have hmb := (h.own m rfl).1
  have ho : (Value.slice (if cap = 1 then some ⟨g, off, none⟩ else some ⟨g, off + 1, none⟩) r.length (cap - 1)).ownBlock = some g := by
    by_cases e : cap = 1 <;> simp [e, Value.ownBlock]
  have hgw : g < w.heap.size := h.row.lt g rfl
  have hbw := (Array.getElem?_eq_some_iff.1 hb).1
  generalize hv : (Value.slice (if cap = 1 then some ⟨g, off, none⟩ else some ⟨g, off + 1, none⟩) r.length (cap - 1)) = v' at *
  have k1 : Chg (fun j => j = g) w (w.setCell ⟨g, off, none⟩ (.string ⟨#[]⟩)) := (Chg.of_gb (gb_set w g off _)).mono fun _ _ e => by simpa using e
  have k2 : Chg (fun j => j = b) (w.setCell ⟨g, off, none⟩ (.string ⟨#[]⟩)) ((w.setCell ⟨g, off, none⟩ (.string ⟨#[]⟩)).setCell ⟨b, 0, none⟩ v') := (Chg.of_gb (gb_set _ b 0 v')).mono fun _ _ e => by simpa using e
  have k3 := chg_turned ht
  have hb1 := (k1.block b hbw (fun e => hgb e.symm)).trans hb
  have hb2 : ((w.setCell ⟨g, off, none⟩ (.string ⟨#[]⟩)).setCell ⟨b, 0, none⟩ v').heap[b]? = some (.cells #[v', .map (some m)] t (0, 0)) := by
    generalize w.setCell ⟨g, off, none⟩ (.string ⟨#[]⟩) = W at hb1 ⊢
    simp [World.setCell, Array.getElem?_modify, hb1]
  have hbw2 := (Array.getElem?_eq_some_iff.1 hb2).1
  refine ⟨v', ho, ⟨⟨t, (k3.block b hbw2 (fun e => hmb e.symm)).trans hb2⟩, ?_, by rw [ho]; simpa using hgb, fun e => by simp at e, fun m' e => by cases e; exact ⟨hmb, by rw [ho]; simpa using hgm, hown⟩, h.dat.cut⟩, ?_⟩
  · have q := (hr.chg k2 fun g' e1 e2 => by rw [ho] at e1; simp at e1; omega).chg k3 fun g' e1 e2 => by rw [ho] at e1; simp at e1; omega
    simpa using q
  · exact ((k1.mono fun _ _ e => .inr (.inr (by rw [e]))).trans k2 fun _ _ e => .inl e).trans k3 fun _ _ e => .inr (.inl e)
set_option maxHeartbeats 4000000 in
set_option maxRecDepth 100000 in
theorem qtake_cons (b m N : Nat) (v : Value) (x : ByteArray) (r : List ByteArray) (D : DT) (w : World) (h : QueV w b v (some m) N (x :: r) D) (hk : x.size ≤ maxLen) : Calls Tryd.prog 31 #[.pointer (some ⟨b, 0, none⟩)] w fun e w' => e = .returned (.tuple #[.string x, .bool true]) ∧ ∃ v', v'.ownBlock = v.ownBlock ∧ QueV w' b v' (some m) N r (D.del (lk x)) ∧ Chg (fun j => j = b ∨ j = m ∨ v.ownBlock = some j) w w' := by
  obtain ⟨t, ht⟩ := h.cell
  have c0 : w.cell? ⟨b, 0, none⟩ = some v := (cell_of_row w b 0 _ _ _ ht).trans rfl
  have c1 : w.cell? ⟨b, 1, none⟩ = some (.map (some m)) := (cell_of_row w b 1 _ _ _ ht).trans rfl
  have hf0 : w.frozen? ⟨b, 0, none⟩ = false := fz ht 0
  obtain ⟨g, off, cap, rfl, hx⟩ := h.row.cell 0 (by simp)
  obtain ⟨cx, hfx⟩ := hx 0 (by decide)
  simp at cx hfx
  have HO := hide (h.own m rfl).2.2
  have hmb := (h.own m rfl).1
  have hvm := (h.own m rfl).2.1
  have hgm : g ≠ m := fun e => hvm (by simp [Value.ownBlock, e])
  have hgb : ¬ g = b := fun e => h.rne (by simp [Value.ownBlock, e])
  have hbg : ¬ b = g := fun e => hgb e.symm
  have hrow : RowW w 9 1 (.slice (some ⟨g, off, none⟩) (r.length + 1) cap) (r.length + 1) ((x :: r).map Value.string) := by simpa using h.row
  have HR := hide (hrow.tail_set (y := .string ⟨#[]⟩))
  have hcap : r.length + 1 ≤ cap ∧ cap ≤ maxLen := by
    rcases hrow.2 with ⟨e, _⟩ | ⟨g', off', cap', cur, e1, hg, hnc, hcm, _⟩
    · cases e
    · simp only [Value.slice.injEq] at e1
      omega
  have hcap1 : 1 ≤ cap := by omega
  have hcap2 : cap ≤ 9223372036854775807 := by have := hcap.2; unfold maxLen at this; omega
  have HK := hide (lk_key hk)
  have HH := hide h
  have HT := hide ht
  have HX : Hid (∀ v' : Value, (w.setCell ⟨g, off, none⟩ (.string ⟨#[]⟩)).grownBy ((w.setCell ⟨g, off, none⟩ (.string ⟨#[]⟩)).setCell ⟨b, 0, none⟩ v') (some b)) := hide fun v' => gb_set _ _ _ _
  clear h ht hrow hx hcap
  go_enter Tryd.func31, Tryd.ntmps31
  go_wp2_with (first | (go_at_call 47; refine (found47 x _).mono ?_; rintro e w2 ⟨rfl, hw1⟩; subst hw1) | (at_delete; refine wpList_delete_own _ rfl _ _ 67 9 rfl 92 key9 Tryd.underlying67 _ m N D rfl (World.ownsMap.kept (World.ownsMap.kept HO.out (gb_set w g off _) (by simpa using fun e => hgm e.symm)) (gb_set _ b 0 _) (by simpa using hmb)) _ _ rfl HK.out ?_; intro w3 hown3 hturn3))
  all_goals (go_ret2; exact ⟨rfl, qtake_done HH.out HR.out hown3 hturn3⟩)
end Go.Proofs.YtdeebmpmfedjbaaDoor
