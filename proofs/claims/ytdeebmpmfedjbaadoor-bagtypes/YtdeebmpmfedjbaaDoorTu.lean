/- Tables from strings to lists: Put. -/
import Derived.Test.YtdeebmpmfedjbaaDoorTt
namespace Go.Proofs.YtdeebmpmfedjbaaDoor
open Go.RowKit Bag Go.Maps Go.WideMaps
def tt : DT := .lit (.bool true)
def anyE : Value → Option (DT × List MemPlace) := fun _ => some (tt, [])
theorem zero45 (W : World) : (zeroValue 45).run Tryd.prog W = .ok (.slice none 0 0) W := by kernel_rfl
/-- A map from strings to whatever. -/
def MapS (w : World) (m N : Nat) (D : DT) : Prop := w.ownsMap Tryd.prog 9 anyE m N D
theorem MapS.chg {w w' : World} {m N : Nat} {D : DT} {S : Nat → Prop} (h : MapS w m N D) (k : Chg S w w') (hn : ¬ S m) : MapS w' m N D := by
  have hl := World.ownsMap.lt h
  obtain ⟨es, clock, h1, h2⟩ := h
  exact ⟨es, clock, (k.block m hl hn).trans h1, h2⟩
/-- A table in block b, its map in mo: what is there. -/
structure TabS (w : World) (b : Nat) (mo : Option Nat) (N : Nat) (D : DT) : Prop where
  cell : ∃ t, w.heap[b]? = some (.cells #[.map mo] t (0, 0))
  nil : mo = none → D = .map []
  own : ∀ m, mo = some m → m ≠ b ∧ MapS w m N D
theorem TabS.chg {w w' : World} {b : Nat} {mo : Option Nat} {N : Nat} {D : DT} {S : Nat → Prop} (h : TabS w b mo N D) (k : Chg S w w') (hb : ¬ S b) (hm : ∀ m, mo = some m → ¬ S m) : TabS w' b mo N D := by
  obtain ⟨t, ht⟩ := h.cell
  exact ⟨⟨t, (k.block b (Array.getElem?_eq_some_iff.1 ht).1 hb).trans ht⟩, h.nil, fun m e => ⟨(h.own m e).1, (h.own m e).2.chg k (hm m e)⟩⟩
theorem TabS.cells {w : World} {b : Nat} {mo : Option Nat} {N : Nat} {D : DT} (h : TabS w b mo N D) : w.cell? ⟨b, 0, none⟩ = some (.map mo) ∧ w.frozen? ⟨b, 0, none⟩ = false := by
  obtain ⟨t, ht⟩ := h.cell
  exact ⟨(cell_of_row w b 0 _ _ _ ht).trans rfl, by simp [World.frozen?, ht]⟩
theorem TabS.lt {w : World} {b : Nat} {mo : Option Nat} {N : Nat} {D : DT} (h : TabS w b mo N D) : b < w.heap.size := by
  obtain ⟨t, ht⟩ := h.cell
  exact (Array.getElem?_eq_some_iff.1 ht).1
theorem TabS.isMap {w : World} {b : Nat} {mo : Option Nat} {N : Nat} {D : DT} (h : TabS w b mo N D) : IsMap D := by
  cases mo with
  | none => rw [h.nil rfl]; exact isMap_empty
  | some m => exact World.ownsMap.isMap (h.own m rfl).2
theorem TabS.tidy {w : World} {b : Nat} {mo : Option Nat} {N : Nat} {D : DT} (h : TabS w b mo N D) : Tidy D := by
  cases mo with
  | none => rw [h.nil rfl]; exact tidy_empty
  | some m => exact World.ownsMap.tidy (h.own m rfl).2 key9
set_option maxHeartbeats 4000000 in
set_option maxRecDepth 100000 in
theorem uput_some (b m N : Nat) (D : DT) (k : ByteArray) (u : Value) (w : World) (h : TabS w b (some m) N D) (hk : k.size ≤ maxLen) (hN : N < maxLen) : Calls Tryd.prog 26 #[.pointer (some ⟨b, 0, none⟩), .string k, u] w fun e w' => e = .returned (.bool (!has D (lk k))) ∧ TabS w' b (some m) (N + 1) (D.put (lk k) tt) ∧ Chg (fun j => j = m) w w' := by
  obtain ⟨c0, f0⟩ := h.cells
  have HO := hide (h.own m rfl).2
  have HK := hide (lk_key hk)
  have HH := hide h
  clear h
  have hnil := fun W => run_eql_map_nil (P := Tryd.prog) W (some m) Tryd.underlying52
  go_enter Tryd.func26, Tryd.ntmps26
  go_wp2_with (first | (at_lookup; refine wpList_lookup_own_ok _ rfl _ _ 52 rfl 9 45 key9 Tryd.underlying52 anyE (zero45 _) tt [] rfl m N D rfl HO.out _ _ rfl HK.out ?_; intro c ps hat) | (at_mapUpdate; refine wpList_mapUpdate_own _ rfl _ _ _ 52 rfl 9 45 key9 Tryd.underlying52 anyE m N D rfl HO.out hN _ _ _ rfl rfl HK.out _ [] rfl ?_; intro w1 hown1 hgrow1))
  go_ret
  have hc : Chg (fun j => j = m) w w1 := (Chg.of_gb hgrow1).mono fun k _ e => by simpa using e
  obtain ⟨t, ht⟩ := HH.out.cell
  have hne := (HH.out.own m rfl).1
  exact ⟨rfl, ⟨⟨t, (hc.block b HH.out.lt (fun e => hne e.symm)).trans ht⟩, fun e => by simp at e, fun m' e => by cases e; exact ⟨hne, hown1⟩⟩, hc⟩
set_option maxHeartbeats 4000000 in
set_option maxRecDepth 100000 in
theorem uput_none (b N : Nat) (D : DT) (k : ByteArray) (u : Value) (w : World) (h : TabS w b none N D) (hk : k.size ≤ maxLen) : Calls Tryd.prog 26 #[.pointer (some ⟨b, 0, none⟩), .string k, u] w fun e w' => e = .returned (.bool (!has D (lk k))) ∧ TabS w' b (some w.heap.size) (N + 1) (D.put (lk k) tt) ∧ Chg (fun j => j = b) w w' := by
  obtain ⟨c0, f0⟩ := h.cells
  have hb := h.lt
  obtain ⟨t, ht⟩ := h.cell
  obtain rfl := h.nil rfl
  have HK := hide (lk_key hk)
  have HT := hide ht
  clear h ht
  have hnil := fun W => run_eql_map_nil (P := Tryd.prog) W none Tryd.underlying52
  have hmm := @run_makeMap Tryd.prog
  have hsz : (w.setCell ⟨b, 0, none⟩ (.map (some w.heap.size))).heap.size = w.heap.size := by simp [World.setCell]
  have HO : Hid (MapS ((w.setCell ⟨b, 0, none⟩ (.map (some w.heap.size))).alloc (.map #[] 0)) w.heap.size 0 (.map [])) := hide (by
    have := World.ownsMap_made (H := Unit) (w.setCell ⟨b, 0, none⟩ (.map (some w.heap.size))) Tryd.prog 9 anyE
    rw [hsz] at this
    exact this)
  have HZ := hide hsz
  clear hsz
  go_enter Tryd.func26, Tryd.ntmps26
  go_wp2_with (first | (at_lookup; refine wpList_lookup_own_ok _ rfl _ _ 52 rfl 9 45 key9 Tryd.underlying52 anyE (zero45 _) tt [] rfl w.heap.size 0 (.map []) rfl HO.out _ _ rfl HK.out ?_; intro c ps hat) | (at_mapUpdate; refine wpList_mapUpdate_own _ rfl _ _ _ 52 rfl 9 45 key9 Tryd.underlying52 anyE w.heap.size 0 (.map []) rfl HO.out (by unfold maxLen; omega) _ _ _ rfl rfl HK.out _ [] rfl ?_; intro w1 hown1 hgrow1))
  go_ret
  have hc1 : Chg (fun j => j = w.heap.size) ((w.setCell ⟨b, 0, none⟩ (.map (some w.heap.size))).alloc (.map #[] 0)) w1 := (Chg.of_gb hgrow1).mono fun k _ e => by simpa using e
  have hc0 : Chg (fun j => j = b) w ((w.setCell ⟨b, 0, none⟩ (.map (some w.heap.size))).alloc (.map #[] 0)) :=
    ((Chg.of_gb (gb_set w b 0 _)).trans (Chg.of_gb (World.grownBy_alloc _ (.map #[] 0) none)) (S := fun k => some k = some b) (fun j _ e => by simp at e)).mono fun k _ e => by simpa using e
  have hbc : ((w.setCell ⟨b, 0, none⟩ (.map (some w.heap.size))).alloc (.map #[] 0)).heap[b]? = some (.cells #[.map (some w.heap.size)] t (0, 0)) := by
    rw [heap_alloc_old _ _ (by rw [HZ.out]; exact hb)]
    simp [World.setCell, Array.getElem?_modify, HT.out]
  have hb1 : b < ((w.setCell ⟨b, 0, none⟩ (.map (some w.heap.size))).alloc (.map #[] 0)).heap.size := by simp [World.setCell]; omega
  refine ⟨rfl, ⟨⟨t, (hc1.block b hb1 (fun e => absurd (show b = w.heap.size from e) (by omega))).trans hbc⟩, fun e => by simp at e, fun m e => by cases e; exact ⟨by omega, World.ownsMap.mono hown1 (by omega)⟩⟩, hc0.trans hc1 fun j hj e => ?_⟩
  exact absurd (show j = w.heap.size from e) (by omega)
/-- Behind a Put: where the map lies. -/
theorem uput_any (b N : Nat) (mo : Option Nat) (D : DT) (k : ByteArray) (u : Value) (w : World) (h : TabS w b mo N D) (hk : k.size ≤ maxLen) (hN : N < maxLen) : Calls Tryd.prog 26 #[.pointer (some ⟨b, 0, none⟩), .string k, u] w fun e w' => e = .returned (.bool (!has D (lk k))) ∧ (∃ m, (mo = some m ∨ (mo = none ∧ m = w.heap.size)) ∧ TabS w' b (some m) (N + 1) (D.put (lk k) tt)) ∧ Chg (fun j => j = b ∨ mo = some j) w w' := by
  cases mo with
  | some m =>
    refine (uput_some b m N D k u w h hk hN).mono ?_
    rintro e w' ⟨rfl, h1, h2⟩
    exact ⟨rfl, ⟨m, .inl rfl, h1⟩, h2.mono fun j _ e => .inr (by rw [e])⟩
  | none =>
    refine (uput_none b N D k u w h hk).mono ?_
    rintro e w' ⟨rfl, h1, h2⟩
    exact ⟨rfl, ⟨_, .inr ⟨rfl, rfl⟩, h1⟩, h2.mono fun j _ e => .inl e⟩
end Go.Proofs.YtdeebmpmfedjbaaDoor
