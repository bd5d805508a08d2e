/- Tables from strings to numbers: Put, Get, Cut. -/
import Derived.Test.YtdeebmpmfedjbaaDoorOt
import Derived.Maps.OwnSet
import Derived.Maps.OwnOps
import Derived.StringKeys
namespace Go.Proofs.YtdeebmpmfedjbaaDoor
open Go.RowKit Bag Go.Maps Go.WideMaps
/-- All but the blocks of S is as it was; no block has gone. -/
structure Chg (S : Nat → Prop) (w w' : World) : Prop where
  os : w'.os = w.os
  tape : w'.tape = w.tape
  output : w'.output = w.output
  size : w.heap.size ≤ w'.heap.size
  block : ∀ k, k < w.heap.size → ¬ S k → w'.heap[k]? = w.heap[k]?
theorem Chg.refl (S : Nat → Prop) (w : World) : Chg S w w := ⟨rfl, rfl, rfl, Nat.le_refl _, fun _ _ _ => rfl⟩
theorem Chg.of_gb {w w' : World} {r : Option Nat} (h : w.grownBy w' r) : Chg (fun k => some k = r) w w' := ⟨h.os, h.tape, h.output, h.size, fun k hk hn => h.block k hk hn⟩
theorem Chg.mono {S T : Nat → Prop} {w w' : World} (h : Chg S w w') (e : ∀ k, k < w.heap.size → S k → T k) : Chg T w w' := ⟨h.os, h.tape, h.output, h.size, fun k hk hn => h.block k hk fun hs => hn (e k hk hs)⟩
theorem Chg.trans {S T : Nat → Prop} {a b c : World} (h : Chg S a b) (k : Chg T b c) (e : ∀ j, j < a.heap.size → T j → S j) : Chg S a c :=
  ⟨k.os.trans h.os, k.tape.trans h.tape, k.output.trans h.output, Nat.le_trans h.size k.size, fun j hj hn => (k.block j (Nat.lt_of_lt_of_le hj h.size) fun ht => hn (e j hj ht)).trans (h.block j hj hn)⟩
theorem Chg.gb {w w' : World} {S : Nat → Prop} (h : Chg S w w') (b : Nat) (hb : b < w.heap.size) (hn : ¬ S b) : w'.heap[b]? = w.heap[b]? := h.block b hb hn
theorem Chg.below {w w' : World} {S : Nat → Prop} {B : Nat} (h : Chg S w w') (hB : B ≤ w.heap.size) (hn : ∀ k, S k → B ≤ k) : Below B w w' :=
  ⟨h.os, h.tape, h.output, h.size, fun k hk => h.block k (by omega) fun hs => by have := hn k hs; omega⟩
/-- Seen from one block alone. -/
theorem Chg.one {w w' : World} {S : Nat → Prop} (h : Chg S w w') (b : Nat) (hb : b < w.heap.size) (hn : ¬ S b) : ∃ w1 : World, w1.heap[b]? = w.heap[b]? ∧ w'.heap[b]? = w1.heap[b]? := ⟨w', h.block b hb hn, rfl⟩

theorem key9 : Keyed Tryd.prog 9 := string_keyed Tryd.underlying9
theorem zero3 (W : World) : (zeroValue 3).run Tryd.prog W = .ok (.int .i64 0) W := by kernel_rfl
/-- A string as a key. -/
def lk (k : ByteArray) : Lit := .string k.data.toList
theorem lk_key {k : ByteArray} (h : k.size ≤ maxLen) : keyOf Tryd.prog 9 (.string k) = some (lk k) := keyOf_string_mk Tryd.underlying9 h
abbrev DT := DataW Unit
def li (v : Int) : DT := .lit (.int .i64 v)
/-- A map from strings to numbers. -/
def MapI (w : World) (m N : Nat) (D : DT) : Prop := w.ownsMap Tryd.prog 9 (plainElem Tryd.prog 3) m N D
theorem MapI.chg {w w' : World} {m N : Nat} {D : DT} {S : Nat → Prop} (h : MapI w m N D) (k : Chg S w w') (hn : ¬ S m) : MapI w' m N D := by
  have hl := World.ownsMap.lt h
  obtain ⟨es, clock, h1, h2⟩ := h
  exact ⟨es, clock, (k.block m hl hn).trans h1, h2⟩
/-- A table in block b, its map in mo: what is there. -/
structure TabV (w : World) (b : Nat) (mo : Option Nat) (N : Nat) (D : DT) : Prop where
  cell : ∃ t, w.heap[b]? = some (.cells #[.map mo] t (0, 0))
  nil : mo = none → D = .map []
  own : ∀ m, mo = some m → m ≠ b ∧ MapI w m N D
theorem TabV.chg {w w' : World} {b : Nat} {mo : Option Nat} {N : Nat} {D : DT} {S : Nat → Prop} (h : TabV w b mo N D) (k : Chg S w w') (hb : ¬ S b) (hm : ∀ m, mo = some m → ¬ S m) : TabV w' b mo N D := by
  obtain ⟨t, ht⟩ := h.cell
  exact ⟨⟨t, (k.block b (Array.getElem?_eq_some_iff.1 ht).1 hb).trans ht⟩, h.nil, fun m e => ⟨(h.own m e).1, (h.own m e).2.chg k (hm m e)⟩⟩
theorem TabV.cells {w : World} {b : Nat} {mo : Option Nat} {N : Nat} {D : DT} (h : TabV w b mo N D) : w.cell? ⟨b, 0, none⟩ = some (.map mo) ∧ w.frozen? ⟨b, 0, none⟩ = false := by
  obtain ⟨t, ht⟩ := h.cell
  exact ⟨(cell_of_row w b 0 _ _ _ ht).trans rfl, by simp [World.frozen?, ht]⟩
theorem TabV.lt {w : World} {b : Nat} {mo : Option Nat} {N : Nat} {D : DT} (h : TabV w b mo N D) : b < w.heap.size := by
  obtain ⟨t, ht⟩ := h.cell
  exact (Array.getElem?_eq_some_iff.1 ht).1
theorem TabV.isMap {w : World} {b : Nat} {mo : Option Nat} {N : Nat} {D : DT} (h : TabV w b mo N D) : IsMap D := by
  cases mo with
  | none => rw [h.nil rfl]; exact isMap_empty
  | some m => exact World.ownsMap.isMap (h.own m rfl).2
theorem TabV.tidy {w : World} {b : Nat} {mo : Option Nat} {N : Nat} {D : DT} (h : TabV w b mo N D) : Tidy D := by
  cases mo with
  | none => rw [h.nil rfl]; exact tidy_empty
  | some m => exact World.ownsMap.tidy (h.own m rfl).2 key9
/-- The value that a Get answers. -/
def getV (D : DT) (k : ByteArray) (c : Int) : Prop := D.atKey (lk k) (li 0) = li c
set_option maxHeartbeats 4000000 in
set_option maxRecDepth 100000 in
theorem tget_some (b m N : Nat) (D : DT) (k : ByteArray) (w : World) (h : TabV w b (some m) N D) (hk : k.size ≤ maxLen) : Calls Tryd.prog 35 #[.pointer (some ⟨b, 0, none⟩), .string k] w fun e w' => ∃ c, getV D k c ∧ e = .returned (.tuple #[.int .i64 c, .bool (has D (lk k))]) ∧ w' = w := by
  obtain ⟨c0, f0⟩ := h.cells
  have HO := hide (h.own m rfl).2
  have HK := hide (lk_key hk)
  clear h
  go_enter Tryd.func35, Tryd.ntmps35
  go_wp2_with (at_lookup; refine wpList_lookup_own_ok_int _ rfl _ _ 76 rfl 9 3 .i64 key9 Tryd.underlying76 Tryd.underlying3 (zero3 _) m N D rfl HO.out _ _ rfl HK.out ?_; intro c hat hwc)
  refine bodyPost_ret (v := .tuple #[.int .i64 c, .bool (has D (lk k))]) (by simp [results, Tryd.results35, go_sem]) rfl ?_
  exact ⟨c, hat, rfl, rfl⟩
set_option maxHeartbeats 4000000 in
set_option maxRecDepth 100000 in
theorem tget_any (b : Nat) (mo : Option Nat) (N : Nat) (D : DT) (k : ByteArray) (w : World) (h : TabV w b mo N D) (hk : k.size ≤ maxLen) : Calls Tryd.prog 35 #[.pointer (some ⟨b, 0, none⟩), .string k] w fun e w' => ∃ c, getV D k c ∧ e = .returned (.tuple #[.int .i64 c, .bool (has D (lk k))]) ∧ w' = w := by
  cases mo with
  | some m => exact tget_some b m N D k w h hk
  | none =>
    obtain ⟨c0, f0⟩ := h.cells
    obtain rfl := h.nil rfl
    have hrun := look_nil (w := w) true key9 Tryd.underlying76 (zero3 _) (lk_key hk)
    go_enter Tryd.func35, Tryd.ntmps35
    go_wp2
    refine bodyPost_ret (v := .tuple #[.int .i64 0, .bool false]) (by simp [results, Tryd.results35, go_sem]) rfl ?_
    exact ⟨0, rfl, rfl, rfl⟩
theorem run_eql_map_nil {P : Program} (w : World) {t k e : TypeId} (mo : Option Nat) (ht : P.underlying t = some (.map k e)) : (binOp .eql t (.map mo) (.map none)).run P w = .ok (.bool mo.isNone) w := by
  have h : ∀ d : Nat, (Op.equalIn (d + 1) t (.map mo) (.map none)).run P w = .ok mo.isNone w := fun d => by
    cases mo <;> simp [Op.equalIn, run_underlying ht]
  simp only [binOp]
  simp [Op.equal, Op.maxDepth, h 9999]
theorem chg_turned {w w' : World} {m : Nat} (h : w.mapTurned w' m) : Chg (fun k => k = m) w w' := (Chg.of_gb h.grown).mono fun k _ e => by simpa using e
theorem wf_i64 {v : Int} (h : -9223372036854775808 ≤ v ∧ v < 9223372036854775808) : (Lit.int .i64 v).wf = true := by
  simp [Lit.wf, IntKind.min, IntKind.max, IntKind.signed, IntKind.bits]; omega
set_option maxHeartbeats 4000000 in
set_option maxRecDepth 100000 in
theorem tput_some (b m N : Nat) (D : DT) (k : ByteArray) (v : Int) (w : World) (h : TabV w b (some m) N D) (hk : k.size ≤ maxLen) (hN : N < maxLen) (hv : (Lit.int .i64 v).wf = true) : Calls Tryd.prog 33 #[.pointer (some ⟨b, 0, none⟩), .string k, .int .i64 v] w fun e w' => e = .returned (.bool (!has D (lk k))) ∧ TabV w' b (some m) (N + 1) (D.put (lk k) (li v)) ∧ Chg (fun j => j = m) w w' := by
  obtain ⟨c0, f0⟩ := h.cells
  have HO := hide (h.own m rfl).2
  have HK := hide (lk_key hk)
  have HH := hide h
  clear h
  have hnil := fun W => run_eql_map_nil (P := Tryd.prog) W (some m) Tryd.underlying76
  go_enter Tryd.func33, Tryd.ntmps33
  go_wp2_with (first | (at_lookup; refine wpList_lookup_own_ok_int _ rfl _ _ 76 rfl 9 3 .i64 key9 Tryd.underlying76 Tryd.underlying3 (zero3 _) m N D rfl HO.out _ _ rfl HK.out ?_; intro c hat hwc) | (at_mapUpdate; refine wpList_mapUpdate_own _ rfl _ _ _ 76 rfl 9 3 key9 Tryd.underlying76 (plainElem Tryd.prog 3) m N D rfl HO.out hN _ _ _ rfl rfl HK.out _ [] (plainElem_int Tryd.underlying3 hv) ?_; intro w1 hown1 hgrow1))
  go_ret
  have hc : Chg (fun j => j = m) w w1 := (Chg.of_gb hgrow1).mono fun k _ e => by simpa using e
  obtain ⟨t, ht⟩ := HH.out.cell
  have hne := (HH.out.own m rfl).1
  exact ⟨rfl, ⟨⟨t, (hc.block b HH.out.lt (fun e => hne e.symm)).trans ht⟩, fun e => by simp at e, fun m' e => by cases e; exact ⟨hne, hown1⟩⟩, hc⟩
set_option maxHeartbeats 4000000 in
set_option maxRecDepth 100000 in
theorem tput_none (b N : Nat) (D : DT) (k : ByteArray) (v : Int) (w : World) (h : TabV w b none N D) (hk : k.size ≤ maxLen) (hv : (Lit.int .i64 v).wf = true) : Calls Tryd.prog 33 #[.pointer (some ⟨b, 0, none⟩), .string k, .int .i64 v] w fun e w' => e = .returned (.bool (!has D (lk k))) ∧ TabV w' b (some w.heap.size) (N + 1) (D.put (lk k) (li v)) ∧ Chg (fun j => j = b) w w' := by
  obtain ⟨c0, f0⟩ := h.cells
  have hb := h.lt
  obtain ⟨t, ht⟩ := h.cell
  obtain rfl := h.nil rfl
  have HK := hide (lk_key hk)
  have HT := hide ht
  clear h ht
  have hnil := fun W => run_eql_map_nil (P := Tryd.prog) W none Tryd.underlying76
  have hmm := @run_makeMap Tryd.prog
  have hsz : (w.setCell ⟨b, 0, none⟩ (.map (some w.heap.size))).heap.size = w.heap.size := by simp [World.setCell]
  have HO : Hid (MapI ((w.setCell ⟨b, 0, none⟩ (.map (some w.heap.size))).alloc (.map #[] 0)) w.heap.size 0 (.map [])) := hide (by
    have := World.ownsMap_made (H := Unit) (w.setCell ⟨b, 0, none⟩ (.map (some w.heap.size))) Tryd.prog 9 (plainElem Tryd.prog 3)
    rw [hsz] at this
    exact this)
  have HZ := hide hsz
  clear hsz
  go_enter Tryd.func33, Tryd.ntmps33
  go_wp2_with (first | (at_lookup; refine wpList_lookup_own_ok_int _ rfl _ _ 76 rfl 9 3 .i64 key9 Tryd.underlying76 Tryd.underlying3 (zero3 _) w.heap.size 0 (.map []) rfl HO.out _ _ rfl HK.out ?_; intro c hat hwc) | (at_mapUpdate; refine wpList_mapUpdate_own _ rfl _ _ _ 76 rfl 9 3 key9 Tryd.underlying76 (plainElem Tryd.prog 3) w.heap.size 0 (.map []) rfl HO.out (by unfold maxLen; omega) _ _ _ rfl rfl HK.out _ [] (plainElem_int Tryd.underlying3 hv) ?_; intro w1 hown1 hgrow1))
  go_ret
  have hc1 : Chg (fun j => j = w.heap.size) ((w.setCell ⟨b, 0, none⟩ (.map (some w.heap.size))).alloc (.map #[] 0)) w1 := (Chg.of_gb hgrow1).mono fun k _ e => by simpa using e
  have hc0 : Chg (fun j => j = b) w ((w.setCell ⟨b, 0, none⟩ (.map (some w.heap.size))).alloc (.map #[] 0)) :=
    ((Chg.of_gb (gb_set w b 0 _)).trans (Chg.of_gb (World.grownBy_alloc _ (.map #[] 0) none)) (S := fun k => some k = some b) (fun j _ e => by simp at e)).mono fun k _ e => by simpa using e
  have hbc : ((w.setCell ⟨b, 0, none⟩ (.map (some w.heap.size))).alloc (.map #[] 0)).heap[b]? = some (.cells #[.map (some w.heap.size)] t (0, 0)) := by
    rw [heap_alloc_old _ _ (by rw [HZ.out]; exact hb)]
    simp [World.setCell, Array.getElem?_modify, HT.out]
  have hb1 : b < ((w.setCell ⟨b, 0, none⟩ (.map (some w.heap.size))).alloc (.map #[] 0)).heap.size := by simp [World.setCell]; omega
  refine ⟨rfl, ⟨⟨t, (hc1.block b hb1 (fun e => absurd (show b = w.heap.size from e) (by omega))).trans hbc⟩, fun e => by simp at e, fun m e => by cases e; exact ⟨by omega, World.ownsMap.mono hown1 (by omega)⟩⟩, hc0.trans hc1 fun j hj e => ?_⟩
  exact absurd (show j = w.heap.size from e) (by omega)
/-- Behind a Put: where the map lies. -/
theorem tput_any (b N : Nat) (mo : Option Nat) (D : DT) (k : ByteArray) (v : Int) (w : World) (h : TabV w b mo N D) (hk : k.size ≤ maxLen) (hN : N < maxLen) (hv : (Lit.int .i64 v).wf = true) : Calls Tryd.prog 33 #[.pointer (some ⟨b, 0, none⟩), .string k, .int .i64 v] w fun e w' => e = .returned (.bool (!has D (lk k))) ∧ (∃ m, (mo = some m ∨ (mo = none ∧ m = w.heap.size)) ∧ TabV w' b (some m) (N + 1) (D.put (lk k) (li v))) ∧ Chg (fun j => j = b ∨ mo = some j) w w' := by
  cases mo with
  | some m =>
    refine (tput_some b m N D k v w h hk hN hv).mono ?_
    rintro e w' ⟨rfl, h1, h2⟩
    exact ⟨rfl, ⟨m, .inl rfl, h1⟩, h2.mono fun j _ e => .inr (by rw [e])⟩
  | none =>
    refine (tput_none b N D k v w h hk hv).mono ?_
    rintro e w' ⟨rfl, h1, h2⟩
    exact ⟨rfl, ⟨_, .inr ⟨rfl, rfl⟩, h1⟩, h2.mono fun j _ e => .inl e⟩
set_option maxHeartbeats 4000000 in
set_option maxRecDepth 100000 in
theorem tcut_any (b N : Nat) (mo : Option Nat) (D : DT) (k : ByteArray) (w : World) (h : TabV w b mo N D) (hk : k.size ≤ maxLen) : Calls Tryd.prog 34 #[.pointer (some ⟨b, 0, none⟩), .string k] w fun e w' => e = .returned (.bool (has D (lk k))) ∧ TabV w' b mo N (D.del (lk k)) ∧ Chg (fun j => mo = some j) w w' := by
  obtain ⟨c0, f0⟩ := h.cells
  have HH := hide h
  have HK := hide (lk_key hk)
  cases mo with
  | some m =>
    have HO := hide (h.own m rfl).2
    clear h
    go_enter Tryd.func34, Tryd.ntmps34
    go_wp2_with (first | (at_lookup; refine wpList_lookup_own_ok_int _ rfl _ _ 76 rfl 9 3 .i64 key9 Tryd.underlying76 Tryd.underlying3 (zero3 _) m N D rfl HO.out _ _ rfl HK.out ?_; intro c hat hwc) | (at_delete; refine wpList_delete_own _ rfl _ _ 76 9 rfl 3 key9 Tryd.underlying76 _ m N D rfl HO.out _ _ rfl HK.out ?_; intro w1 hown1 hturn1))
    go_ret
    have hc := chg_turned hturn1
    obtain ⟨t, ht⟩ := HH.out.cell
    have hne := (HH.out.own m rfl).1
    exact ⟨rfl, ⟨⟨t, (hc.block b HH.out.lt (fun e => hne e.symm)).trans ht⟩, fun e => by simp at e, fun m' e => by cases e; exact ⟨hne, hown1⟩⟩, hc.mono fun j _ e => by rw [e]⟩
  | none =>
    obtain rfl := h.nil rfl
    have hrun := fun W => look_nil (w := W) true key9 Tryd.underlying76 (zero3 W) HK.out
    have hdrop := fun (W : World) (ty : TypeId) => drop_nil (w := W) key9 Tryd.underlying76 HK.out ty
    clear h
    go_enter Tryd.func34, Tryd.ntmps34
    go_wp2
    go_ret
    exact ⟨rfl, HH.out, Chg.refl _ _⟩
end Go.Proofs.YtdeebmpmfedjbaaDoor
