/- Tables: Keys, by the library's contracts on the keys of a map, sorted. -/
import Derived.Test.YtdeebmpmfedjbaaDoorKy
import Derived.Test.YtdeebmpmfedjbaaDoorTn
import Derived.Sort.KeysCollected
namespace Go.Proofs.YtdeebmpmfedjbaaDoor
open Go.RowKit Go.Maps Go.Sort Go.Shelf Bag Go.WideMaps
/-- slices.Sort at this program. -/
theorem sorts44 (m : Nat) : AnyZ.SortsIn Tryd.prog Tryd.sorted44_ren Fence.wide m :=
  ⟨fun blk off cap ss W hH hblk hsz => callsIn_wide.2 (AnyM.slices_Sort_string Tryd.sort50 blk off cap ss W hH hblk hsz),
   fun p cap W => callsIn_wide.2 (AnyM.slices_Sort_string_none Tryd.sort50 p cap W)⟩
theorem mapsKeys (mb : Option Nat) (W : World) : Calls Tryd.prog 48 #[.map mb] W fun e w' => e = .returned (.func (.func 52) #[] #[.pointer (some ⟨W.heap.size, 0, none⟩)]) ∧ w' = W.alloc (.cells #[.map mb] 76) :=
  (callsIn_wide (n := 5)).1 (AnyZ.keys_in Tryd.keys48 Fence.wide 5 trivial rfl mb W)
set_option maxHeartbeats 1000000 in
theorem sortedKeys {H : Type} (b nn : Nat) (D0 : DataW H) (R : Value → Option (DataW H × List MemPlace)) (w : World) (hown : w.ownsMap Tryd.prog 9 R b nn D0) (hmax : Maps.size D0 ≤ maxLen) (hbytes : Maps.size D0 * 16 ≤ 140737488355328) :
    Calls Tryd.prog 44 #[.func (.func 52) #[] #[.pointer (some ⟨w.heap.size, 0, none⟩)]] (w.alloc (.cells #[.map (some b)] 76)) fun e w' => ∃ (v : Value) (ss : List (List UInt8)), e = .returned v ∧ ss.Perm (strKeys D0) ∧
      w'.ownsRow (w.alloc (.cells #[.map (some b)] 76)).heap.size 9 1 v ss.length ((ss.mergeSort (fun x y => decide (x ≤ y))).map encStr) ∧ (v = .slice none 0 0 ↔ ss = []) ∧ Below (w.alloc (.cells #[.map (some b)] 76)).heap.size (w.alloc (.cells #[.map (some b)] 76)) w' := by
  have hbl := hown.lt
  have hseq : SeqGives Fence.wide 2 Tryd.prog 52 #[.pointer (some ⟨w.heap.size, 0, none⟩)] encStr (fun ss => ss.Perm (strKeys D0)) (Maps.size D0) (w.alloc (.cells #[.map (some b)] 76)) :=
    AnyZ.keys_gives (ρ := Tryd.keys48_ren) { Tryd.keys48 with } Fence.wide _ trivial rfl (by omega) w.heap.size b nn D0 _ (by simp) (by simp) (by
      obtain ⟨es, clock, hb, Ft, hs, hD⟩ := hown
      exact ⟨es, clock, (Below.heap_alloc _ _ b hbl).trans hb, Ft, hs, hD⟩)
  exact (callsIn_wide (n := 5)).1 (AnyZ.sorted_in Tryd.sorted44 Fence.wide 5 trivial trivial trivial trivial rfl (by omega) (sorts44 _) (enters_of Tryd.func50 (by kernel_rfl) rfl) 52 #[.pointer (some ⟨w.heap.size, 0, none⟩)] trivial (enters_of Tryd.func52 (by kernel_rfl) rfl) _ _ hmax hbytes _ hseq)
set_option maxHeartbeats 1000000 in
theorem sortedNil (w : World) :
    Calls Tryd.prog 44 #[.func (.func 52) #[] #[.pointer (some ⟨w.heap.size, 0, none⟩)]] (w.alloc (.cells #[.map none] 76)) fun e w' => ∃ (v : Value) (ss : List (List UInt8)), e = .returned v ∧ ss = [] ∧
      w'.ownsRow (w.alloc (.cells #[.map none] 76)).heap.size 9 1 v ss.length ((ss.mergeSort (fun x y => decide (x ≤ y))).map encStr) ∧ (v = .slice none 0 0 ↔ ss = []) ∧ Below (w.alloc (.cells #[.map none] 76)).heap.size (w.alloc (.cells #[.map none] 76)) w' := by
  have hseq : SeqGives Fence.wide 2 Tryd.prog 52 #[.pointer (some ⟨w.heap.size, 0, none⟩)] encStr (fun ss : List (List UInt8) => ss = []) 0 (w.alloc (.cells #[.map none] 76)) :=
    AnyZ.keys_gives_nil (ρ := Tryd.keys48_ren) { Tryd.keys48 with } Fence.wide _ trivial rfl w.heap.size _ (by simp) (by simp)
  exact (callsIn_wide (n := 5)).1 (AnyZ.sorted_in Tryd.sorted44 Fence.wide 5 trivial trivial trivial trivial rfl (by omega) (sorts44 _) (enters_of Tryd.func50 (by kernel_rfl) rfl) 52 #[.pointer (some ⟨w.heap.size, 0, none⟩)] trivial (enters_of Tryd.func52 (by kernel_rfl) rfl) _ 0 (Nat.zero_le _) (by omega) _ hseq)
def StrAt (w : World) (b off : Nat) (x : ByteArray) : Prop := w.cell? ⟨b, off, none⟩ = some (.string x)
/-- A row of strings. -/
def KV (w : World) (v : Value) (ks : List ByteArray) : Prop := SlV 1 StrAt ⟨#[]⟩ w v ks
theorem KV.below {w w' : World} {v : Value} {ks : List ByteArray} (h : KV w v ks) (hB : Below w.heap.size w w') : KV w' v ks := SlV.mono h fun _ _ _ => cell_below hB
theorem KV.at {w : World} {ao : Option Addr} {n c : Nat} {ks : List ByteArray} (h : KV w (.slice ao n c) ks) (j : Nat) (hj : j < ks.length) : ∃ b off, ao = some ⟨b, off, none⟩ ∧ w.cell? ⟨b, off + j, none⟩ = some (.string (ks.getD j ⟨#[]⟩)) := by
  obtain ⟨b, off, e, h⟩ := SlV.at h j hj
  rw [Nat.mul_one] at h
  exact ⟨b, off, e, h⟩
def bytesOf (l : List UInt8) : ByteArray := ⟨l.toArray⟩
theorem kv_of {B : Nat} {w : World} {v : Value} {ls : List (List UInt8)} (h : w.ownsRow B 9 1 v ls.length (ls.map encStr)) : KV w v (ls.map bytesOf) := by
  rcases h.2 with ⟨rfl, h0⟩ | ⟨g, cap, cur, rfl, _, hg, hnc, hcm, _, ht⟩
  · have : ls = [] := List.eq_nil_of_length_eq_zero h0
    subst this
    exact SlV.nil
  · refine ⟨_, cap, by simp, by simpa using hnc, hcm, fun e => by simp at e, fun _ => ⟨g, 0, rfl, fun j hj => ?_⟩⟩
    have hj' : j < ls.length := by simpa using hj
    show w.cell? _ = _
    rw [Nat.zero_add, Nat.mul_one, cell_of_row w g j cur _ _ hg]
    have h1 : (cur.toList.take (ls.length * 1))[j]? = some (Value.string ((ls.map bytesOf).getD j ⟨#[]⟩)) := by
      rw [ht]
      simp [List.getElem?_eq_getElem hj', bytesOf, encStr]
    rw [List.getElem?_take, if_pos (by omega)] at h1
    simpa using h1
theorem lk_bytes (l : List UInt8) : lk (bytesOf l) = .string l := by simp [lk, bytesOf]
/-- What the keys of a map, sorted, are. -/
structure KeysD (D : DT) (ks : List ByteArray) : Prop where
  len : ks.length = size D
  mem : ∀ x ∈ ks, has D (lk x) = true ∧ x.size ≤ maxLen
  up : ∀ j, j + 1 < ks.length → Op.bytesLess (ks.getD j ⟨#[]⟩).toList (ks.getD (j + 1) ⟨#[]⟩).toList = true
theorem keysD_of {w : World} {R : Value → Option (DT × List MemPlace)} {m N : Nat} {D : DT} {ss : List (List UInt8)} (h : w.ownsMap Tryd.prog 9 R m N D) (ht : Tidy D) (hp : ss.Perm (strKeys D)) : KeysD D ((ss.mergeSort leB).map bytesOf) := by
  have hq : (ss.mergeSort leB).Perm (strKeys D) := (List.mergeSort_perm ss leB).trans hp
  have hle := fun x hx => strKeys_le h Tryd.underlying9 x (hq.mem_iff.1 hx)
  obtain ⟨es, hD, hk⟩ := World.ownsMap.keysOf h
  obtain ⟨es', hD', hpw⟩ := ht
  rw [hD] at hD'
  cases hD'
  subst hD
  have hks : ∀ p ∈ es, ∃ x, p.1 = Lit.string x := fun p hp => by
    obtain ⟨v, hv⟩ := hk p hp
    obtain ⟨x, _, e, _⟩ := Maps.keyOf_str Tryd.underlying9 hv
    exact ⟨x, e⟩
  have hnd : (strKeys (.map es)).Nodup := by
    show (es.map fun p => strOf p.1).Nodup
    refine List.pairwise_map.2 (hpw.imp_of_mem fun {p q} hp' hq' hne e => hne ?_)
    obtain ⟨a, ha⟩ := hks p hp'
    obtain ⟨b, hb⟩ := hks q hq'
    rw [ha, hb] at e ⊢
    exact congrArg _ e
  have hnd2 : (ss.mergeSort leB).Nodup := hq.nodup_iff.2 hnd
  have tr : ∀ a b c : List UInt8, leB a b = true → leB b c = true → leB a c = true := fun a b c h1 h2 => by simp only [leB, decide_eq_true_eq] at *; exact List.le_trans h1 h2
  have to : ∀ a b : List UInt8, (leB a b || leB b a) = true := fun a b => by simp only [leB, Bool.or_eq_true, decide_eq_true_eq]; exact List.le_total a b
  have hs := List.pairwise_mergeSort tr to ss
  generalize ss.mergeSort leB = ls at *
  refine ⟨?_, fun x hx => ?_, fun j hj => ?_⟩
  · rw [List.length_map, hq.length_eq]
    simp [strKeys, size]
  · obtain ⟨l, hl, rfl⟩ := List.mem_map.1 hx
    refine ⟨?_, by have := hle l hl; simpa [bytesOf, ByteArray.size] using this⟩
    rw [lk_bytes, has_eq, List.any_eq_true]
    obtain ⟨p, hp1, hp2⟩ := List.mem_map.1 (show l ∈ es.map (fun p => strOf p.1) from hq.mem_iff.1 hl)
    obtain ⟨x, hx⟩ := hks p hp1
    refine ⟨p, hp1, ?_⟩
    rw [hx] at hp2 ⊢
    simp only [strOf] at hp2
    subst hp2
    simp [Lit.sameKey]
  · have hj' : j + 1 < ls.length := by simpa using hj
    have e1 : (ls.map bytesOf).getD j ⟨#[]⟩ = bytesOf ls[j] := by simp [List.getElem?_eq_getElem (show j < ls.length by omega)]
    have e2 : (ls.map bytesOf).getD (j + 1) ⟨#[]⟩ = bytesOf ls[j + 1] := by simp [List.getElem?_eq_getElem hj']
    rw [e1, e2, bytesLess_eq, Lib.toList_data, Lib.toList_data]
    show decide (ls[j] < ls[j + 1]) = true
    rw [decide_eq_true_eq]
    have h1 : leB ls[j] ls[j + 1] = true := List.pairwise_iff_getElem.1 hs j (j + 1) (by omega) hj' (by omega)
    have h2 : ls[j] ≠ ls[j + 1] := List.pairwise_iff_getElem.1 hnd2 j (j + 1) (by omega) hj' (by omega)
    simp only [leB, decide_eq_true_eq] at h1
    exact Decidable.byContradiction fun hlt => h2 (List.le_antisymm h1 hlt)
set_option maxHeartbeats 4000000 in
set_option maxRecDepth 100000 in
theorem keys_any (b N : Nat) (mo : Option Nat) (D : DT) (w : World) (h : TabV w b mo N D) (hs : size D ≤ 1000) : Calls Tryd.prog 36 #[.pointer (some ⟨b, 0, none⟩)] w fun e w' => ∃ v ks, e = .returned v ∧ KV w' v ks ∧ KeysD D ks ∧ w.grownBy w' none := by
  obtain ⟨c0, f0⟩ := h.cells
  have hT := h.tidy
  cases mo with
  | some m =>
    have HO := hide (h.own m rfl).2
    clear h
    go_enter Tryd.func36, Tryd.ntmps36
    go_wp2_with (first | (go_at_call 48; refine (mapsKeys _ _).mono ?_; rintro e w1 ⟨rfl, rfl⟩) | (go_at_call 44; refine (sortedKeys m N D _ w HO.out (by unfold maxLen; omega) (by omega)).mono ?_; rintro e w2 ⟨v, ss, rfl, hS, hrow, hnil, hb⟩))
    go_ret
    have hr : w2.ownsRow (w.alloc (.cells #[.map (some m)] 76)).heap.size 9 1 v (ss.mergeSort leB).length ((ss.mergeSort leB).map encStr) := by simpa using hrow
    exact ⟨v, _, rfl, kv_of hr, keysD_of HO.out hT hS, (World.grownBy_alloc w _ none).trans (gb_of hb)⟩
  | none =>
    obtain rfl := h.nil rfl
    clear h
    go_enter Tryd.func36, Tryd.ntmps36
    go_wp2_with (first | (go_at_call 48; refine (mapsKeys _ _).mono ?_; rintro e w1 ⟨rfl, rfl⟩) | (go_at_call 44; refine (sortedNil w).mono ?_; rintro e w2 ⟨v, ss, rfl, hS, hrow, hnil, hb⟩))
    go_ret
    subst hS
    have hv := hnil.2 rfl
    subst hv
    exact ⟨_, [], rfl, SlV.nil, ⟨rfl, fun x hx => by simp at hx, fun j hj => by simp at hj⟩, (World.grownBy_alloc w _ none).trans (gb_of hb)⟩
end Go.Proofs.YtdeebmpmfedjbaaDoor
