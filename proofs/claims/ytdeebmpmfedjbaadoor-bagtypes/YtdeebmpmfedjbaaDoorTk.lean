/- Tables from strings to lists: Keys. -/
import Derived.Test.YtdeebmpmfedjbaaDoorKt
import Derived.Test.YtdeebmpmfedjbaaDoorTu
namespace Go.Proofs.YtdeebmpmfedjbaaDoor
open Go.RowKit Go.Maps Go.Sort Go.Shelf Bag Go.WideMaps
theorem mapsKeysU (mb : Option Nat) (W : World) : Calls Tryd.prog 45 #[.map mb] W fun e w' => e = .returned (.func (.func 51) #[] #[.pointer (some ⟨W.heap.size, 0, none⟩)]) ∧ w' = W.alloc (.cells #[.map mb] 52) :=
  (callsIn_wide (n := 5)).1 (AnyZ.keys_in Tryd.keys45 Fence.wide 5 trivial rfl mb W)
set_option maxHeartbeats 1000000 in
theorem sortedKeysU {H : Type} (b nn : Nat) (D0 : DataW H) (R : Value → Option (DataW H × List MemPlace)) (w : World) (hown : w.ownsMap Tryd.prog 9 R b nn D0) (hmax : Maps.size D0 ≤ maxLen) (hbytes : Maps.size D0 * 16 ≤ 140737488355328) :
    Calls Tryd.prog 44 #[.func (.func 51) #[] #[.pointer (some ⟨w.heap.size, 0, none⟩)]] (w.alloc (.cells #[.map (some b)] 52)) fun e w' => ∃ (v : Value) (ss : List (List UInt8)), e = .returned v ∧ ss.Perm (strKeys D0) ∧
      w'.ownsRow (w.alloc (.cells #[.map (some b)] 52)).heap.size 9 1 v ss.length ((ss.mergeSort (fun x y => decide (x ≤ y))).map encStr) ∧ (v = .slice none 0 0 ↔ ss = []) ∧ Below (w.alloc (.cells #[.map (some b)] 52)).heap.size (w.alloc (.cells #[.map (some b)] 52)) w' := by
  have hbl := hown.lt
  have hseq : SeqGives Fence.wide 2 Tryd.prog 51 #[.pointer (some ⟨w.heap.size, 0, none⟩)] encStr (fun ss => ss.Perm (strKeys D0)) (Maps.size D0) (w.alloc (.cells #[.map (some b)] 52)) :=
    AnyZ.keys_gives (ρ := Tryd.keys45_ren) { Tryd.keys45 with } Fence.wide _ trivial rfl (by omega) w.heap.size b nn D0 _ (by simp) (by simp) (by
      obtain ⟨es, clock, hb, Ft, hs, hD⟩ := hown
      exact ⟨es, clock, (Below.heap_alloc _ _ b hbl).trans hb, Ft, hs, hD⟩)
  exact (callsIn_wide (n := 5)).1 (AnyZ.sorted_in Tryd.sorted44 Fence.wide 5 trivial trivial trivial trivial rfl (by omega) (sorts44 _) (enters_of Tryd.func50 (by kernel_rfl) rfl) 51 #[.pointer (some ⟨w.heap.size, 0, none⟩)] trivial (enters_of Tryd.func51 (by kernel_rfl) rfl) _ _ hmax hbytes _ hseq)
set_option maxHeartbeats 1000000 in
theorem sortedNilU (w : World) :
    Calls Tryd.prog 44 #[.func (.func 51) #[] #[.pointer (some ⟨w.heap.size, 0, none⟩)]] (w.alloc (.cells #[.map none] 52)) fun e w' => ∃ (v : Value) (ss : List (List UInt8)), e = .returned v ∧ ss = [] ∧
      w'.ownsRow (w.alloc (.cells #[.map none] 52)).heap.size 9 1 v ss.length ((ss.mergeSort (fun x y => decide (x ≤ y))).map encStr) ∧ (v = .slice none 0 0 ↔ ss = []) ∧ Below (w.alloc (.cells #[.map none] 52)).heap.size (w.alloc (.cells #[.map none] 52)) w' := by
  have hseq : SeqGives Fence.wide 2 Tryd.prog 51 #[.pointer (some ⟨w.heap.size, 0, none⟩)] encStr (fun ss : List (List UInt8) => ss = []) 0 (w.alloc (.cells #[.map none] 52)) :=
    AnyZ.keys_gives_nil (ρ := Tryd.keys45_ren) { Tryd.keys45 with } Fence.wide _ trivial rfl w.heap.size _ (by simp) (by simp)
  exact (callsIn_wide (n := 5)).1 (AnyZ.sorted_in Tryd.sorted44 Fence.wide 5 trivial trivial trivial trivial rfl (by omega) (sorts44 _) (enters_of Tryd.func50 (by kernel_rfl) rfl) 51 #[.pointer (some ⟨w.heap.size, 0, none⟩)] trivial (enters_of Tryd.func51 (by kernel_rfl) rfl) _ 0 (Nat.zero_le _) (by omega) _ hseq)
set_option maxHeartbeats 4000000 in
set_option maxRecDepth 100000 in
theorem ukeys_any (b N : Nat) (mo : Option Nat) (D : DT) (w : World) (h : TabS w b mo N D) (hs : size D ≤ 1000) : Calls Tryd.prog 29 #[.pointer (some ⟨b, 0, none⟩)] w fun e w' => ∃ v ks, e = .returned v ∧ KV w' v ks ∧ KeysD D ks ∧ w.grownBy w' none := by
  obtain ⟨c0, f0⟩ := h.cells
  have hT := h.tidy
  cases mo with
  | some m =>
    have HO := hide (h.own m rfl).2
    clear h
    go_enter Tryd.func29, Tryd.ntmps29
    go_wp2_with (first | (go_at_call 45; refine (mapsKeysU _ _).mono ?_; rintro e w1 ⟨rfl, rfl⟩) | (go_at_call 44; refine (sortedKeysU m N D _ w HO.out (by unfold maxLen; omega) (by omega)).mono ?_; rintro e w2 ⟨v, ss, rfl, hS, hrow, hnil, hb⟩))
    go_ret
    have hr : w2.ownsRow (w.alloc (.cells #[.map (some m)] 52)).heap.size 9 1 v (ss.mergeSort leB).length ((ss.mergeSort leB).map encStr) := by simpa using hrow
    exact ⟨v, _, rfl, kv_of hr, keysD_of HO.out hT hS, (World.grownBy_alloc w _ none).trans (gb_of hb)⟩
  | none =>
    obtain rfl := h.nil rfl
    clear h
    go_enter Tryd.func29, Tryd.ntmps29
    go_wp2_with (first | (go_at_call 45; refine (mapsKeysU _ _).mono ?_; rintro e w1 ⟨rfl, rfl⟩) | (go_at_call 44; refine (sortedNilU w).mono ?_; rintro e w2 ⟨v, ss, rfl, hS, hrow, hnil, hb⟩))
    go_ret
    subst hS
    have hv := hnil.2 rfl
    subst hv
    exact ⟨_, [], rfl, SlV.nil, ⟨rfl, fun x hx => by simp at hx, fun j hj => by simp at hj⟩, (World.grownBy_alloc w _ none).trans (gb_of hb)⟩
end Go.Proofs.YtdeebmpmfedjbaaDoor
