/- Awake: the fixed fact. -/
import Derived.Test.YtdeebmpmfedjbaaDoorQu
namespace Go.Proofs.YtdeebmpmfedjbaaDoor
open Go.RowKit Bag Go.Maps Go.WideMaps
/-- A literal's numbers. -/
theorem ints_lit {w : World} {g : Nat} {xs : List Int} (h : w.heap[g]? = some (.cells (xs.map (Value.int .i64)).toArray 3 (0, 0))) (hl : xs.length ≤ maxLen) : IntsV w (.slice (some ⟨g, 0, none⟩) xs.length xs.length) xs := by
  refine ⟨_, _, rfl, Nat.le_refl _, hl, fun e => by simp at e, fun _ => ⟨g, 0, rfl, fun j hj => ?_⟩⟩
  show w.cell? _ = _
  rw [Nat.zero_add, Nat.mul_one, cell_of_row w g j _ _ _ h]
  simp [List.getElem?_eq_getElem hj]
theorem mem535 : mem (ofL [5, 3, 5]) 4096 = [3, 5] := by decide +kernel
theorem zero69 (W : World) : (zeroValue 69).run Tryd.prog W = .ok (.agg #[.slice none 0 0, .map none]) W := by kernel_rfl
theorem zero78 (W : World) : (zeroValue 78).run Tryd.prog W = .ok (.agg #[.map none]) W := by kernel_rfl
theorem que_new {w : World} {b : Nat} {t : TypeId} (h : w.heap[b]? = some (.cells #[.slice none 0 0, .map none] t (0, 0))) : QueV w b (.slice none 0 0) none 0 [] (.map []) :=
  ⟨⟨t, h⟩, RowW.nil _ _ _, (by simp [Value.ownBlock]), fun _ => rfl, (fun m e => by cases e), ⟨fun k => by simp [has], isMap_empty, by simp⟩⟩
theorem tab_new {w : World} {b : Nat} {t : TypeId} (h : w.heap[b]? = some (.cells #[.map none] t (0, 0))) : TabV w b none 0 (.map []) :=
  ⟨⟨t, h⟩, fun _ => rfl, fun m e => by cases e⟩
def kx : ByteArray := ⟨#[120]⟩
def kk : ByteArray := ⟨#[107]⟩
theorem kx_size : kx.size ≤ maxLen := by decide
theorem wf1 : (Lit.int .i64 1).wf = true := wf_i64 ⟨by decide, by decide⟩
theorem wf2 : (Lit.int .i64 2).wf = true := wf_i64 ⟨by decide, by decide⟩
theorem lt0 : 0 < maxLen := by decide
theorem lt1 : 1 < maxLen := by decide
theorem kk_size : kk.size ≤ maxLen := by decide
/-- What stands behind the calls on the queue and the table. -/
theorem awake_fin {w w1 w2 w3 w4 w6 w7 w9 : World} {gs gq gt m7 : Nat} {ds : Array Value} {o : Obj} {p3 p4 : Prop} (HT : Hid (Tab w)) (hz : 0 < w.heap.size) (hg1 : (w.alloc o).grownBy w1 none) (h2 : Hid (gs = w1.heap.size ∧ w2.heap[gs]? = some (.cells ds 27 (0, 0)) ∧ Below gs w1 w2))
    (h3 : Hid (gq = w2.heap.size ∧ p3 ∧ Below gq w2 w3)) (h4 : Hid (gt = w3.heap.size ∧ p4 ∧ Below gt w3 w4)) (hgs4 : Hid (w4.heap[gs]? = some (.cells ds 27 (0, 0)))) (hlq : Hid (gq < gt))
    (HC6 : Hid (Chg (fun j => j = gq) w4 w6)) (HC7 : Hid (Chg (fun j => j = gt ∨ none = some j) w6 w7)) (HC8 : Hid (Chg (fun j => j = gt ∨ some m7 = some j) w7 w9)) (HM7 : Hid (none = some m7 ∨ True ∧ m7 = w6.heap.size)) :
    Hid (Chg (fun j => j = gq ∨ j = gt) w4 w9) ∧ Hid (w9.heap[gs]? = some (.cells ds 27 (0, 0))) ∧ Hid (Tab w9) ∧ Hid (w.grownBy w9 none) := by
  have hm : m7 = w6.heap.size := by rcases HM7.out with h | h; cases h; exact h.2
  have hC : Chg (fun j => j = gq ∨ j = gt) w4 w9 := by
    refine ((HC6.out.mono fun j _ e => .inl e).trans HC7.out fun j _ e => ?_).trans HC8.out fun j hj e => ?_
    · rcases e with e | e
      · exact .inr e
      · cases e
    · rcases e with e | e
      · exact .inr e
      · have := HC6.out.size
        simp only [Option.some.injEq] at e
        omega
  have l2 := (Array.getElem?_eq_some_iff.1 h2.out.2.1).1
  have a2 := h2.out.1
  have a3 := h3.out.1
  have a4 := h4.out.1
  have s1 := hg1.size
  have s0 := (World.grownBy_alloc w o none).size
  have s3 := h3.out.2.2.size
  have s4 := h4.out.2.2.size
  have hw : w.grownBy w4 none := ((((World.grownBy_alloc w o none).trans hg1).trans (gb_at h2.out)).trans (gb_at h3.out)).trans (gb_at h4.out)
  have hB : Below w.heap.size w w9 := (gb_to hw).trans (hC.below hw.size fun k e => by rcases e with e | e <;> omega)
  have hgt := hlq.out
  refine ⟨hide hC, hide ((hC.block gs (by omega) (by omega)).trans hgs4.out), hide (HT.out.below hB hz), hide (gb_of hB)⟩
set_option maxHeartbeats 8000000 in
set_option maxRecDepth 100000 in
theorem awake_any (w : World) (hT : Tab w) : Calls Tryd.prog 9 #[] w fun e w' => e = .returned (.bool true) ∧ w.grownBy w' none := by
  have hz : 0 < w.heap.size := World.block_lt_of_cell? w _ (hT 0 (by decide))
  have HT := hide hT
  clear hT
  obtain ⟨L5, hL5⟩ : ∃ L5, L5 = w.alloc (.cells #[.int .i64 5, .int .i64 3, .int .i64 5] 3) := ⟨_, rfl⟩
  have H5 : Hid (IntsV (w.alloc (.cells #[.int .i64 5, .int .i64 3, .int .i64 5] 3)) (.slice (some ⟨w.heap.size, 0, none⟩) 3 3) [5, 3, 5]) := hide (ints_lit (xs := [5, 3, 5]) (heap_alloc_new w _) (by decide))
  clear hL5
  have hD1 : has ((.map [] : DT)) (lk kk) = false := rfl
  have hD2 : has ((.map [] : DT).put (lk kk) (li 1)) (lk kk) = true := has_put_same isMap_empty (by trivial) _
  have hD3 : ∀ c, getV (((.map [] : DT).put (lk kk) (li 1)).put (lk kk) (li 2)) kk c → c = 2 := fun c h => by
    have e : (((.map [] : DT).put (lk kk) (li 1)).put (lk kk) (li 2)).atKey (lk kk) (li 0) = li 2 := by kernel_rfl
    have h2 : li 2 = li c := e.symm.trans h
    simp only [li, DataW.lit.injEq, Lit.int.injEq, true_and] at h2
    exact h2.symm
  have HD3 := hide hD3
  have hD4 : has (((.map [] : DT).put (lk kk) (li 1)).put (lk kk) (li 2)) (lk kk) = true := has_put_same (isMap_empty.put _ _) (by trivial) _
  clear hD3
  go_enter Tryd.func9, Tryd.ntmps9
  go_wp2_with (first | (go_at_call 37; refine (of_any _ [5, 3, 5] _ H5.out (by decide)).mono ?_; rintro e w1 ⟨u, rfl, ⟨ds, rfl, hds⟩, hg1⟩) | (refine wpList_var 27 1 rfl rfl rfl rfl (.tmp 11) rfl rfl z64 ds z27 (by simp [Act.put]) rfl (by rw [hds.1]; exact info27) (by rw [hds.1]; rfl) hds.cells ?_; intro gs w2 h2) | (refine wpList_newv 2 rfl rfl 69 rfl _ zero69 ?_; intro gq w3 h3) | (refine wpList_newv 3 rfl rfl 78 rfl _ zero78 ?_; intro gt w4 h4; have hgq4 := hide (cells_at h3.out.2.1 (gb_at h4.out) (by simp)); have hgs4 := hide (cells_at (cells_at h2.out.2.1 (gb_at h3.out) (by simp)) (gb_at h4.out) (by simp)); have hlq := hide (show gq < gt by have := (Array.getElem?_eq_some_iff.1 h3.out.2.1).1; have := h4.out.1; omega); have hlt4 := hide (Array.getElem?_eq_some_iff.1 h4.out.2.1).1) | (go_at_call 30; refine ((qput_any gq 0 _ none [] _ kx w4 (que_new hgq4.out) kx_size (by decide) (by decide)).2 (by simp)).mono ?_; rintro e w5 ⟨rfl, v5, m5, hm5, hv5, hQ5, hC5⟩; have HC5 := hide (hC5.mono (T := fun j => j = gq) (fun j _ e => by rcases e with e | e | e; exact e; cases e; simp [Value.ownBlock] at e)); have HQ5 := hide hQ5; clear hm5 hv5 hQ5 hC5 hgq4))
  go_wp2_with (first | (go_at_call 30; refine ((qput_any gq 1 v5 (some m5) [kx] _ kx w5 HQ5.out kx_size (by decide) (by decide)).1 (by simp)).mono ?_; rintro e w6 ⟨rfl, hg6⟩; clear HQ5; have HC6 := hide (HC5.out.then hg6 (fun j _ e => by simp at e)); have HT6 := hide ((tab_new h4.out.2.1).chg HC6.out (by have := hlq.out; simp; omega) (fun m e => by cases e))) | (go_at_call 33; refine (tput_any gt 0 none _ kk 1 w6 HT6.out kk_size lt0 wf1).mono ?_; rintro e w7 ⟨rfl, ⟨m7, hm7, hT7⟩, hC7⟩; have HT7 := hide hT7; have HM7 := hide hm7; have HC7 := hide hC7; clear hT7 hm7 hC7 HT6; rw [hD1]))
  go_wp2_with (first | (go_at_call 33; refine (tput_any gt 1 (some m7) _ kk 2 w7 HT7.out kk_size lt1 wf2).mono ?_; rintro e w8 ⟨rfl, ⟨m8, hm8, hT8⟩, hC8⟩; have HT8 := hide hT8; have HC8 := hide hC8; clear hT8 hm8 hC8 HT7; rw [hD2]) | (go_at_call 35; refine (tget_any gt (some m8) _ _ kk w8 HT8.out kk_size).mono ?_; rintro e w9 ⟨c, hc, rfl, hw9⟩; subst hw9; obtain rfl := HD3.out c hc; rw [hD4]; obtain ⟨HCA, HSA, HTA, HGA⟩ := awake_fin HT hz hg1 h2 h3 h4 hgs4 hlq HC6 HC7 HC8 HM7) | (refine wpList_load_row rfl 27 (.tmp 1) rfl gs rfl 27 ds _ HSA.out Tryd.underlying27 rfl (by rw [hds.1]; exact info27) ?_) | (go_at_call 20; refine (all_any (.agg ds) _ _ ⟨ds, rfl, hds⟩ HTA.out).mono ?_; rintro e wa ⟨u, rfl, hu, hga⟩; rw [mem535] at hu; have HU := hide hu; have HGB := hide hga; have HL2 := hide (ints_lit (xs := [3, 5]) (heap_alloc_new wa (.cells #[.int .i64 3, .int .i64 5] 3)) (by decide)); clear hu hga) | (go_at_call 19; refine (sameInts_any _ _ [3, 5] _ ((ArgsO.v HU.out).below (bel1' wa _)) HL2.out (by decide)).mono ?_; rintro e wb ⟨rfl, hgb⟩))
  go_ret
  exact ⟨rfl, ((HGA.out.trans HGB.out).trans (World.grownBy_alloc wa _ none)).trans hgb⟩
end Go.Proofs.YtdeebmpmfedjbaaDoor
