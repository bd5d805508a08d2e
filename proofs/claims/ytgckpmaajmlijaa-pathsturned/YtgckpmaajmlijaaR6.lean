/- slices.Reverse of numbers. -/
import Derived.Test.YtgckpmaajmlijaaGn
import Derived.BigRegion
namespace Go.Proofs.Ytgckpmaajmlijaa
open Go.RowKit Ir Wy

theorem gr_set (w : World) (b i : Nat) (v : Value) : w.grownBy (w.setCell ⟨b, i, none⟩ v) (some b) :=
  ⟨rfl, rfl, rfl, by simp [World.setCell], fun k _ h => Below.heap_setCell _ _ _ _ (fun e => h (by rw [e]))⟩
/-- One number of a row of one's own is written. -/
theorem ArgsO.put {B g c n : Nat} {w : World} {ys : List Int} (h : ArgsO B w (.slice (some ⟨g, 0, none⟩) n c) ys) (i : Nat) (_ : i < ys.length) (z : Int) : ArgsO B (w.setCell ⟨g, i, none⟩ (.int .i64 z)) (.slice (some ⟨g, 0, none⟩) n c) (ys.set i z) := by
  rcases h.ways with ⟨e, _⟩ | ⟨g', cap, cur, e, hb, hg, hle, hm, hs, ht⟩
  · cases e
  · simp only [Value.slice.injEq, Option.some.injEq, Addr.mk.injEq, and_true] at e
    obtain ⟨rfl, rfl, rfl⟩ := e
    refine ⟨by simp, .inr ⟨g, c, cur.setIfInBounds i (.int .i64 z), by simp, hb, ?_, by simpa using hle, hm, by simpa using hs, ?_⟩⟩
    · simp [World.setCell, Array.getElem?_modify, hg]
    · rw [Array.toList_setIfInBounds, List.length_set, Nat.mul_one, List.take_set, ht, List.map_set]
theorem ArgsO.cells {B g c n : Nat} {w : World} {ys : List Int} (h : ArgsO B w (.slice (some ⟨g, 0, none⟩) n c) ys) (i : Nat) (hi : i < ys.length) : w.cell? ⟨g, i, none⟩ = some (.int .i64 (ys.getD i 0)) ∧ w.frozen? ⟨g, i, none⟩ = false := by
  refine ⟨?_, ?_⟩
  · obtain ⟨b, off, e, h1⟩ := h.v.at i hi
    rcases h.ways with ⟨e2, _⟩ | ⟨g', cap, cur, e2, hb, hg, hle, hm, hs, ht⟩
    · cases e2
    · simp only [Option.some.injEq, Addr.mk.injEq, and_true] at e
      obtain ⟨rfl, rfl⟩ := e
      simpa using h1
  · rcases h.ways with ⟨e2, _⟩ | ⟨g', cap, cur, e2, hb, hg, hle, hm, hs, ht⟩
    · cases e2
    · simp only [Value.slice.injEq, Option.some.injEq, Addr.mk.injEq, and_true] at e2
      obtain ⟨rfl, _, _⟩ := e2
      exact frozen_of_row _ _ _ _ _ hg
/-- k numbers from both ends have changed places. -/
structure RvD (xs : List Int) (k : Nat) (ys : List Int) : Prop where
  len : ys.length = xs.length
  at' : ∀ m, m < xs.length → ys.getD m 0 = if m < k ∨ xs.length < m + 1 + k then xs.getD (xs.length - 1 - m) 0 else xs.getD m 0
theorem getD_set (l : List Int) (i : Nat) (z : Int) (m : Nat) (hm : m < l.length) : (l.set i z).getD m 0 = if i = m then z else l.getD m 0 := by
  rw [getD_get _ _ _ (by simpa using hm), List.getElem_set, getD_get _ _ _ hm]
theorem RvD.step {xs ys : List Int} {k : Nat} (h : RvD xs k ys) (hk : 2 * k + 1 < xs.length) : RvD xs (k + 1) ((ys.set k (ys.getD (xs.length - 1 - k) 0)).set (xs.length - 1 - k) (ys.getD k 0)) := by
  have hl := h.len
  refine ⟨by simp [h.len], fun m hm => ?_⟩
  rw [getD_set _ _ _ _ (by simp; omega), getD_set _ _ _ _ (by omega), h.at' k (by omega), h.at' (xs.length - 1 - k) (by omega), h.at' m hm]
  by_cases e1 : xs.length - 1 - k = m
  · rw [if_pos e1, if_neg (by omega), if_pos (by omega), show xs.length - 1 - m = k by omega]
  · rw [if_neg e1]
    by_cases e2 : k = m
    · subst e2
      rw [if_pos rfl, if_neg (by omega), if_pos (by omega)]
    · rw [if_neg e2]
      by_cases e3 : m < k ∨ xs.length < m + 1 + k
      · rw [if_pos e3, if_pos (by omega)]
      · rw [if_neg e3, if_neg (by omega)]
theorem RvD.done {xs ys : List Int} {k : Nat} (h : RvD xs k ys) (hk : xs.length ≤ 2 * k + 1) : ys = xs.reverse := by
  refine List.ext_getElem (by simp [h.len]) fun m h1 h2 => ?_
  have hm : m < xs.length := by rw [← h.len]; exact h1
  have := h.at' m hm
  rw [getD_get _ _ _ h1] at this
  rw [this, List.getElem_reverse]
  by_cases e : m < k ∨ xs.length < m + 1 + k
  · rw [if_pos e, getD_get _ _ _ (by omega)]
  · rw [if_neg e, getD_get _ _ _ hm]
    congr 1
    omega
theorem RvD.start (xs : List Int) : RvD xs 0 xs := ⟨rfl, fun m hm => by rw [if_neg (by omega)]⟩
set_option maxHeartbeats 4000000 in
set_option maxRecDepth 100000 in
theorem reverse_any (B : Nat) (v : Value) (xs : List Int) (w : World) (h : ArgsO B w v xs) (hl : xs.length ≤ 1000000) :
    Calls Try.prog 28 #[v] w fun e w' => e = .returned (.tuple #[]) ∧ ArgsO B w' v xs.reverse ∧ w.grownBy w' v.ownBlock := by
  rcases h.ways with ⟨rfl, rfl⟩ | ⟨g, cap, cur, rfl, hb, hg, hle, hm, hs, ht⟩
  · have H := hide h
    clear h
    go_enter Try.func28, Try.ntmps28
    go_wp2_with fail
    go_loop [2, 3] (fun iv jv => iv = .int .i64 0 ∧ jv = .int .i64 (-1)) (fun _ _ => 0)
    case atStart => exact ⟨rfl, rfl⟩
    case round =>
      obtain ⟨rfl, rfl⟩ := hrel
      go_wp2_with fail
      go_end0
      exact ⟨rfl, H.out, ⟨rfl, rfl, rfl, Nat.le_refl _, fun _ _ _ => rfl⟩⟩
  · have H := hide h
    clear h hb hg hle hm hs ht
    go_enter Try.func28, Try.ntmps28
    go_wp2_with fail
    go_loopw [2, 3] (fun iv jv wr => ∃ (k : Nat) (ys : List Int), iv = .int .i64 k ∧ jv = .int .i64 ((xs.length : Int) - 1 - k) ∧ 2 * k ≤ xs.length + 1 ∧ Hid (RvD xs k ys) ∧ Hid (ArgsO B wr (.slice (some ⟨g, 0, none⟩) xs.length cap) ys) ∧ Hid (w.grownBy wr (some g))) (fun iv _ _ => xs.length - (intOf iv).toNat)
    case atStart => exact ⟨0, xs, rfl, by simp, by omega, RvD.start xs, H, hide ⟨rfl, rfl, rfl, Nat.le_refl _, fun _ _ _ => rfl⟩⟩
    case round =>
      obtain ⟨k, ys, rfl, rfl, hk2, hR, hO, hG⟩ := hrel
      by_cases hlt : 2 * k + 1 < xs.length
      · have hj : (xs.length : Int) - 1 - k = ((xs.length - 1 - k : Nat) : Int) := by omega
        have hlt' : (k : Int) < ((xs.length - 1 - k : Nat) : Int) := by omega
        have hkl : (k : Int) < (xs.length : Int) := by omega
        have hjl : ((xs.length - 1 - k : Nat) : Int) < (xs.length : Int) := by omega
        have hyl := hR.out.len
        rw [hj]
        have hO1 := hO.out.put k (by omega) (ys.getD (xs.length - 1 - k) 0)
        have hO2 := hide (hO1.put (xs.length - 1 - k) (by simp; omega) (ys.getD k 0))
        have hR2 := hide (hR.out.step hlt)
        obtain ⟨a1, a2⟩ := hO.out.cells k (by omega)
        obtain ⟨b1, b2⟩ := hO.out.cells (xs.length - 1 - k) (by omega)
        have hne : k ≠ xs.length - 1 - k := by omega
        have hjj := hide (show ((xs.length - 1 - k : Nat) : Int) - 1 = (xs.length : Int) - 1 - ((k + 1 : Nat) : Int) by omega)
        have hG2 := hide ((hG.out.trans (gr_set wr g k (.int .i64 (ys.getD (xs.length - 1 - k) 0)))).trans (gr_set _ g (xs.length - 1 - k) (.int .i64 (ys.getD k 0))))
        clear hO1 hj
        generalize ys.getD (xs.length - 1 - k) 0 = yj at *
        generalize ys.getD k 0 = yk at *
        generalize hje : xs.length - 1 - k = j at *
        clear hje
        go_wp2_with fail
        go_region
        go_wp2_with fail
        go_roundw
        case rel => exact ⟨k + 1, _, by go_num, by rw [hjj.out], by omega, hR2, hide (hO2.out.below (Below.refl _ _).drew), hide (hG2.out.trans ⟨rfl, rfl, rfl, Nat.le_refl _, fun _ _ _ => rfl⟩)⟩
        case measure => simp [intOf]; omega
      · have hlt' : ¬ (k : Int) < (xs.length : Int) - 1 - k := by omega
        have hfin := hide (hR.out.done (by omega))
        go_wp2_with fail
        go_end0
        exact ⟨rfl, by rw [← hfin.out]; exact hO.out, hG.out⟩
end Go.Proofs.Ytgckpmaajmlijaa
