/- leb.New: a reader of a copy of the bytes. -/
import Derived.Test.YtlonniegaaocoaaPut
namespace Go.Proofs.Ytlonniegaaocoaa
open Go.RowKit

set_option maxHeartbeats 400000 in
set_option maxRecDepth 100000 in
theorem new_any (v : Value) (xs : List Int) (w : World) (hv : Byt w v xs) (hx : xs.length ≤ 1000000000) :
    Calls Try.prog 25 #[v] w fun e w' => ∃ p b, e = .returned (.pointer (some ⟨p, 0, none⟩)) ∧ w.heap.size ≤ p ∧ w.heap.size ≤ b ∧ b < w'.heap.size ∧ RdrAt w' p b xs 0 ∧ Below w.heap.size w w' := by
  obtain ⟨b, hb0, ao, cap, rfl, hlc, hcm, hao, hcell⟩ := hv
  obtain ⟨i0, hi, hz0, hz1, hz2⟩ := info_parts info5
  unfold maxLen at hcm
  go_enter Try.func25, Try.ntmps25
  go_wp2_with (at_make; go_must (refine wpList_make_lc _ rfl (.tmp 5) (.tmp 5) 22 rfl 5 i0 Try.underlying22 hi hz0 hz1 .i64 .i64 _ _ xs.length xs.length rfl rfl (by simp) (by simp) (by omega) (by rw [hz2]; omega) (by unfold maxLen; omega) ?_))
  intro w1 HG hB hz
  obtain ⟨X, hX⟩ : ∃ X, X = xs.map (Value.int .u8) := ⟨_, rfl⟩
  have hXl : X.length = xs.length := by rw [hX]; simp
  have HX := hide hX
  clear hX
  go_wp2_with (refine wpList_copy_splice rfl (.tmp 7) (.tmp 8) 22 22 rfl 5 Try.underlying22 size5 _ _ _ _ _ _ rfl rfl w.heap.size 0 (zrow xs.length) 5 HG.out X ?_ ?_ ?_ ?_ w.heap.size w hB (Nat.le_refl _) ?_)
  · rw [hXl]; simp
  · intro hp
    obtain ⟨off, rfl, hc⟩ := hcell (by omega)
    refine ⟨_, rfl, fun j u hj => ?_⟩
    rw [HX.out] at hj
    have hjl : j < xs.length := by
      rcases Nat.lt_or_ge j xs.length with h | h
      · exact h
      · simp [List.getElem?_eq_none h] at hj
    have hlt : b < w.heap.size := World.block_lt_of_cell? w _ (hc 0 (by omega))
    rw [Addr.add_lit, hB.cell (p := ⟨b, off + j, none⟩) hlt, hc j hjl]
    simp [List.getElem?_eq_getElem hjl] at hj
    simp [hj, List.getElem?_eq_getElem hjl]
  · rw [zrow_length, hXl]; omega
  · intro u hu
    rw [HX.out] at hu
    obtain ⟨x, _, rfl⟩ := List.mem_map.1 hu
    rfl
  intro w2 HG2 hB2
  have hzw2 : w.heap.size < w2.heap.size := (Array.getElem?_eq_some_iff.1 HG2.out).1
  have hown0 := owns_of_splice (n := xs.length) (cap := xs.length) HG2.out (Nat.le_refl _) hXl (by omega) (by unfold maxLen; omega)
  rw [HX.out] at hown0
  clear HG2 HG HX hXl hcell
  obtain ⟨g, hwg, hg, hbyt⟩ : ∃ g, w.heap.size ≤ g ∧ g < w2.heap.size ∧ BytAt g w2 (.slice (some ⟨w.heap.size, 0, none⟩) xs.length xs.length) xs := by
    obtain ⟨g, hwg, h⟩ := BytAt.of_owns hown0 hb0
    by_cases h0 : 0 < xs.length
    · exact ⟨g, hwg, h.lt h0, h⟩
    · exact ⟨w.heap.size, Nat.le_refl _, hzw2, h.1, _, _, rfl, Nat.le_refl _, by unfold maxLen; omega, fun e => by simp at e, fun hp => absurd hp h0⟩
  have hR := RdrAt.new (t := 66) (code := 0) hbyt hg
  have hB3 := hB2.alloc (by omega) (.cells #[.slice (some ⟨w.heap.size, 0, none⟩) xs.length xs.length, .int .i64 0] 66)
  clear hown0 hbyt hB hB2
  go_wp2
  go_ret
  exact ⟨_, g, rfl, by omega, hwg, by simp; omega, hR, hB3⟩
end Go.Proofs.Ytlonniegaaocoaa
