/- The chapter's example. -/
import Derived.Test.YtgckpmaajmlijaaR8
import Derived.Test.YtgckpmaajmlijaaR9
import Derived.Test.YtgckpmaajmlijaaSame
namespace Go.Proofs.Ytgckpmaajmlijaa
open Go.RowKit Ir Wy

def esA : List En := [⟨2, 0, 2, 1⟩, ⟨1, 0, 3, 0⟩, ⟨1, 0, 3, 0⟩, ⟨3, 0, 0, 0⟩]
def cellsA : Array Value := #[.slice none 0 0, .int .u8 2, .int .i64 0, .int .i64 2, .int .i64 1, .slice none 0 0, .int .u8 1, .int .i64 0, .int .i64 3, .int .i64 0, .slice none 0 0, .int .u8 1, .int .i64 0, .int .i64 3, .int .i64 0, .slice none 0 0, .int .u8 3, .int .i64 0, .int .i64 0, .int .i64 0]
theorem inA : EndsIn esA := by
  intro e he x hx
  simp only [esA, List.mem_cons, List.not_mem_nil, or_false] at he
  rcases he with rfl | rfl | rfl | rfl <;> simp [fol] at hx <;> simp [esA] <;> omega
theorem ordA : ci (ordD (nxE esA) 4) = [0, 1, 2, 3] := by decide +kernel
theorem ahdA : (((List.range 4).map fun b => ci (ahd (nxE esA) 4 b)).getD 3 []) = [1, 2] := by decide +kernel
theorem endsA (w : World) : EndsV (w.alloc (.cells cellsA 49)) (.slice (some ⟨w.heap.size, 0, none⟩) 4 4) esA := by
  refine ⟨some ⟨w.heap.size, 0, none⟩, 4, rfl, Nat.le_refl _, by unfold maxLen; omega, fun e => by simp at e, fun _ => ⟨w.heap.size, 0, rfl, fun j hj => ?_⟩⟩
  have hc : ∀ i u, cellsA[i]? = some u → (w.alloc (.cells cellsA 49)).cell? ⟨w.heap.size, i, none⟩ = some u := fun i u h => by
    rw [cell_of_row _ _ _ _ _ _ (heap_alloc_new w (.cells cellsA 49))]
    exact h
  have hj4 : j < 4 := hj
  rcases (by omega : j = 0 ∨ j = 1 ∨ j = 2 ∨ j = 3) with rfl | rfl | rfl | rfl <;> exact ⟨hc _ _ rfl, hc _ _ rfl, hc _ _ rfl, hc _ _ rfl⟩
theorem row_ints (W : World) (l : List Int) (cs : Array Value) (hc : cs = (l.map (Value.int .i64)).toArray) (n : Nat) (hn : n = l.length) (hl : l.length ≤ 1000) : IntsV (W.alloc (.cells cs 3)) (.slice (some ⟨W.heap.size, 0, none⟩) n n) l := by
  subst hc
  subst hn
  refine ⟨some ⟨W.heap.size, 0, none⟩, l.length, rfl, Nat.le_refl _, by unfold maxLen; omega, fun e => by simp at e, fun _ => ⟨W.heap.size, 0, rfl, fun j hj => ?_⟩⟩
  show World.cell? _ _ = _
  rw [Nat.zero_add, Nat.mul_one, cell_of_row _ _ _ _ _ _ (heap_alloc_new W _)]
  simp [List.getElem?_eq_getElem hj]
set_option maxHeartbeats 1000000 in
set_option maxRecDepth 100000 in
theorem awake_any (w : World) : Calls Try.prog 7 #[] w fun e w' => e = .returned (.bool true) ∧ Below w.heap.size w w' := by
  have hE := hide (endsA w)
  have hB := hide (bel1' w (.cells cellsA 49))
  have hO := hide (order_any _ _ esA hE.out inA (by decide) (by decide))
  unfold cellsA at hE hB hO
  go_enter Try.func7, Try.ntmps7
  go_wp2_with fail
  refine hO.out.mono ?_
  rintro e w2 ⟨u, rfl, hu, hB2⟩
  have HU : Hid (ArgsO (w.heap.size + 1) w2 u [0, 1, 2, 3]) := hide (by
    have h1 := hu
    rw [show esA.length = 4 from rfl, ordA] at h1
    simpa using h1)
  have HB2 := hide (bel_of hB.out hB2)
  have HE2 := hide (hE.out.below hB2)
  clear hu hB2 hO hE hB
  have hr := hide (row_ints w2 [0, 1, 2, 3] #[.int .i64 0, .int .i64 1, .int .i64 2, .int .i64 3] rfl 4 rfl (by decide))
  have hs := hide (sameInts_any u _ [0, 1, 2, 3] _ (HU.out.v.below (bel1' w2 (.cells #[.int .i64 0, .int .i64 1, .int .i64 2, .int .i64 3] 3))) hr.out (by decide))
  have hb3 := hide (bel1' w2 (.cells #[.int .i64 0, .int .i64 1, .int .i64 2, .int .i64 3] 3))
  go_wp2_with fail
  refine hs.out.mono ?_
  rintro e w3 ⟨rfl, hB3⟩
  have HB3 := hide (bel_of HB2.out (bel_of hb3.out hB3))
  have HE3 := hide (HE2.out.below (bel_of hb3.out hB3))
  clear hB3 hr hs hb3 HE2 HB2 HU
  go_wp2_with fail
  refine (ahead_any w3 _ esA HE3.out inA (by decide)).mono ?_
  rintro e w4 ⟨v, rfl, hv, hB4⟩
  have HB4 := hide (bel_of HB3.out hB4)
  obtain ⟨ao, c, rfl⟩ := hv.slice
  obtain ⟨g, off, x, rfl, hx, hI⟩ := hv.at 3 (by decide)
  rw [show esA.length = 4 from rfl, ahdA] at hI
  have HI := hide hI
  have hl4 : ((List.range esA.length).map fun b => ci (ahd (nxE esA) esA.length b)).length = 4 := by rw [List.length_map, List.length_range]; rfl
  rw [hl4]
  obtain ⟨ax, cx, rfl⟩ := hI.slice
  have hr := hide (row_ints w4 [1, 2] #[.int .i64 1, .int .i64 2] rfl 2 rfl (by decide))
  have hs := hide (sameInts_any _ _ [1, 2] _ (HI.out.below (bel1' w4 (.cells #[.int .i64 1, .int .i64 2] 3))) hr.out (by decide))
  have hb5 := hide (bel1' w4 (.cells #[.int .i64 1, .int .i64 2] 3))
  clear hv hB4 hI hl4 hr
  go_wp2_with fail
  refine hs.out.mono ?_
  rintro e w6 ⟨rfl, hB6⟩
  have HB6 := hide (bel_of HB4.out (bel_of hb5.out hB6))
  clear hs hB6
  go_wp2_with fail
  go_ret
  exact ⟨rfl, HB6.out⟩
end Go.Proofs.Ytgckpmaajmlijaa
