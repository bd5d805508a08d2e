/- The document's End, of registers. -/
import Derived.Test.YtbjnhicikkjadaaIr
import Derived.Test.YtbjnhicikkjadaaEnds
namespace Go.Proofs.Ytbjnhicikkjadaa
open Go.RowKit Ir
theorem meF_k1 {a t l v nb : Int} : meF ⟨1, a, t, l⟩ v nb = if a = 0 ∧ l = 0 then (if 0 ≤ t ∧ t < nb then 0 else 22) else 20 := by
  unfold meF
  rw [endF_k1]
  by_cases h : a = 0 ∧ l = 0 <;> by_cases h2 : 0 ≤ t ∧ t < nb <;> simp [h, h2, ofR]
theorem meF_k2 {a t l v nb : Int} : meF ⟨2, a, t, l⟩ v nb = if 0 ≤ a ∧ a < v then (if 0 ≤ t ∧ t < nb ∧ 0 ≤ l ∧ l < nb then 0 else 22) else 23 := by
  unfold meF
  rw [endF_k2]
  by_cases h : 0 ≤ a ∧ a < v <;> by_cases h2 : 0 ≤ t ∧ t < nb ∧ 0 ≤ l ∧ l < nb <;> simp [h, h2, ofR]
theorem meF_k3 {a t l v nb : Int} : meF ⟨3, a, t, l⟩ v nb = if t = 0 ∧ l = 0 then (if 0 ≤ a ∧ a < v then 0 else 23) else 20 := by
  unfold meF
  rw [endF_k3]
  by_cases h : t = 0 ∧ l = 0 <;> by_cases h1 : 0 ≤ a ∧ a < v <;> simp [h, h1, ofR]
theorem meF_kx {k a t l v nb : Int} (h1 : k ≠ 1) (h2 : k ≠ 2) (h3 : k ≠ 3) : meF ⟨k, a, t, l⟩ v nb = 20 := by
  unfold meF
  rw [endF_kx h1 h2 h3]
  rfl
set_option maxHeartbeats 1000000 in
set_option maxRecDepth 100000 in
theorem rEnd_k1a (a t l v nb : Int) (w : World) (h : a ≠ 0) : Calls Try.prog 62 #[endV ⟨1, a, t, l⟩, .int .i64 v, .int .i64 nb, .int .i64 23] w fun r w' => r = .returned (.int .i64 (meF ⟨1, a, t, l⟩ v nb)) ∧ Below w.heap.size w w' := by
  have he : Hid (meF ⟨1, a, t, l⟩ v nb = 20) := by
    show _ = _
    simp [meF_k1, h]
  have hB0 := bel1 w (.cells #[.int .u8 1, .int .i64 a, .int .i64 t, .int .i64 l] 79)
  unfold endV
  have b : (a == 0) = false := by simpa using h
  have b2 : (a != 0) = true := by simpa using h
  go_enter Try.func62, Try.ntmps62
  go_wp2_with fail
  go_ret
  exact ⟨by rw [he.out]; rfl, hB0⟩
set_option maxHeartbeats 1000000 in
set_option maxRecDepth 100000 in
theorem rEnd_k1b (t l v nb : Int) (w : World) (h : l ≠ 0) : Calls Try.prog 62 #[endV ⟨1, 0, t, l⟩, .int .i64 v, .int .i64 nb, .int .i64 23] w fun r w' => r = .returned (.int .i64 (meF ⟨1, 0, t, l⟩ v nb)) ∧ Below w.heap.size w w' := by
  have he : Hid (meF ⟨1, 0, t, l⟩ v nb = 20) := by
    show _ = _
    simp [meF_k1, h]
  have hB0 := bel1 w (.cells #[.int .u8 1, .int .i64 0, .int .i64 t, .int .i64 l] 79)
  unfold endV
  have b : (l == 0) = false := by simpa using h
  have b2 : (l != 0) = true := by simpa using h
  go_enter Try.func62, Try.ntmps62
  go_wp2_with fail
  go_ret
  exact ⟨by rw [he.out]; rfl, hB0⟩
set_option maxHeartbeats 1000000 in
set_option maxRecDepth 100000 in
theorem rEnd_k1c (t v nb : Int) (w : World) (h : t < 0) : Calls Try.prog 62 #[endV ⟨1, 0, t, 0⟩, .int .i64 v, .int .i64 nb, .int .i64 23] w fun r w' => r = .returned (.int .i64 (meF ⟨1, 0, t, 0⟩ v nb)) ∧ Below w.heap.size w w' := by
  have he : Hid (meF ⟨1, 0, t, 0⟩ v nb = 22) := by
    show _ = _
    rw [meF_k1, if_pos ⟨rfl, rfl⟩, if_neg (by omega)]
  have hB0 := bel1 w (.cells #[.int .u8 1, .int .i64 0, .int .i64 t, .int .i64 0] 79)
  have hT := hide (takes_any ⟨1, 0, t, 0⟩ (w.alloc (.cells #[.int .u8 1, .int .i64 0, .int .i64 t, .int .i64 0] 79)))
  have htk : takes 1 = false := rfl
  simp only [htk] at hT
  clear htk
  unfold endV at hT ⊢
  go_enter Try.func62, Try.ntmps62
  go_wp2_with fail
  refine hT.out.mono ?_
  rintro r w1 ⟨rfl, hB1⟩
  have c0 := box_cell hB1 0 rfl
  have c1 := box_cell hB1 1 rfl
  have c2 := box_cell hB1 2 rfl
  have c3 := box_cell hB1 3 rfl
  have hBw := bel_of hB0 hB1
  clear hT hB0 hB1
  go_wp2_with fail
  go_ret
  exact ⟨by rw [he.out]; rfl, hBw⟩
set_option maxHeartbeats 1000000 in
set_option maxRecDepth 100000 in
theorem rEnd_k1d (t v nb : Int) (w : World) (h1 : 0 ≤ t) (h : nb ≤ t) : Calls Try.prog 62 #[endV ⟨1, 0, t, 0⟩, .int .i64 v, .int .i64 nb, .int .i64 23] w fun r w' => r = .returned (.int .i64 (meF ⟨1, 0, t, 0⟩ v nb)) ∧ Below w.heap.size w w' := by
  have he : Hid (meF ⟨1, 0, t, 0⟩ v nb = 22) := by
    show _ = _
    rw [meF_k1, if_pos ⟨rfl, rfl⟩, if_neg (by omega)]
  have hB0 := bel1 w (.cells #[.int .u8 1, .int .i64 0, .int .i64 t, .int .i64 0] 79)
  have hT := hide (takes_any ⟨1, 0, t, 0⟩ (w.alloc (.cells #[.int .u8 1, .int .i64 0, .int .i64 t, .int .i64 0] 79)))
  have htk : takes 1 = false := rfl
  simp only [htk] at hT
  clear htk
  unfold endV at hT ⊢
  go_enter Try.func62, Try.ntmps62
  go_wp2_with fail
  refine hT.out.mono ?_
  rintro r w1 ⟨rfl, hB1⟩
  have c0 := box_cell hB1 0 rfl
  have c1 := box_cell hB1 1 rfl
  have c2 := box_cell hB1 2 rfl
  have c3 := box_cell hB1 3 rfl
  have hBw := bel_of hB0 hB1
  clear hT hB0 hB1
  go_wp2_with fail
  go_ret
  exact ⟨by rw [he.out]; rfl, hBw⟩
set_option maxHeartbeats 1000000 in
set_option maxRecDepth 100000 in
theorem rEnd_k1e (t v nb : Int) (w : World) (h1 : 0 ≤ t) (h : t < nb) : Calls Try.prog 62 #[endV ⟨1, 0, t, 0⟩, .int .i64 v, .int .i64 nb, .int .i64 23] w fun r w' => r = .returned (.int .i64 (meF ⟨1, 0, t, 0⟩ v nb)) ∧ Below w.heap.size w w' := by
  have he : Hid (meF ⟨1, 0, t, 0⟩ v nb = 0) := by
    show _ = _
    rw [meF_k1, if_pos ⟨rfl, rfl⟩, if_pos (by omega)]
  have hB0 := bel1 w (.cells #[.int .u8 1, .int .i64 0, .int .i64 t, .int .i64 0] 79)
  have hT := hide (takes_any ⟨1, 0, t, 0⟩ (w.alloc (.cells #[.int .u8 1, .int .i64 0, .int .i64 t, .int .i64 0] 79)))
  have htk : takes 1 = false := rfl
  simp only [htk] at hT
  clear htk
  unfold endV at hT ⊢
  go_enter Try.func62, Try.ntmps62
  go_wp2_with fail
  refine hT.out.mono ?_
  rintro r w1 ⟨rfl, hB1⟩
  have c0 := box_cell hB1 0 rfl
  have c1 := box_cell hB1 1 rfl
  have c2 := box_cell hB1 2 rfl
  have c3 := box_cell hB1 3 rfl
  have hBw := bel_of hB0 hB1
  clear hT hB0 hB1
  go_wp2_with fail
  go_ret
  exact ⟨by rw [he.out]; rfl, hBw⟩
set_option maxHeartbeats 1000000 in
set_option maxRecDepth 100000 in
theorem rEnd_k2a (a t l v nb : Int) (w : World) (h : a < 0) : Calls Try.prog 62 #[endV ⟨2, a, t, l⟩, .int .i64 v, .int .i64 nb, .int .i64 23] w fun r w' => r = .returned (.int .i64 (meF ⟨2, a, t, l⟩ v nb)) ∧ Below w.heap.size w w' := by
  have he : Hid (meF ⟨2, a, t, l⟩ v nb = 23) := by
    show _ = _
    rw [meF_k2, if_neg (by omega)]
  have hB0 := bel1 w (.cells #[.int .u8 2, .int .i64 a, .int .i64 t, .int .i64 l] 79)
  have hT := hide (takes_any ⟨2, a, t, l⟩ (w.alloc (.cells #[.int .u8 2, .int .i64 a, .int .i64 t, .int .i64 l] 79)))
  have htk : takes 2 = true := rfl
  simp only [htk] at hT
  clear htk
  unfold endV at hT ⊢
  go_enter Try.func62, Try.ntmps62
  go_wp2_with fail
  refine hT.out.mono ?_
  rintro r w1 ⟨rfl, hB1⟩
  have c0 := box_cell hB1 0 rfl
  have c1 := box_cell hB1 1 rfl
  have c2 := box_cell hB1 2 rfl
  have c3 := box_cell hB1 3 rfl
  have hBw := bel_of hB0 hB1
  clear hT hB0 hB1
  go_wp2_with fail
  go_ret
  exact ⟨by rw [he.out]; rfl, hBw⟩
set_option maxHeartbeats 1000000 in
set_option maxRecDepth 100000 in
theorem rEnd_k2b (a t l v nb : Int) (w : World) (h1 : 0 ≤ a) (h : v ≤ a) : Calls Try.prog 62 #[endV ⟨2, a, t, l⟩, .int .i64 v, .int .i64 nb, .int .i64 23] w fun r w' => r = .returned (.int .i64 (meF ⟨2, a, t, l⟩ v nb)) ∧ Below w.heap.size w w' := by
  have he : Hid (meF ⟨2, a, t, l⟩ v nb = 23) := by
    show _ = _
    rw [meF_k2, if_neg (by omega)]
  have hB0 := bel1 w (.cells #[.int .u8 2, .int .i64 a, .int .i64 t, .int .i64 l] 79)
  have hT := hide (takes_any ⟨2, a, t, l⟩ (w.alloc (.cells #[.int .u8 2, .int .i64 a, .int .i64 t, .int .i64 l] 79)))
  have htk : takes 2 = true := rfl
  simp only [htk] at hT
  clear htk
  unfold endV at hT ⊢
  go_enter Try.func62, Try.ntmps62
  go_wp2_with fail
  refine hT.out.mono ?_
  rintro r w1 ⟨rfl, hB1⟩
  have c0 := box_cell hB1 0 rfl
  have c1 := box_cell hB1 1 rfl
  have c2 := box_cell hB1 2 rfl
  have c3 := box_cell hB1 3 rfl
  have hBw := bel_of hB0 hB1
  clear hT hB0 hB1
  go_wp2_with fail
  go_ret
  exact ⟨by rw [he.out]; rfl, hBw⟩
set_option maxHeartbeats 1000000 in
set_option maxRecDepth 100000 in
theorem rEnd_k2c (a t l v nb : Int) (w : World) (a1 : 0 ≤ a) (a2 : a < v) (h : t < 0) : Calls Try.prog 62 #[endV ⟨2, a, t, l⟩, .int .i64 v, .int .i64 nb, .int .i64 23] w fun r w' => r = .returned (.int .i64 (meF ⟨2, a, t, l⟩ v nb)) ∧ Below w.heap.size w w' := by
  have he : Hid (meF ⟨2, a, t, l⟩ v nb = 22) := by
    show _ = _
    rw [meF_k2, if_pos (by omega), if_neg (by omega)]
  have hB0 := bel1 w (.cells #[.int .u8 2, .int .i64 a, .int .i64 t, .int .i64 l] 79)
  have hT := hide (takes_any ⟨2, a, t, l⟩ (w.alloc (.cells #[.int .u8 2, .int .i64 a, .int .i64 t, .int .i64 l] 79)))
  have htk : takes 2 = true := rfl
  simp only [htk] at hT
  clear htk
  unfold endV at hT ⊢
  go_enter Try.func62, Try.ntmps62
  go_wp2_with fail
  refine hT.out.mono ?_
  rintro r w1 ⟨rfl, hB1⟩
  have c0 := box_cell hB1 0 rfl
  have c1 := box_cell hB1 1 rfl
  have c2 := box_cell hB1 2 rfl
  have c3 := box_cell hB1 3 rfl
  have hBw := bel_of hB0 hB1
  clear hT hB0 hB1
  go_wp2_with fail
  go_ret
  exact ⟨by rw [he.out]; rfl, hBw⟩
set_option maxHeartbeats 1000000 in
set_option maxRecDepth 100000 in
theorem rEnd_k2d (a t l v nb : Int) (w : World) (a1 : 0 ≤ a) (a2 : a < v) (t1 : 0 ≤ t) (h : nb ≤ t) : Calls Try.prog 62 #[endV ⟨2, a, t, l⟩, .int .i64 v, .int .i64 nb, .int .i64 23] w fun r w' => r = .returned (.int .i64 (meF ⟨2, a, t, l⟩ v nb)) ∧ Below w.heap.size w w' := by
  have he : Hid (meF ⟨2, a, t, l⟩ v nb = 22) := by
    show _ = _
    rw [meF_k2, if_pos (by omega), if_neg (by omega)]
  have hB0 := bel1 w (.cells #[.int .u8 2, .int .i64 a, .int .i64 t, .int .i64 l] 79)
  have hT := hide (takes_any ⟨2, a, t, l⟩ (w.alloc (.cells #[.int .u8 2, .int .i64 a, .int .i64 t, .int .i64 l] 79)))
  have htk : takes 2 = true := rfl
  simp only [htk] at hT
  clear htk
  unfold endV at hT ⊢
  go_enter Try.func62, Try.ntmps62
  go_wp2_with fail
  refine hT.out.mono ?_
  rintro r w1 ⟨rfl, hB1⟩
  have c0 := box_cell hB1 0 rfl
  have c1 := box_cell hB1 1 rfl
  have c2 := box_cell hB1 2 rfl
  have c3 := box_cell hB1 3 rfl
  have hBw := bel_of hB0 hB1
  clear hT hB0 hB1
  go_wp2_with fail
  go_ret
  exact ⟨by rw [he.out]; rfl, hBw⟩
set_option maxHeartbeats 1000000 in
set_option maxRecDepth 100000 in
theorem rEnd_k2e (a t l v nb : Int) (w : World) (a1 : 0 ≤ a) (a2 : a < v) (t1 : 0 ≤ t) (t2 : t < nb) (h : l < 0) : Calls Try.prog 62 #[endV ⟨2, a, t, l⟩, .int .i64 v, .int .i64 nb, .int .i64 23] w fun r w' => r = .returned (.int .i64 (meF ⟨2, a, t, l⟩ v nb)) ∧ Below w.heap.size w w' := by
  have he : Hid (meF ⟨2, a, t, l⟩ v nb = 22) := by
    show _ = _
    rw [meF_k2, if_pos (by omega), if_neg (by omega)]
  have hB0 := bel1 w (.cells #[.int .u8 2, .int .i64 a, .int .i64 t, .int .i64 l] 79)
  have hT := hide (takes_any ⟨2, a, t, l⟩ (w.alloc (.cells #[.int .u8 2, .int .i64 a, .int .i64 t, .int .i64 l] 79)))
  have htk : takes 2 = true := rfl
  simp only [htk] at hT
  clear htk
  unfold endV at hT ⊢
  go_enter Try.func62, Try.ntmps62
  go_wp2_with fail
  refine hT.out.mono ?_
  rintro r w1 ⟨rfl, hB1⟩
  have c0 := box_cell hB1 0 rfl
  have c1 := box_cell hB1 1 rfl
  have c2 := box_cell hB1 2 rfl
  have c3 := box_cell hB1 3 rfl
  have hBw := bel_of hB0 hB1
  clear hT hB0 hB1
  go_wp2_with fail
  go_ret
  exact ⟨by rw [he.out]; rfl, hBw⟩
set_option maxHeartbeats 1000000 in
set_option maxRecDepth 100000 in
theorem rEnd_k2f (a t l v nb : Int) (w : World) (a1 : 0 ≤ a) (a2 : a < v) (t1 : 0 ≤ t) (t2 : t < nb) (l1 : 0 ≤ l) (h : nb ≤ l) : Calls Try.prog 62 #[endV ⟨2, a, t, l⟩, .int .i64 v, .int .i64 nb, .int .i64 23] w fun r w' => r = .returned (.int .i64 (meF ⟨2, a, t, l⟩ v nb)) ∧ Below w.heap.size w w' := by
  have he : Hid (meF ⟨2, a, t, l⟩ v nb = 22) := by
    show _ = _
    rw [meF_k2, if_pos (by omega), if_neg (by omega)]
  have hB0 := bel1 w (.cells #[.int .u8 2, .int .i64 a, .int .i64 t, .int .i64 l] 79)
  have hT := hide (takes_any ⟨2, a, t, l⟩ (w.alloc (.cells #[.int .u8 2, .int .i64 a, .int .i64 t, .int .i64 l] 79)))
  have htk : takes 2 = true := rfl
  simp only [htk] at hT
  clear htk
  unfold endV at hT ⊢
  go_enter Try.func62, Try.ntmps62
  go_wp2_with fail
  refine hT.out.mono ?_
  rintro r w1 ⟨rfl, hB1⟩
  have c0 := box_cell hB1 0 rfl
  have c1 := box_cell hB1 1 rfl
  have c2 := box_cell hB1 2 rfl
  have c3 := box_cell hB1 3 rfl
  have hBw := bel_of hB0 hB1
  clear hT hB0 hB1
  go_wp2_with fail
  go_ret
  exact ⟨by rw [he.out]; rfl, hBw⟩
set_option maxHeartbeats 1000000 in
set_option maxRecDepth 100000 in
theorem rEnd_k2g (a t l v nb : Int) (w : World) (a1 : 0 ≤ a) (a2 : a < v) (t1 : 0 ≤ t) (t2 : t < nb) (l1 : 0 ≤ l) (h : l < nb) : Calls Try.prog 62 #[endV ⟨2, a, t, l⟩, .int .i64 v, .int .i64 nb, .int .i64 23] w fun r w' => r = .returned (.int .i64 (meF ⟨2, a, t, l⟩ v nb)) ∧ Below w.heap.size w w' := by
  have he : Hid (meF ⟨2, a, t, l⟩ v nb = 0) := by
    show _ = _
    rw [meF_k2, if_pos (by omega), if_pos (by omega)]
  have hB0 := bel1 w (.cells #[.int .u8 2, .int .i64 a, .int .i64 t, .int .i64 l] 79)
  have hT := hide (takes_any ⟨2, a, t, l⟩ (w.alloc (.cells #[.int .u8 2, .int .i64 a, .int .i64 t, .int .i64 l] 79)))
  have htk : takes 2 = true := rfl
  simp only [htk] at hT
  clear htk
  unfold endV at hT ⊢
  go_enter Try.func62, Try.ntmps62
  go_wp2_with fail
  refine hT.out.mono ?_
  rintro r w1 ⟨rfl, hB1⟩
  have c0 := box_cell hB1 0 rfl
  have c1 := box_cell hB1 1 rfl
  have c2 := box_cell hB1 2 rfl
  have c3 := box_cell hB1 3 rfl
  have hBw := bel_of hB0 hB1
  clear hT hB0 hB1
  go_wp2_with fail
  go_ret
  exact ⟨by rw [he.out]; rfl, hBw⟩
set_option maxHeartbeats 1000000 in
set_option maxRecDepth 100000 in
theorem rEnd_k3a (a t l v nb : Int) (w : World) (h : t ≠ 0) : Calls Try.prog 62 #[endV ⟨3, a, t, l⟩, .int .i64 v, .int .i64 nb, .int .i64 23] w fun r w' => r = .returned (.int .i64 (meF ⟨3, a, t, l⟩ v nb)) ∧ Below w.heap.size w w' := by
  have he : Hid (meF ⟨3, a, t, l⟩ v nb = 20) := by
    show _ = _
    simp [meF_k3, h]
  have hB0 := bel1 w (.cells #[.int .u8 3, .int .i64 a, .int .i64 t, .int .i64 l] 79)
  unfold endV
  have b : (t == 0) = false := by simpa using h
  have b2 : (t != 0) = true := by simpa using h
  go_enter Try.func62, Try.ntmps62
  go_wp2_with fail
  go_ret
  exact ⟨by rw [he.out]; rfl, hB0⟩
set_option maxHeartbeats 1000000 in
set_option maxRecDepth 100000 in
theorem rEnd_k3b (a l v nb : Int) (w : World) (h : l ≠ 0) : Calls Try.prog 62 #[endV ⟨3, a, 0, l⟩, .int .i64 v, .int .i64 nb, .int .i64 23] w fun r w' => r = .returned (.int .i64 (meF ⟨3, a, 0, l⟩ v nb)) ∧ Below w.heap.size w w' := by
  have he : Hid (meF ⟨3, a, 0, l⟩ v nb = 20) := by
    show _ = _
    simp [meF_k3, h]
  have hB0 := bel1 w (.cells #[.int .u8 3, .int .i64 a, .int .i64 0, .int .i64 l] 79)
  unfold endV
  have b : (l == 0) = false := by simpa using h
  have b2 : (l != 0) = true := by simpa using h
  go_enter Try.func62, Try.ntmps62
  go_wp2_with fail
  go_ret
  exact ⟨by rw [he.out]; rfl, hB0⟩
set_option maxHeartbeats 1000000 in
set_option maxRecDepth 100000 in
theorem rEnd_k3c (a v nb : Int) (w : World) (h : a < 0) : Calls Try.prog 62 #[endV ⟨3, a, 0, 0⟩, .int .i64 v, .int .i64 nb, .int .i64 23] w fun r w' => r = .returned (.int .i64 (meF ⟨3, a, 0, 0⟩ v nb)) ∧ Below w.heap.size w w' := by
  have he : Hid (meF ⟨3, a, 0, 0⟩ v nb = 23) := by
    show _ = _
    rw [meF_k3, if_pos ⟨rfl, rfl⟩, if_neg (by omega)]
  have hB0 := bel1 w (.cells #[.int .u8 3, .int .i64 a, .int .i64 0, .int .i64 0] 79)
  have hT := hide (takes_any ⟨3, a, 0, 0⟩ (w.alloc (.cells #[.int .u8 3, .int .i64 a, .int .i64 0, .int .i64 0] 79)))
  have htk : takes 3 = true := rfl
  simp only [htk] at hT
  clear htk
  unfold endV at hT ⊢
  go_enter Try.func62, Try.ntmps62
  go_wp2_with fail
  refine hT.out.mono ?_
  rintro r w1 ⟨rfl, hB1⟩
  have c0 := box_cell hB1 0 rfl
  have c1 := box_cell hB1 1 rfl
  have c2 := box_cell hB1 2 rfl
  have c3 := box_cell hB1 3 rfl
  have hBw := bel_of hB0 hB1
  clear hT hB0 hB1
  go_wp2_with fail
  go_ret
  exact ⟨by rw [he.out]; rfl, hBw⟩
set_option maxHeartbeats 1000000 in
set_option maxRecDepth 100000 in
theorem rEnd_k3d (a v nb : Int) (w : World) (h1 : 0 ≤ a) (h : v ≤ a) : Calls Try.prog 62 #[endV ⟨3, a, 0, 0⟩, .int .i64 v, .int .i64 nb, .int .i64 23] w fun r w' => r = .returned (.int .i64 (meF ⟨3, a, 0, 0⟩ v nb)) ∧ Below w.heap.size w w' := by
  have he : Hid (meF ⟨3, a, 0, 0⟩ v nb = 23) := by
    show _ = _
    rw [meF_k3, if_pos ⟨rfl, rfl⟩, if_neg (by omega)]
  have hB0 := bel1 w (.cells #[.int .u8 3, .int .i64 a, .int .i64 0, .int .i64 0] 79)
  have hT := hide (takes_any ⟨3, a, 0, 0⟩ (w.alloc (.cells #[.int .u8 3, .int .i64 a, .int .i64 0, .int .i64 0] 79)))
  have htk : takes 3 = true := rfl
  simp only [htk] at hT
  clear htk
  unfold endV at hT ⊢
  go_enter Try.func62, Try.ntmps62
  go_wp2_with fail
  refine hT.out.mono ?_
  rintro r w1 ⟨rfl, hB1⟩
  have c0 := box_cell hB1 0 rfl
  have c1 := box_cell hB1 1 rfl
  have c2 := box_cell hB1 2 rfl
  have c3 := box_cell hB1 3 rfl
  have hBw := bel_of hB0 hB1
  clear hT hB0 hB1
  go_wp2_with fail
  go_ret
  exact ⟨by rw [he.out]; rfl, hBw⟩
set_option maxHeartbeats 1000000 in
set_option maxRecDepth 100000 in
theorem rEnd_k3e (a v nb : Int) (w : World) (h1 : 0 ≤ a) (h : a < v) : Calls Try.prog 62 #[endV ⟨3, a, 0, 0⟩, .int .i64 v, .int .i64 nb, .int .i64 23] w fun r w' => r = .returned (.int .i64 (meF ⟨3, a, 0, 0⟩ v nb)) ∧ Below w.heap.size w w' := by
  have he : Hid (meF ⟨3, a, 0, 0⟩ v nb = 0) := by
    show _ = _
    rw [meF_k3, if_pos ⟨rfl, rfl⟩, if_pos (by omega)]
  have hB0 := bel1 w (.cells #[.int .u8 3, .int .i64 a, .int .i64 0, .int .i64 0] 79)
  have hT := hide (takes_any ⟨3, a, 0, 0⟩ (w.alloc (.cells #[.int .u8 3, .int .i64 a, .int .i64 0, .int .i64 0] 79)))
  have htk : takes 3 = true := rfl
  simp only [htk] at hT
  clear htk
  unfold endV at hT ⊢
  go_enter Try.func62, Try.ntmps62
  go_wp2_with fail
  refine hT.out.mono ?_
  rintro r w1 ⟨rfl, hB1⟩
  have c0 := box_cell hB1 0 rfl
  have c1 := box_cell hB1 1 rfl
  have c2 := box_cell hB1 2 rfl
  have c3 := box_cell hB1 3 rfl
  have hBw := bel_of hB0 hB1
  clear hT hB0 hB1
  go_wp2_with fail
  go_ret
  exact ⟨by rw [he.out]; rfl, hBw⟩
set_option maxHeartbeats 1000000 in
set_option maxRecDepth 100000 in
theorem rEnd_kxa (k a t l v nb : Int) (w : World) (h : k < 1) : Calls Try.prog 62 #[endV ⟨k, a, t, l⟩, .int .i64 v, .int .i64 nb, .int .i64 23] w fun r w' => r = .returned (.int .i64 (meF ⟨k, a, t, l⟩ v nb)) ∧ Below w.heap.size w w' := by
  have he : Hid (meF ⟨k, a, t, l⟩ v nb = 20) := by
    show _ = _
    exact meF_kx (by omega) (by omega) (by omega)
  have hB0 := bel1 w (.cells #[.int .u8 k, .int .i64 a, .int .i64 t, .int .i64 l] 79)
  unfold endV
  go_enter Try.func62, Try.ntmps62
  go_wp2_with fail
  go_ret
  exact ⟨by rw [he.out]; rfl, hB0⟩
set_option maxHeartbeats 1000000 in
set_option maxRecDepth 100000 in
theorem rEnd_kxb (k a t l v nb : Int) (w : World) (h1 : 1 ≤ k) (h : 3 < k) : Calls Try.prog 62 #[endV ⟨k, a, t, l⟩, .int .i64 v, .int .i64 nb, .int .i64 23] w fun r w' => r = .returned (.int .i64 (meF ⟨k, a, t, l⟩ v nb)) ∧ Below w.heap.size w w' := by
  have he : Hid (meF ⟨k, a, t, l⟩ v nb = 20) := by
    show _ = _
    exact meF_kx (by omega) (by omega) (by omega)
  have hB0 := bel1 w (.cells #[.int .u8 k, .int .i64 a, .int .i64 t, .int .i64 l] 79)
  unfold endV
  go_enter Try.func62, Try.ntmps62
  go_wp2_with fail
  go_ret
  exact ⟨by rw [he.out]; rfl, hB0⟩
theorem rEnd_any (e : En) (v nb : Int) (w : World) : Calls Try.prog 62 #[endV e, .int .i64 v, .int .i64 nb, .int .i64 23] w fun r w' => r = .returned (.int .i64 (meF e v nb)) ∧ Below w.heap.size w w' := by
  obtain ⟨k, a, t, l⟩ := e
  by_cases k1 : k = 1
  · subst k1
    by_cases ha : a = 0
    · subst ha
      by_cases hl : l = 0
      · subst hl
        by_cases h1 : 0 ≤ t
        · by_cases h2 : t < nb
          · exact rEnd_k1e t v nb w h1 h2
          · exact rEnd_k1d t v nb w h1 (by omega)
        · exact rEnd_k1c t v nb w (by omega)
      · exact rEnd_k1b t l v nb w hl
    · exact rEnd_k1a a t l v nb w ha
  by_cases k2 : k = 2
  · subst k2
    by_cases a1 : 0 ≤ a
    · by_cases a2 : a < v
      · by_cases t1 : 0 ≤ t
        · by_cases t2 : t < nb
          · by_cases l1 : 0 ≤ l
            · by_cases l2 : l < nb
              · exact rEnd_k2g a t l v nb w a1 a2 t1 t2 l1 l2
              · exact rEnd_k2f a t l v nb w a1 a2 t1 t2 l1 (by omega)
            · exact rEnd_k2e a t l v nb w a1 a2 t1 t2 (by omega)
          · exact rEnd_k2d a t l v nb w a1 a2 t1 (by omega)
        · exact rEnd_k2c a t l v nb w a1 a2 (by omega)
      · exact rEnd_k2b a t l v nb w a1 (by omega)
    · exact rEnd_k2a a t l v nb w (by omega)
  by_cases k3 : k = 3
  · subst k3
    by_cases ht : t = 0
    · subst ht
      by_cases hl : l = 0
      · subst hl
        by_cases h1 : 0 ≤ a
        · by_cases h2 : a < v
          · exact rEnd_k3e a v nb w h1 h2
          · exact rEnd_k3d a v nb w h1 (by omega)
        · exact rEnd_k3c a v nb w (by omega)
      · exact rEnd_k3b a l v nb w hl
    · exact rEnd_k3a a t l v nb w ht
  by_cases h : k < 1
  · exact rEnd_kxa k a t l v nb w h
  · exact rEnd_kxb k a t l v nb w (by omega) (by omega)
end Go.Proofs.Ytbjnhicikkjadaa
