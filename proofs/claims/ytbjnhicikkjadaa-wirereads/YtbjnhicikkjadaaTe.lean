/- wire's takeEnd: an end. -/
import Derived.Test.YtbjnhicikkjadaaTi
namespace Go.Proofs.Ytbjnhicikkjadaa
open Go.RowKit Ir Wire

/-! ### All cells of a box, stored one behind the other -/
theorem keeps_box {T : TypeId → Bool} {w w' : World} {g : Nat} {t : TypeId} {cs : Array Value} (h : w.heap[g]? = some (Obj.cells cs t (0, 0))) (hT : T t = false) (hg : w.grownBy w' (some g)) : Keeps T w w' := by
  intro k cs' t' fr ht h0
  have hne : k ≠ g := by
    intro e
    subst e
    rw [h] at h0
    simp only [Option.some.injEq, Obj.cells.injEq] at h0
    rw [← h0.2.1, hT] at ht
    cases ht
  rw [hg.block k (Array.getElem?_eq_some_iff.1 h0).1 (by simpa using hne)]
  exact h0
theorem sbox3 {w : World} {g : Nat} {t : TypeId} {x0 x1 x2 : Value} (y0 y1 y2 : Value) (h : w.heap[g]? = some (Obj.cells #[x0, x1, x2] t (0, 0))) : (((w.setCell ⟨g, 0, none⟩ y0).setCell ⟨g, 1, none⟩ y1).setCell ⟨g, 2, none⟩ y2).heap[g]? = some (Obj.cells #[y0, y1, y2] t (0, 0)) := by
  have h0 : (w.setCell ⟨g, 0, none⟩ y0).heap[g]? = some (Obj.cells #[y0, x1, x2] t (0, 0)) := heap_setCell_same _ g 0 _ _ y0 h
  have h1 : ((w.setCell ⟨g, 0, none⟩ y0).setCell ⟨g, 1, none⟩ y1).heap[g]? = some (Obj.cells #[y0, y1, x2] t (0, 0)) := heap_setCell_same _ g 1 _ _ y1 h0
  have h2 : (((w.setCell ⟨g, 0, none⟩ y0).setCell ⟨g, 1, none⟩ y1).setCell ⟨g, 2, none⟩ y2).heap[g]? = some (Obj.cells #[y0, y1, y2] t (0, 0)) := heap_setCell_same _ g 2 _ _ y2 h1
  exact h2
theorem gbox3 (w : World) (g : Nat) (y0 y1 y2 : Value) : w.grownBy (((w.setCell ⟨g, 0, none⟩ y0).setCell ⟨g, 1, none⟩ y1).setCell ⟨g, 2, none⟩ y2) (some g) :=
  Lb.grownBy_trans (Lb.grownBy_trans (Lb.grownBy_setCell w g 0 y0) (Lb.grownBy_setCell _ g 1 y1)) (Lb.grownBy_setCell _ g 2 y2)
theorem kbox3 {T : TypeId → Bool} {w : World} {g : Nat} {t : TypeId} {cs : Array Value} (y0 y1 y2 : Value) (h : w.heap[g]? = some (Obj.cells cs t (0, 0))) (hT : T t = false) : Keeps T w (((w.setCell ⟨g, 0, none⟩ y0).setCell ⟨g, 1, none⟩ y1).setCell ⟨g, 2, none⟩ y2) :=
  keeps_box h hT (gbox3 w g y0 y1 y2)
theorem sbox4 {w : World} {g : Nat} {t : TypeId} {x0 x1 x2 x3 : Value} (y0 y1 y2 y3 : Value) (h : w.heap[g]? = some (Obj.cells #[x0, x1, x2, x3] t (0, 0))) : ((((w.setCell ⟨g, 0, none⟩ y0).setCell ⟨g, 1, none⟩ y1).setCell ⟨g, 2, none⟩ y2).setCell ⟨g, 3, none⟩ y3).heap[g]? = some (Obj.cells #[y0, y1, y2, y3] t (0, 0)) := by
  have h0 : (w.setCell ⟨g, 0, none⟩ y0).heap[g]? = some (Obj.cells #[y0, x1, x2, x3] t (0, 0)) := heap_setCell_same _ g 0 _ _ y0 h
  have h1 : ((w.setCell ⟨g, 0, none⟩ y0).setCell ⟨g, 1, none⟩ y1).heap[g]? = some (Obj.cells #[y0, y1, x2, x3] t (0, 0)) := heap_setCell_same _ g 1 _ _ y1 h0
  have h2 : (((w.setCell ⟨g, 0, none⟩ y0).setCell ⟨g, 1, none⟩ y1).setCell ⟨g, 2, none⟩ y2).heap[g]? = some (Obj.cells #[y0, y1, y2, x3] t (0, 0)) := heap_setCell_same _ g 2 _ _ y2 h1
  have h3 : ((((w.setCell ⟨g, 0, none⟩ y0).setCell ⟨g, 1, none⟩ y1).setCell ⟨g, 2, none⟩ y2).setCell ⟨g, 3, none⟩ y3).heap[g]? = some (Obj.cells #[y0, y1, y2, y3] t (0, 0)) := heap_setCell_same _ g 3 _ _ y3 h2
  exact h3
theorem gbox4 (w : World) (g : Nat) (y0 y1 y2 y3 : Value) : w.grownBy ((((w.setCell ⟨g, 0, none⟩ y0).setCell ⟨g, 1, none⟩ y1).setCell ⟨g, 2, none⟩ y2).setCell ⟨g, 3, none⟩ y3) (some g) :=
  Lb.grownBy_trans (Lb.grownBy_trans (Lb.grownBy_trans (Lb.grownBy_setCell w g 0 y0) (Lb.grownBy_setCell _ g 1 y1)) (Lb.grownBy_setCell _ g 2 y2)) (Lb.grownBy_setCell _ g 3 y3)
theorem kbox4 {T : TypeId → Bool} {w : World} {g : Nat} {t : TypeId} {cs : Array Value} (y0 y1 y2 y3 : Value) (h : w.heap[g]? = some (Obj.cells cs t (0, 0))) (hT : T t = false) : Keeps T w ((((w.setCell ⟨g, 0, none⟩ y0).setCell ⟨g, 1, none⟩ y1).setCell ⟨g, 2, none⟩ y2).setCell ⟨g, 3, none⟩ y3) :=
  keeps_box h hT (gbox4 w g y0 y1 y2 y3)
theorem sbox5 {w : World} {g : Nat} {t : TypeId} {x0 x1 x2 x3 x4 : Value} (y0 y1 y2 y3 y4 : Value) (h : w.heap[g]? = some (Obj.cells #[x0, x1, x2, x3, x4] t (0, 0))) : (((((w.setCell ⟨g, 0, none⟩ y0).setCell ⟨g, 1, none⟩ y1).setCell ⟨g, 2, none⟩ y2).setCell ⟨g, 3, none⟩ y3).setCell ⟨g, 4, none⟩ y4).heap[g]? = some (Obj.cells #[y0, y1, y2, y3, y4] t (0, 0)) := by
  have h0 : (w.setCell ⟨g, 0, none⟩ y0).heap[g]? = some (Obj.cells #[y0, x1, x2, x3, x4] t (0, 0)) := heap_setCell_same _ g 0 _ _ y0 h
  have h1 : ((w.setCell ⟨g, 0, none⟩ y0).setCell ⟨g, 1, none⟩ y1).heap[g]? = some (Obj.cells #[y0, y1, x2, x3, x4] t (0, 0)) := heap_setCell_same _ g 1 _ _ y1 h0
  have h2 : (((w.setCell ⟨g, 0, none⟩ y0).setCell ⟨g, 1, none⟩ y1).setCell ⟨g, 2, none⟩ y2).heap[g]? = some (Obj.cells #[y0, y1, y2, x3, x4] t (0, 0)) := heap_setCell_same _ g 2 _ _ y2 h1
  have h3 : ((((w.setCell ⟨g, 0, none⟩ y0).setCell ⟨g, 1, none⟩ y1).setCell ⟨g, 2, none⟩ y2).setCell ⟨g, 3, none⟩ y3).heap[g]? = some (Obj.cells #[y0, y1, y2, y3, x4] t (0, 0)) := heap_setCell_same _ g 3 _ _ y3 h2
  have h4 : (((((w.setCell ⟨g, 0, none⟩ y0).setCell ⟨g, 1, none⟩ y1).setCell ⟨g, 2, none⟩ y2).setCell ⟨g, 3, none⟩ y3).setCell ⟨g, 4, none⟩ y4).heap[g]? = some (Obj.cells #[y0, y1, y2, y3, y4] t (0, 0)) := heap_setCell_same _ g 4 _ _ y4 h3
  exact h4
theorem gbox5 (w : World) (g : Nat) (y0 y1 y2 y3 y4 : Value) : w.grownBy (((((w.setCell ⟨g, 0, none⟩ y0).setCell ⟨g, 1, none⟩ y1).setCell ⟨g, 2, none⟩ y2).setCell ⟨g, 3, none⟩ y3).setCell ⟨g, 4, none⟩ y4) (some g) :=
  Lb.grownBy_trans (Lb.grownBy_trans (Lb.grownBy_trans (Lb.grownBy_trans (Lb.grownBy_setCell w g 0 y0) (Lb.grownBy_setCell _ g 1 y1)) (Lb.grownBy_setCell _ g 2 y2)) (Lb.grownBy_setCell _ g 3 y3)) (Lb.grownBy_setCell _ g 4 y4)
theorem kbox5 {T : TypeId → Bool} {w : World} {g : Nat} {t : TypeId} {cs : Array Value} (y0 y1 y2 y3 y4 : Value) (h : w.heap[g]? = some (Obj.cells cs t (0, 0))) (hT : T t = false) : Keeps T w (((((w.setCell ⟨g, 0, none⟩ y0).setCell ⟨g, 1, none⟩ y1).setCell ⟨g, 2, none⟩ y2).setCell ⟨g, 3, none⟩ y3).setCell ⟨g, 4, none⟩ y4) :=
  keeps_box h hT (gbox5 w g y0 y1 y2 y3 y4)
theorem sbox7 {w : World} {g : Nat} {t : TypeId} {x0 x1 x2 x3 x4 x5 x6 : Value} (y0 y1 y2 y3 y4 y5 y6 : Value) (h : w.heap[g]? = some (Obj.cells #[x0, x1, x2, x3, x4, x5, x6] t (0, 0))) : (((((((w.setCell ⟨g, 0, none⟩ y0).setCell ⟨g, 1, none⟩ y1).setCell ⟨g, 2, none⟩ y2).setCell ⟨g, 3, none⟩ y3).setCell ⟨g, 4, none⟩ y4).setCell ⟨g, 5, none⟩ y5).setCell ⟨g, 6, none⟩ y6).heap[g]? = some (Obj.cells #[y0, y1, y2, y3, y4, y5, y6] t (0, 0)) := by
  have h0 : (w.setCell ⟨g, 0, none⟩ y0).heap[g]? = some (Obj.cells #[y0, x1, x2, x3, x4, x5, x6] t (0, 0)) := heap_setCell_same _ g 0 _ _ y0 h
  have h1 : ((w.setCell ⟨g, 0, none⟩ y0).setCell ⟨g, 1, none⟩ y1).heap[g]? = some (Obj.cells #[y0, y1, x2, x3, x4, x5, x6] t (0, 0)) := heap_setCell_same _ g 1 _ _ y1 h0
  have h2 : (((w.setCell ⟨g, 0, none⟩ y0).setCell ⟨g, 1, none⟩ y1).setCell ⟨g, 2, none⟩ y2).heap[g]? = some (Obj.cells #[y0, y1, y2, x3, x4, x5, x6] t (0, 0)) := heap_setCell_same _ g 2 _ _ y2 h1
  have h3 : ((((w.setCell ⟨g, 0, none⟩ y0).setCell ⟨g, 1, none⟩ y1).setCell ⟨g, 2, none⟩ y2).setCell ⟨g, 3, none⟩ y3).heap[g]? = some (Obj.cells #[y0, y1, y2, y3, x4, x5, x6] t (0, 0)) := heap_setCell_same _ g 3 _ _ y3 h2
  have h4 : (((((w.setCell ⟨g, 0, none⟩ y0).setCell ⟨g, 1, none⟩ y1).setCell ⟨g, 2, none⟩ y2).setCell ⟨g, 3, none⟩ y3).setCell ⟨g, 4, none⟩ y4).heap[g]? = some (Obj.cells #[y0, y1, y2, y3, y4, x5, x6] t (0, 0)) := heap_setCell_same _ g 4 _ _ y4 h3
  have h5 : ((((((w.setCell ⟨g, 0, none⟩ y0).setCell ⟨g, 1, none⟩ y1).setCell ⟨g, 2, none⟩ y2).setCell ⟨g, 3, none⟩ y3).setCell ⟨g, 4, none⟩ y4).setCell ⟨g, 5, none⟩ y5).heap[g]? = some (Obj.cells #[y0, y1, y2, y3, y4, y5, x6] t (0, 0)) := heap_setCell_same _ g 5 _ _ y5 h4
  have h6 : (((((((w.setCell ⟨g, 0, none⟩ y0).setCell ⟨g, 1, none⟩ y1).setCell ⟨g, 2, none⟩ y2).setCell ⟨g, 3, none⟩ y3).setCell ⟨g, 4, none⟩ y4).setCell ⟨g, 5, none⟩ y5).setCell ⟨g, 6, none⟩ y6).heap[g]? = some (Obj.cells #[y0, y1, y2, y3, y4, y5, y6] t (0, 0)) := heap_setCell_same _ g 6 _ _ y6 h5
  exact h6
theorem gbox7 (w : World) (g : Nat) (y0 y1 y2 y3 y4 y5 y6 : Value) : w.grownBy (((((((w.setCell ⟨g, 0, none⟩ y0).setCell ⟨g, 1, none⟩ y1).setCell ⟨g, 2, none⟩ y2).setCell ⟨g, 3, none⟩ y3).setCell ⟨g, 4, none⟩ y4).setCell ⟨g, 5, none⟩ y5).setCell ⟨g, 6, none⟩ y6) (some g) :=
  Lb.grownBy_trans (Lb.grownBy_trans (Lb.grownBy_trans (Lb.grownBy_trans (Lb.grownBy_trans (Lb.grownBy_trans (Lb.grownBy_setCell w g 0 y0) (Lb.grownBy_setCell _ g 1 y1)) (Lb.grownBy_setCell _ g 2 y2)) (Lb.grownBy_setCell _ g 3 y3)) (Lb.grownBy_setCell _ g 4 y4)) (Lb.grownBy_setCell _ g 5 y5)) (Lb.grownBy_setCell _ g 6 y6)
theorem kbox7 {T : TypeId → Bool} {w : World} {g : Nat} {t : TypeId} {cs : Array Value} (y0 y1 y2 y3 y4 y5 y6 : Value) (h : w.heap[g]? = some (Obj.cells cs t (0, 0))) (hT : T t = false) : Keeps T w (((((((w.setCell ⟨g, 0, none⟩ y0).setCell ⟨g, 1, none⟩ y1).setCell ⟨g, 2, none⟩ y2).setCell ⟨g, 3, none⟩ y3).setCell ⟨g, 4, none⟩ y4).setCell ⟨g, 5, none⟩ y5).setCell ⟨g, 6, none⟩ y6) :=
  keeps_box h hT (gbox7 w g y0 y1 y2 y3 y4 y5 y6)
theorem took_end1 {xs ys zs : List Int} {c0 c1 c2 t : Int} (h0 : Took (belP 256) xs c0 1 ys c1) (h1 : Took (belP 4096) ys c1 t zs c2) : Took endP xs c0 ⟨1, 0, t, 0⟩ zs c2 :=
  Took.bind h0 (Took.congr (P := fun xs => (belP 4096 xs).bind fun t r => .inl (⟨1, 0, t, 0⟩, r)) (Took.bind h1 (Took.pure _ _ _)) (by simp [endK]))
theorem took_end2 {xs ys zs vs us : List Int} {c0 c1 c2 c3 c4 a t l : Int} (h0 : Took (belP 256) xs c0 2 ys c1) (h1 : Took (belP 4096) ys c1 a zs c2) (h2 : Took (belP 4096) zs c2 t vs c3) (h3 : Took (belP 4096) vs c3 l us c4) : Took endP xs c0 ⟨2, a, t, l⟩ us c4 :=
  Took.bind h0 (Took.congr (P := fun xs => (belP 4096 xs).bind fun a r => (belP 4096 r).bind fun t r => (belP 4096 r).bind fun l r => .inl (⟨2, a, t, l⟩, r)) (Took.bind h1 (Took.bind h2 (Took.bind h3 (Took.pure _ _ _)))) (by simp [endK]))
theorem took_end3 {xs ys zs : List Int} {c0 c1 c2 a : Int} (h0 : Took (belP 256) xs c0 3 ys c1) (h1 : Took (belP 4096) ys c1 a zs c2) : Took endP xs c0 ⟨3, a, 0, 0⟩ zs c2 :=
  Took.bind h0 (Took.congr (P := fun xs => (belP 4096 xs).bind fun a r => .inl (⟨3, a, 0, 0⟩, r)) (Took.bind h1 (Took.pure _ _ _)) (by simp [endK]))
theorem took_end0 {xs ys : List Int} {c0 c1 k : Int} (h0 : Took (belP 256) xs c0 k ys c1) (hk : ¬ (1 ≤ k ∧ k ≤ 3)) (e : En) : Took endP xs c0 e ys (Leb.failed c1 20) :=
  Took.bind h0 (Took.congr (P := fun _ => .inr 20) (Took.fail _ _ _ _ (by decide)) (by simp [hk]))
set_option maxHeartbeats 2000000 in
set_option maxRecDepth 100000 in
theorem takeEnd_any (p b : Nat) (xs : List Int) (code : Int) (w : World) (h : Lb.RdrAt w p b xs code) (hb : b < w.heap.size) :
    Calls Try.prog 75 #[.pointer (some ⟨p, 0, none⟩)] w (RdPost w p b endP xs code (fun e u _ => u = endV e)) := by
  have hp := h.lt
  have hB1 := bel1' w (.cells #[.int .u8 0, .int .i64 0, .int .i64 0, .int .i64 0] 79)
  have hn := heap_alloc_new w (.cells #[.int .u8 0, .int .i64 0, .int .i64 0, .int .i64 0] 79)
  have HF := hide (fieldsOf_any p (w.alloc (.cells #[.int .u8 0, .int .i64 0, .int .i64 0, .int .i64 0] 79)))
  go_enter Try.func75, Try.ntmps75
  go_wp2_with fail
  refine HF.out.mono ?_
  rintro e w1 ⟨rfl, hq0, hqs, hB2⟩
  have hq : w1.heap[w.heap.size + 1]? = some (Obj.cells #[.pointer (some ⟨p, 0, none⟩)] 99 (0, 0)) := by simpa using hq0
  have hr := (hB2.block _ (row_lt hn)).trans hn
  have hR := h.below (bel_of hB1 hB2)
  have hG : w.grownBy w1 (some p) := Lb.grownBy_below (bel_of hB1 hB2) _
  have hz1 : w.heap.size + 1 < w1.heap.size := by simpa using hqs
  clear HF hB1 hB2 h hn hqs hq0
  have HB := hide (below_t p b xs code 256 w1 hR (by omega) (by omega))
  clear hR
  go_wp2_with fail
  refine HB.out.mono ?_
  rintro e w2 ⟨k, u, ys, d, rfl, ⟨rfl, hk0, hk1⟩, hT, hR0, hg⟩
  have hbx := bel1' w2 (.cells #[.int .u8 k, .int .i64 0, .int .i64 0, .int .i64 0] 79)
  have hR := hR0.below hbx
  have hz2 : w.heap.size + 1 < w2.heap.size := Nat.lt_of_lt_of_le hz1 hg.size
  have hq1 := grown_row hg hq (by omega)
  have hr1 := grown_row hg hr (by omega)
  have hG1 := Lb.grownBy_trans (Lb.grownBy_trans hG hg) (Lb.grownBy_below hbx (some p))
  have hq2 := (hbx.block _ (row_lt hq1)).trans hq1
  have hr2 := (hbx.block _ (row_lt hr1)).trans hr1
  have hn := heap_alloc_new w2 (.cells #[.int .u8 k, .int .i64 0, .int .i64 0, .int .i64 0] 79)
  clear HB hg hG hq hr hq1 hr1 hR0 hbx
  by_cases k1 : k = 1
  · subst k1
    have HC1 := hide (field_t p b (w.heap.size + 1) ys d (w2.alloc (.cells #[.int .u8 1, .int .i64 0, .int .i64 0, .int .i64 0] 79)) hR hq2)
    go_wp2_with fail
    refine HC1.out.mono ?_
    rintro e v1 ⟨to, u1, ys1, d1, rfl, ⟨rfl, hto0, hto1⟩, hT1, hR1, hg1⟩
    have hs1 := hg1.size
    have hq_1 := grown_row hg1 hq2 (by omega)
    have hr_1 := grown_row hg1 hr2 (by omega)
    have hn_1 := grown_row hg1 hn (by omega)
    have hG_1 := Lb.grownBy_trans hG1 hg1
    clear HC1 hq2 hr2 hn hG1 hR hg1
    obtain ⟨c0, c1, c2, c3⟩ := box4' hn_1
    have f0 : v1.frozen? ⟨w2.heap.size, 0, none⟩ = false := frozen_of_row _ _ _ _ _ hn_1
    have f1 : v1.frozen? ⟨w2.heap.size, 1, none⟩ = false := frozen_of_row _ _ _ _ _ hn_1
    have f2 : v1.frozen? ⟨w2.heap.size, 2, none⟩ = false := frozen_of_row _ _ _ _ _ hn_1
    have f3 : v1.frozen? ⟨w2.heap.size, 3, none⟩ = false := frozen_of_row _ _ _ _ _ hn_1
    have hq1s0 := (heap_setCell_other _ ⟨w2.heap.size, 2, none⟩ (w.heap.size + 1) (.int .i64 to) (by simp; omega)).trans hq_1
    have hr1s0 := (heap_setCell_other _ ⟨w2.heap.size, 2, none⟩ w.heap.size (.int .i64 to) (by simp; omega)).trans hr_1
    have hn1s0 : (v1.setCell ⟨w2.heap.size, 2, none⟩ (.int .i64 to)).heap[w2.heap.size]? = some (Obj.cells #[.int .u8 1, .int .i64 0, .int .i64 to, .int .i64 0] 79 (0, 0)) := heap_setCell_same _ w2.heap.size 2 _ _ (.int .i64 to) hn_1
    have hG1s0 := grown_new hG_1 (Lb.grownBy_setCell _ w2.heap.size 2 (.int .i64 to)) (fun k hk => by simp at hk; omega)
    have hR1s0 := rdr_kept hR1 (Lb.grownBy_setCell _ w2.heap.size 2 (.int .i64 to)) (fun e => by simp at e; omega) (fun e => by simp at e; omega)
    have z0 := hr1s0
    obtain ⟨r0, r1, r2, r3⟩ := box4' hr1s0
    have g0 : (v1.setCell ⟨w2.heap.size, 2, none⟩ (.int .i64 to)).frozen? ⟨w.heap.size, 0, none⟩ = false := frozen_of_row _ _ _ _ _ hr1s0
    have g1 : (v1.setCell ⟨w2.heap.size, 2, none⟩ (.int .i64 to)).frozen? ⟨w.heap.size, 1, none⟩ = false := frozen_of_row _ _ _ _ _ hr1s0
    have g2 : (v1.setCell ⟨w2.heap.size, 2, none⟩ (.int .i64 to)).frozen? ⟨w.heap.size, 2, none⟩ = false := frozen_of_row _ _ _ _ _ hr1s0
    have g3 : (v1.setCell ⟨w2.heap.size, 2, none⟩ (.int .i64 to)).frozen? ⟨w.heap.size, 3, none⟩ = false := frozen_of_row _ _ _ _ _ hr1s0
    obtain ⟨b0, b1, b2, b3⟩ := box4' hn1s0
    have hRow := hide (sbox4 (.int .u8 1) (.int .i64 0) (.int .i64 to) (.int .i64 0) hr1s0)
    have hFin := hide (And.intro (rdr_kept hR1s0 (gbox4 _ w.heap.size (.int .u8 1) (.int .i64 0) (.int .i64 to) (.int .i64 0)) (fun e => by simp at e; omega) (fun e => by simp at e; omega)) (grown_new hG1s0 (gbox4 _ w.heap.size (.int .u8 1) (.int .i64 0) (.int .i64 to) (.int .i64 0)) (fun k hk => by simp at hk; omega)))
    clear z0
    go_wp2_with fail
    obtain ⟨q0, q1, q2, q3⟩ := box4' hRow.out
    refine bodyPost_ret (v := .agg #[.int .u8 1, .int .i64 0, .int .i64 to, .int .i64 0]) (by simp [results, Try.results75, go_sem, q0, q1, q2, q3]) rfl ?_
    exact ⟨⟨1, 0, to, 0⟩, _, _, _, rfl, rfl, took_end1 hT hT1, hFin.out.1, hFin.out.2⟩
  by_cases k2 : k = 2
  · subst k2
    have HC1 := hide (field_t p b (w.heap.size + 1) ys d (w2.alloc (.cells #[.int .u8 2, .int .i64 0, .int .i64 0, .int .i64 0] 79)) hR hq2)
    go_wp2_with fail
    refine HC1.out.mono ?_
    rintro e v1 ⟨a, u1, ys1, d1, rfl, ⟨rfl, ha0, ha1⟩, hT1, hR1, hg1⟩
    have hs1 := hg1.size
    have hq_1 := grown_row hg1 hq2 (by omega)
    have hr_1 := grown_row hg1 hr2 (by omega)
    have hn_1 := grown_row hg1 hn (by omega)
    have hG_1 := Lb.grownBy_trans hG1 hg1
    clear HC1 hq2 hr2 hn hG1 hR hg1
    have HC2 := hide (field_t p b (w.heap.size + 1) ys1 d1 v1 hR1 hq_1)
    go_wp2_with fail
    refine HC2.out.mono ?_
    rintro e v2 ⟨to, u2, ys2, d2, rfl, ⟨rfl, hto0, hto1⟩, hT2, hR2, hg2⟩
    have hs2 := hg2.size
    have hq_2 := grown_row hg2 hq_1 (by omega)
    have hr_2 := grown_row hg2 hr_1 (by omega)
    have hn_2 := grown_row hg2 hn_1 (by omega)
    have hG_2 := Lb.grownBy_trans hG_1 hg2
    clear HC2 hq_1 hr_1 hn_1 hG_1 hR1 hg2
    have HC3 := hide (field_t p b (w.heap.size + 1) ys2 d2 v2 hR2 hq_2)
    go_wp2_with fail
    refine HC3.out.mono ?_
    rintro e v3 ⟨el, u3, ys3, d3, rfl, ⟨rfl, hel0, hel1⟩, hT3, hR3, hg3⟩
    have hs3 := hg3.size
    have hq_3 := grown_row hg3 hq_2 (by omega)
    have hr_3 := grown_row hg3 hr_2 (by omega)
    have hn_3 := grown_row hg3 hn_2 (by omega)
    have hG_3 := Lb.grownBy_trans hG_2 hg3
    clear HC3 hq_2 hr_2 hn_2 hG_2 hR2 hg3
    obtain ⟨c0, c1, c2, c3⟩ := box4' hn_3
    have f0 : v3.frozen? ⟨w2.heap.size, 0, none⟩ = false := frozen_of_row _ _ _ _ _ hn_3
    have f1 : v3.frozen? ⟨w2.heap.size, 1, none⟩ = false := frozen_of_row _ _ _ _ _ hn_3
    have f2 : v3.frozen? ⟨w2.heap.size, 2, none⟩ = false := frozen_of_row _ _ _ _ _ hn_3
    have f3 : v3.frozen? ⟨w2.heap.size, 3, none⟩ = false := frozen_of_row _ _ _ _ _ hn_3
    have hq3s0 := (heap_setCell_other _ ⟨w2.heap.size, 1, none⟩ (w.heap.size + 1) (.int .i64 a) (by simp; omega)).trans hq_3
    have hr3s0 := (heap_setCell_other _ ⟨w2.heap.size, 1, none⟩ w.heap.size (.int .i64 a) (by simp; omega)).trans hr_3
    have hn3s0 : (v3.setCell ⟨w2.heap.size, 1, none⟩ (.int .i64 a)).heap[w2.heap.size]? = some (Obj.cells #[.int .u8 2, .int .i64 a, .int .i64 0, .int .i64 0] 79 (0, 0)) := heap_setCell_same _ w2.heap.size 1 _ _ (.int .i64 a) hn_3
    have hG3s0 := grown_new hG_3 (Lb.grownBy_setCell _ w2.heap.size 1 (.int .i64 a)) (fun k hk => by simp at hk; omega)
    have hR3s0 := rdr_kept hR3 (Lb.grownBy_setCell _ w2.heap.size 1 (.int .i64 a)) (fun e => by simp at e; omega) (fun e => by simp at e; omega)
    have hq3s1 := (heap_setCell_other _ ⟨w2.heap.size, 2, none⟩ (w.heap.size + 1) (.int .i64 to) (by simp; omega)).trans hq3s0
    have hr3s1 := (heap_setCell_other _ ⟨w2.heap.size, 2, none⟩ w.heap.size (.int .i64 to) (by simp; omega)).trans hr3s0
    have hn3s1 : ((v3.setCell ⟨w2.heap.size, 1, none⟩ (.int .i64 a)).setCell ⟨w2.heap.size, 2, none⟩ (.int .i64 to)).heap[w2.heap.size]? = some (Obj.cells #[.int .u8 2, .int .i64 a, .int .i64 to, .int .i64 0] 79 (0, 0)) := heap_setCell_same _ w2.heap.size 2 _ _ (.int .i64 to) hn3s0
    have hG3s1 := grown_new hG3s0 (Lb.grownBy_setCell _ w2.heap.size 2 (.int .i64 to)) (fun k hk => by simp at hk; omega)
    have hR3s1 := rdr_kept hR3s0 (Lb.grownBy_setCell _ w2.heap.size 2 (.int .i64 to)) (fun e => by simp at e; omega) (fun e => by simp at e; omega)
    have hq3s2 := (heap_setCell_other _ ⟨w2.heap.size, 3, none⟩ (w.heap.size + 1) (.int .i64 el) (by simp; omega)).trans hq3s1
    have hr3s2 := (heap_setCell_other _ ⟨w2.heap.size, 3, none⟩ w.heap.size (.int .i64 el) (by simp; omega)).trans hr3s1
    have hn3s2 : (((v3.setCell ⟨w2.heap.size, 1, none⟩ (.int .i64 a)).setCell ⟨w2.heap.size, 2, none⟩ (.int .i64 to)).setCell ⟨w2.heap.size, 3, none⟩ (.int .i64 el)).heap[w2.heap.size]? = some (Obj.cells #[.int .u8 2, .int .i64 a, .int .i64 to, .int .i64 el] 79 (0, 0)) := heap_setCell_same _ w2.heap.size 3 _ _ (.int .i64 el) hn3s1
    have hG3s2 := grown_new hG3s1 (Lb.grownBy_setCell _ w2.heap.size 3 (.int .i64 el)) (fun k hk => by simp at hk; omega)
    have hR3s2 := rdr_kept hR3s1 (Lb.grownBy_setCell _ w2.heap.size 3 (.int .i64 el)) (fun e => by simp at e; omega) (fun e => by simp at e; omega)
    have z0 := hr3s2
    obtain ⟨r0, r1, r2, r3⟩ := box4' hr3s2
    have g0 : (((v3.setCell ⟨w2.heap.size, 1, none⟩ (.int .i64 a)).setCell ⟨w2.heap.size, 2, none⟩ (.int .i64 to)).setCell ⟨w2.heap.size, 3, none⟩ (.int .i64 el)).frozen? ⟨w.heap.size, 0, none⟩ = false := frozen_of_row _ _ _ _ _ hr3s2
    have g1 : (((v3.setCell ⟨w2.heap.size, 1, none⟩ (.int .i64 a)).setCell ⟨w2.heap.size, 2, none⟩ (.int .i64 to)).setCell ⟨w2.heap.size, 3, none⟩ (.int .i64 el)).frozen? ⟨w.heap.size, 1, none⟩ = false := frozen_of_row _ _ _ _ _ hr3s2
    have g2 : (((v3.setCell ⟨w2.heap.size, 1, none⟩ (.int .i64 a)).setCell ⟨w2.heap.size, 2, none⟩ (.int .i64 to)).setCell ⟨w2.heap.size, 3, none⟩ (.int .i64 el)).frozen? ⟨w.heap.size, 2, none⟩ = false := frozen_of_row _ _ _ _ _ hr3s2
    have g3 : (((v3.setCell ⟨w2.heap.size, 1, none⟩ (.int .i64 a)).setCell ⟨w2.heap.size, 2, none⟩ (.int .i64 to)).setCell ⟨w2.heap.size, 3, none⟩ (.int .i64 el)).frozen? ⟨w.heap.size, 3, none⟩ = false := frozen_of_row _ _ _ _ _ hr3s2
    obtain ⟨b0, b1, b2, b3⟩ := box4' hn3s2
    have hRow := hide (sbox4 (.int .u8 2) (.int .i64 a) (.int .i64 to) (.int .i64 el) hr3s2)
    have hFin := hide (And.intro (rdr_kept hR3s2 (gbox4 _ w.heap.size (.int .u8 2) (.int .i64 a) (.int .i64 to) (.int .i64 el)) (fun e => by simp at e; omega) (fun e => by simp at e; omega)) (grown_new hG3s2 (gbox4 _ w.heap.size (.int .u8 2) (.int .i64 a) (.int .i64 to) (.int .i64 el)) (fun k hk => by simp at hk; omega)))
    clear z0
    go_wp2_with fail
    obtain ⟨q0, q1, q2, q3⟩ := box4' hRow.out
    refine bodyPost_ret (v := .agg #[.int .u8 2, .int .i64 a, .int .i64 to, .int .i64 el]) (by simp [results, Try.results75, go_sem, q0, q1, q2, q3]) rfl ?_
    exact ⟨⟨2, a, to, el⟩, _, _, _, rfl, rfl, took_end2 hT hT1 hT2 hT3, hFin.out.1, hFin.out.2⟩
  by_cases k3 : k = 3
  · subst k3
    have HC1 := hide (field_t p b (w.heap.size + 1) ys d (w2.alloc (.cells #[.int .u8 3, .int .i64 0, .int .i64 0, .int .i64 0] 79)) hR hq2)
    go_wp2_with fail
    refine HC1.out.mono ?_
    rintro e v1 ⟨a, u1, ys1, d1, rfl, ⟨rfl, ha0, ha1⟩, hT1, hR1, hg1⟩
    have hs1 := hg1.size
    have hq_1 := grown_row hg1 hq2 (by omega)
    have hr_1 := grown_row hg1 hr2 (by omega)
    have hn_1 := grown_row hg1 hn (by omega)
    have hG_1 := Lb.grownBy_trans hG1 hg1
    clear HC1 hq2 hr2 hn hG1 hR hg1
    obtain ⟨c0, c1, c2, c3⟩ := box4' hn_1
    have f0 : v1.frozen? ⟨w2.heap.size, 0, none⟩ = false := frozen_of_row _ _ _ _ _ hn_1
    have f1 : v1.frozen? ⟨w2.heap.size, 1, none⟩ = false := frozen_of_row _ _ _ _ _ hn_1
    have f2 : v1.frozen? ⟨w2.heap.size, 2, none⟩ = false := frozen_of_row _ _ _ _ _ hn_1
    have f3 : v1.frozen? ⟨w2.heap.size, 3, none⟩ = false := frozen_of_row _ _ _ _ _ hn_1
    have hq1s0 := (heap_setCell_other _ ⟨w2.heap.size, 1, none⟩ (w.heap.size + 1) (.int .i64 a) (by simp; omega)).trans hq_1
    have hr1s0 := (heap_setCell_other _ ⟨w2.heap.size, 1, none⟩ w.heap.size (.int .i64 a) (by simp; omega)).trans hr_1
    have hn1s0 : (v1.setCell ⟨w2.heap.size, 1, none⟩ (.int .i64 a)).heap[w2.heap.size]? = some (Obj.cells #[.int .u8 3, .int .i64 a, .int .i64 0, .int .i64 0] 79 (0, 0)) := heap_setCell_same _ w2.heap.size 1 _ _ (.int .i64 a) hn_1
    have hG1s0 := grown_new hG_1 (Lb.grownBy_setCell _ w2.heap.size 1 (.int .i64 a)) (fun k hk => by simp at hk; omega)
    have hR1s0 := rdr_kept hR1 (Lb.grownBy_setCell _ w2.heap.size 1 (.int .i64 a)) (fun e => by simp at e; omega) (fun e => by simp at e; omega)
    have z0 := hr1s0
    obtain ⟨r0, r1, r2, r3⟩ := box4' hr1s0
    have g0 : (v1.setCell ⟨w2.heap.size, 1, none⟩ (.int .i64 a)).frozen? ⟨w.heap.size, 0, none⟩ = false := frozen_of_row _ _ _ _ _ hr1s0
    have g1 : (v1.setCell ⟨w2.heap.size, 1, none⟩ (.int .i64 a)).frozen? ⟨w.heap.size, 1, none⟩ = false := frozen_of_row _ _ _ _ _ hr1s0
    have g2 : (v1.setCell ⟨w2.heap.size, 1, none⟩ (.int .i64 a)).frozen? ⟨w.heap.size, 2, none⟩ = false := frozen_of_row _ _ _ _ _ hr1s0
    have g3 : (v1.setCell ⟨w2.heap.size, 1, none⟩ (.int .i64 a)).frozen? ⟨w.heap.size, 3, none⟩ = false := frozen_of_row _ _ _ _ _ hr1s0
    obtain ⟨b0, b1, b2, b3⟩ := box4' hn1s0
    have hRow := hide (sbox4 (.int .u8 3) (.int .i64 a) (.int .i64 0) (.int .i64 0) hr1s0)
    have hFin := hide (And.intro (rdr_kept hR1s0 (gbox4 _ w.heap.size (.int .u8 3) (.int .i64 a) (.int .i64 0) (.int .i64 0)) (fun e => by simp at e; omega) (fun e => by simp at e; omega)) (grown_new hG1s0 (gbox4 _ w.heap.size (.int .u8 3) (.int .i64 a) (.int .i64 0) (.int .i64 0)) (fun k hk => by simp at hk; omega)))
    clear z0
    go_wp2_with fail
    obtain ⟨q0, q1, q2, q3⟩ := box4' hRow.out
    refine bodyPost_ret (v := .agg #[.int .u8 3, .int .i64 a, .int .i64 0, .int .i64 0]) (by simp [results, Try.results75, go_sem, q0, q1, q2, q3]) rfl ?_
    exact ⟨⟨3, a, 0, 0⟩, _, _, _, rfl, rfl, took_end3 hT hT1, hFin.out.1, hFin.out.2⟩
  · have HC := hide (Lb.fail_any p b ys d 20 (w2.alloc (.cells #[.int .u8 k, .int .i64 0, .int .i64 0, .int .i64 0] 79)) hR)
    have bk1 : (k == 1) = false := by simp; omega
    have bk2 : (k == 2) = false := by simp; omega
    have bk3 : (k == 3) = false := by simp; omega
    obtain ⟨c0, c1, c2, c3⟩ := box4' hn
    go_wp2_with fail
    refine HC.out.mono ?_
    rintro e v1 ⟨rfl, hR1, hg1⟩
    have hq_1 := grown_row hg1 hq2 (by omega)
    have hr_1 := grown_row hg1 hr2 (by omega)
    have hn_1 := grown_row hg1 hn (by omega)
    have hG_1 := Lb.grownBy_trans hG1 hg1
    have hs1 := hg1.size
    clear HC c0 c1 c2 c3 hq2 hr2 hn hG1 hR hg1
    have z0 := hr_1
    obtain ⟨r0, r1, r2, r3⟩ := box4' hr_1
    have g0 : v1.frozen? ⟨w.heap.size, 0, none⟩ = false := frozen_of_row _ _ _ _ _ hr_1
    have g1 : v1.frozen? ⟨w.heap.size, 1, none⟩ = false := frozen_of_row _ _ _ _ _ hr_1
    have g2 : v1.frozen? ⟨w.heap.size, 2, none⟩ = false := frozen_of_row _ _ _ _ _ hr_1
    have g3 : v1.frozen? ⟨w.heap.size, 3, none⟩ = false := frozen_of_row _ _ _ _ _ hr_1
    obtain ⟨b0, b1, b2, b3⟩ := box4' hn_1
    have hRow := hide (sbox4 (.int .u8 k) (.int .i64 0) (.int .i64 0) (.int .i64 0) hr_1)
    have hFin := hide (And.intro (rdr_kept hR1 (gbox4 _ w.heap.size (.int .u8 k) (.int .i64 0) (.int .i64 0) (.int .i64 0)) (fun e => by simp at e; omega) (fun e => by simp at e; omega)) (grown_new hG_1 (gbox4 _ w.heap.size (.int .u8 k) (.int .i64 0) (.int .i64 0) (.int .i64 0)) (fun k hk => by simp at hk; omega)))
    clear z0
    go_wp2_with fail
    obtain ⟨q0, q1, q2, q3⟩ := box4' hRow.out
    refine bodyPost_ret (v := .agg #[.int .u8 k, .int .i64 0, .int .i64 0, .int .i64 0]) (by simp [results, Try.results75, go_sem, q0, q1, q2, q3]) rfl ?_
    exact ⟨⟨k, 0, 0, 0⟩, _, _, _, rfl, rfl, took_end0 hT (by omega) _, hFin.out.1, hFin.out.2⟩
end Go.Proofs.Ytbjnhicikkjadaa
