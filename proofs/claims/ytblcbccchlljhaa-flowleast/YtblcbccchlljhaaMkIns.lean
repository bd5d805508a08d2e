/- The maker's ins: an instruction out of bytes. -/
import Derived.Test.YtblcbccchlljhaaMem
import Derived.Test.YtblcbccchlljhaaInts
namespace Go.Proofs.Ytblcbccchlljhaa
open Go.RowKit Ir

/-- An instruction's result, not yet written. -/
def Zero46 (w : World) (g : Nat) : Prop := w.heap[g]? = some (Obj.cells #[.int .u8 0, .int .u8 0, .int .i64 0, .int .i64 0, .int .i64 0, .int .i64 0, .slice none 0 0] 79 (0, 0))
theorem Zero46.new (w : World) : Zero46 (w.alloc (.cells #[.int .u8 0, .int .u8 0, .int .i64 0, .int .i64 0, .int .i64 0, .int .i64 0, .slice none 0 0] 79)) w.heap.size := heap_alloc_new w _
theorem Zero46.grown {w w' : World} {g : Nat} {s : Option Nat} (h : Zero46 w g) (hg : w.grownBy w' s) (hs : s ≠ some g) : Zero46 w' g := by
  unfold Zero46 at *
  rw [hg.block g (Array.getElem?_eq_some_iff.1 h).1 (fun e => hs e.symm)]
  exact h
theorem Zero46.cells {w : World} {g : Nat} (h : Zero46 w g) : w.cell? ⟨g, 0, none⟩ = some (.int .u8 0) ∧ w.cell? ⟨g, 1, none⟩ = some (.int .u8 0) ∧ w.cell? ⟨g, 2, none⟩ = some (.int .i64 0) ∧ w.cell? ⟨g, 3, none⟩ = some (.int .i64 0) ∧ w.cell? ⟨g, 4, none⟩ = some (.int .i64 0) ∧ w.cell? ⟨g, 5, none⟩ = some (.int .i64 0) ∧ w.cell? ⟨g, 6, none⟩ = some (.slice none 0 0) ∧ w.frozen? ⟨g, 0, none⟩ = false ∧ w.frozen? ⟨g, 1, none⟩ = false ∧ w.frozen? ⟨g, 2, none⟩ = false ∧ w.frozen? ⟨g, 3, none⟩ = false ∧ w.frozen? ⟨g, 4, none⟩ = false ∧ w.frozen? ⟨g, 5, none⟩ = false ∧ w.frozen? ⟨g, 6, none⟩ = false := by
  refine ⟨?_, ?_, ?_, ?_, ?_, ?_, ?_, ?_, ?_, ?_, ?_, ?_, ?_, ?_⟩
  all_goals first | (rw [cell_of_row _ _ _ _ _ _ h]; rfl) | exact frozen_of_row _ _ _ _ _ h
/-- Seven cells, stored one behind the other. -/
theorem set7 {w : World} {g : Nat} {x0 x1 x2 x3 x4 x5 x6 : Value} (y0 y1 y2 y3 y4 y5 y6 : Value) (r0 : w.cell? ⟨g, 0, none⟩ = some x0) (r1 : w.cell? ⟨g, 1, none⟩ = some x1) (r2 : w.cell? ⟨g, 2, none⟩ = some x2) (r3 : w.cell? ⟨g, 3, none⟩ = some x3) (r4 : w.cell? ⟨g, 4, none⟩ = some x4) (r5 : w.cell? ⟨g, 5, none⟩ = some x5) (r6 : w.cell? ⟨g, 6, none⟩ = some x6) : (w.setCell ⟨g, 0, none⟩ y0).cell? ⟨g, 0, none⟩ = some y0 ∧ ((w.setCell ⟨g, 0, none⟩ y0).setCell ⟨g, 1, none⟩ y1).cell? ⟨g, 1, none⟩ = some y1 ∧ (((w.setCell ⟨g, 0, none⟩ y0).setCell ⟨g, 1, none⟩ y1).setCell ⟨g, 2, none⟩ y2).cell? ⟨g, 2, none⟩ = some y2 ∧ ((((w.setCell ⟨g, 0, none⟩ y0).setCell ⟨g, 1, none⟩ y1).setCell ⟨g, 2, none⟩ y2).setCell ⟨g, 3, none⟩ y3).cell? ⟨g, 3, none⟩ = some y3 ∧ (((((w.setCell ⟨g, 0, none⟩ y0).setCell ⟨g, 1, none⟩ y1).setCell ⟨g, 2, none⟩ y2).setCell ⟨g, 3, none⟩ y3).setCell ⟨g, 4, none⟩ y4).cell? ⟨g, 4, none⟩ = some y4 ∧ ((((((w.setCell ⟨g, 0, none⟩ y0).setCell ⟨g, 1, none⟩ y1).setCell ⟨g, 2, none⟩ y2).setCell ⟨g, 3, none⟩ y3).setCell ⟨g, 4, none⟩ y4).setCell ⟨g, 5, none⟩ y5).cell? ⟨g, 5, none⟩ = some y5 ∧ (((((((w.setCell ⟨g, 0, none⟩ y0).setCell ⟨g, 1, none⟩ y1).setCell ⟨g, 2, none⟩ y2).setCell ⟨g, 3, none⟩ y3).setCell ⟨g, 4, none⟩ y4).setCell ⟨g, 5, none⟩ y5).setCell ⟨g, 6, none⟩ y6).cell? ⟨g, 6, none⟩ = some y6 := by
  have other : ∀ (W : World) (i j : Nat) (y u : Value), i ≠ j → W.cell? ⟨g, j, none⟩ = some u → (W.setCell ⟨g, i, none⟩ y).cell? ⟨g, j, none⟩ = some u := fun W i j y u hij h => (World.cell?_setCell_other (w := W) (a := ⟨g, i, none⟩) (b := ⟨g, j, none⟩) (v := y) (by simp <;> omega)).trans h
  have s0 := World.cell?_setCell_same (w := w) (a := ⟨g, 0, none⟩) (v := y0) r0
  have s1 := World.cell?_setCell_same (w := (w.setCell ⟨g, 0, none⟩ y0)) (a := ⟨g, 1, none⟩) (v := y1) (other _ 0 1 y0 x1 (by decide) r1)
  have s2 := World.cell?_setCell_same (w := ((w.setCell ⟨g, 0, none⟩ y0).setCell ⟨g, 1, none⟩ y1)) (a := ⟨g, 2, none⟩) (v := y2) (other _ 1 2 y1 x2 (by decide) (other _ 0 2 y0 x2 (by decide) r2))
  have s3 := World.cell?_setCell_same (w := (((w.setCell ⟨g, 0, none⟩ y0).setCell ⟨g, 1, none⟩ y1).setCell ⟨g, 2, none⟩ y2)) (a := ⟨g, 3, none⟩) (v := y3) (other _ 2 3 y2 x3 (by decide) (other _ 1 3 y1 x3 (by decide) (other _ 0 3 y0 x3 (by decide) r3)))
  have s4 := World.cell?_setCell_same (w := ((((w.setCell ⟨g, 0, none⟩ y0).setCell ⟨g, 1, none⟩ y1).setCell ⟨g, 2, none⟩ y2).setCell ⟨g, 3, none⟩ y3)) (a := ⟨g, 4, none⟩) (v := y4) (other _ 3 4 y3 x4 (by decide) (other _ 2 4 y2 x4 (by decide) (other _ 1 4 y1 x4 (by decide) (other _ 0 4 y0 x4 (by decide) r4))))
  have s5 := World.cell?_setCell_same (w := (((((w.setCell ⟨g, 0, none⟩ y0).setCell ⟨g, 1, none⟩ y1).setCell ⟨g, 2, none⟩ y2).setCell ⟨g, 3, none⟩ y3).setCell ⟨g, 4, none⟩ y4)) (a := ⟨g, 5, none⟩) (v := y5) (other _ 4 5 y4 x5 (by decide) (other _ 3 5 y3 x5 (by decide) (other _ 2 5 y2 x5 (by decide) (other _ 1 5 y1 x5 (by decide) (other _ 0 5 y0 x5 (by decide) r5)))))
  have s6 := World.cell?_setCell_same (w := ((((((w.setCell ⟨g, 0, none⟩ y0).setCell ⟨g, 1, none⟩ y1).setCell ⟨g, 2, none⟩ y2).setCell ⟨g, 3, none⟩ y3).setCell ⟨g, 4, none⟩ y4).setCell ⟨g, 5, none⟩ y5)) (a := ⟨g, 6, none⟩) (v := y6) (other _ 5 6 y5 x6 (by decide) (other _ 4 6 y4 x6 (by decide) (other _ 3 6 y3 x6 (by decide) (other _ 2 6 y2 x6 (by decide) (other _ 1 6 y1 x6 (by decide) (other _ 0 6 y0 x6 (by decide) r6))))))
  exact ⟨s0, s1, s2, s3, s4, s5, s6⟩
theorem grown_set7 (w : World) (g : Nat) (y0 y1 y2 y3 y4 y5 y6 : Value) : w.grownBy (((((((w.setCell ⟨g, 0, none⟩ y0).setCell ⟨g, 1, none⟩ y1).setCell ⟨g, 2, none⟩ y2).setCell ⟨g, 3, none⟩ y3).setCell ⟨g, 4, none⟩ y4).setCell ⟨g, 5, none⟩ y5).setCell ⟨g, 6, none⟩ y6) (some g) :=
  grown_trans (grown_trans (grown_trans (grown_trans (grown_trans (grown_trans (grown_trans (grown_refl w (some g)) (grown_set _ g 0 y0)) (grown_set _ g 1 y1)) (grown_set _ g 2 y2)) (grown_set _ g 3 y3)) (grown_set _ g 4 y4)) (grown_set _ g 5 y5)) (grown_set _ g 6 y6)

/-- What the maker's ins leaves. -/
def MkPost (B pm : Nat) (w : World) (r : Ins × List Int) (e : Ending) (w' : World) : Prop :=
  ∃ u, e = .returned (insV r.1 u) ∧ ArgsO w.heap.size w' u r.1.args ∧ MkAt B w' pm r.2 ∧ w.grownBy w' (some pm)
set_option maxHeartbeats 2000000 in
set_option maxRecDepth 100000 in
theorem mkIns_1 (B pm : Nat) (bs : List Int) (v : Int) (w : World) (h : MkAt B w pm bs) (hB : B ≤ w.heap.size) (hv : 0 < v) (hk : (nxt bs 9).1 = 0) :
    Calls Try.prog 35 #[.pointer (some ⟨pm, 0, none⟩), .int .i64 v] w (MkPost B pm w (mkOf 1 v (nxt bs 9).2)) := by
  have hpl := h.lt
  have h0 := h.below ((Below.refl w.heap.size w).alloc (Nat.le_refl _) (.cells #[.int .u8 0, .int .u8 0, .int .i64 0, .int .i64 0, .int .i64 0, .int .i64 0, .slice none 0 0] 79)) hB
  have hg0 := World.grownBy_alloc w (.cells #[.int .u8 0, .int .u8 0, .int .i64 0, .int .i64 0, .int .i64 0, .int .i64 0, .slice none 0 0] 79) (some pm)
  have hZ0 := Zero46.new w
  have hne : (some pm : Option Nat) ≠ some w.heap.size := by simp; omega
  have n0 := hide (next_any B pm bs 9 _ h0 (by omega))
  rw [hk] at n0
  have HG0 := hide hg0
  have HZ0 := hide hZ0
  clear h h0 hk hg0 hZ0
  go_enter Try.func35, Try.ntmps35
  go_wp2_with fail
  refine n0.out.mono ?_
  rintro e w1 ⟨rfl, hM, hg, hz⟩
  have HG := hide (grown_trans HG0.out hg)
  have HZ := hide (HZ0.out.grown hg hne)
  have HM := hide hM
  clear hM n0 HG0 HZ0 hz hg
  generalize hb1 : (nxt bs 9).2 = b1 at HM
  have n1 := hide (next_any B pm b1 v w1 HM.out (by omega))
  have hin0 := nxt_in (bs := b1) (n := v) (by omega)
  go_wp2_with fail
  refine n1.out.mono ?_
  rintro e w2 ⟨rfl, hM, hg, hz⟩
  have HG := hide (grown_trans HG.out hg)
  have HZ := hide (HZ.out.grown hg hne)
  have HM := hide hM
  clear hM n1 hz hg
  generalize hx0 : (nxt b1 v).1 = x0 at hin0 ⊢
  generalize hy0 : (nxt b1 v).2 = b2 at HM
  have HX0 := hide hx0
  have HY0 := hide hy0
  clear hx0 hy0
  have n2 := hide (next_any B pm b2 256 w2 HM.out (by omega))
  have hin1 := nxt_in (bs := b2) (n := 256) (by omega)
  go_wp2_with fail
  refine n2.out.mono ?_
  rintro e w3 ⟨rfl, hM, hg, hz⟩
  have HG := hide (grown_trans HG.out hg)
  have HZ := hide (HZ.out.grown hg hne)
  have HM := hide hM
  clear hM n2 hz hg
  generalize hx1 : (nxt b2 256).1 = x1 at hin1 ⊢
  generalize hy1 : (nxt b2 256).2 = b3 at HM
  have HX1 := hide hx1
  have HY1 := hide hy1
  clear hx1 hy1
  have hE : Hid (mkOf 1 v (nxt bs 9).2 = (⟨1, 0, x0, 0, 0, (x1 - 3), []⟩, b3)) := by
    show _ = _
    rw [hb1]
    simp [mkOf, HX0.out, HY0.out, HX1.out, HY1.out]
  obtain ⟨r0, r1, r2, r3, r4, r5, r6, f0, f1, f2, f3, f4, f5, f6⟩ := HZ.out.cells
  obtain ⟨q0, q1, q2, q3, q4, q5, q6⟩ := set7 (.int .u8 1) (.int .u8 0) (.int .i64 x0) (.int .i64 0) (.int .i64 0) (.int .i64 (x1 - 3)) (.slice none 0 0) r0 r1 r2 r3 r4 r5 r6
  have hgs := grown_set7 w3 w.heap.size (.int .u8 1) (.int .u8 0) (.int .i64 x0) (.int .i64 0) (.int .i64 0) (.int .i64 (x1 - 3)) (.slice none 0 0)
  have hsz : B ≤ w3.heap.size := Nat.le_trans hB HG.out.size
  have HMf := hide (HM.out.grown hgs hsz (fun k hk => by simp at hk; omega))
  have HGf := hide (grown_own HG.out hgs (fun k hk => by simp at hk; omega))
  clear hgs hsz HM HG HZ hb1
  go_wp2_with fail
  refine bodyPost_ret (v := insV ⟨1, 0, x0, 0, 0, (x1 - 3), []⟩ (.slice none 0 0)) (by simp [results, Try.results35, go_sem, insV, q0, q1, q2, q3, q4, q5, q6]) rfl ?_
  exact ⟨_, by rw [hE.out], by rw [hE.out]; exact ArgsO.nil _ _, by rw [hE.out]; exact HMf.out, HGf.out⟩
set_option maxHeartbeats 2000000 in
set_option maxRecDepth 100000 in
theorem mkIns_2 (B pm : Nat) (bs : List Int) (v : Int) (w : World) (h : MkAt B w pm bs) (hB : B ≤ w.heap.size) (hv : 0 < v) (hk : (nxt bs 9).1 = 1) :
    Calls Try.prog 35 #[.pointer (some ⟨pm, 0, none⟩), .int .i64 v] w (MkPost B pm w (mkOf 2 v (nxt bs 9).2)) := by
  have hpl := h.lt
  have h0 := h.below ((Below.refl w.heap.size w).alloc (Nat.le_refl _) (.cells #[.int .u8 0, .int .u8 0, .int .i64 0, .int .i64 0, .int .i64 0, .int .i64 0, .slice none 0 0] 79)) hB
  have hg0 := World.grownBy_alloc w (.cells #[.int .u8 0, .int .u8 0, .int .i64 0, .int .i64 0, .int .i64 0, .int .i64 0, .slice none 0 0] 79) (some pm)
  have hZ0 := Zero46.new w
  have hne : (some pm : Option Nat) ≠ some w.heap.size := by simp; omega
  have n0 := hide (next_any B pm bs 9 _ h0 (by omega))
  rw [hk] at n0
  have HG0 := hide hg0
  have HZ0 := hide hZ0
  clear h h0 hk hg0 hZ0
  go_enter Try.func35, Try.ntmps35
  go_wp2_with fail
  refine n0.out.mono ?_
  rintro e w1 ⟨rfl, hM, hg, hz⟩
  have HG := hide (grown_trans HG0.out hg)
  have HZ := hide (HZ0.out.grown hg hne)
  have HM := hide hM
  clear hM n0 HG0 HZ0 hz hg
  generalize hb1 : (nxt bs 9).2 = b1 at HM
  have n1 := hide (next_any B pm b1 v w1 HM.out (by omega))
  have hin0 := nxt_in (bs := b1) (n := v) (by omega)
  go_wp2_with fail
  refine n1.out.mono ?_
  rintro e w2 ⟨rfl, hM, hg, hz⟩
  have HG := hide (grown_trans HG.out hg)
  have HZ := hide (HZ.out.grown hg hne)
  have HM := hide hM
  clear hM n1 hz hg
  generalize hx0 : (nxt b1 v).1 = x0 at hin0 ⊢
  generalize hy0 : (nxt b1 v).2 = b2 at HM
  have HX0 := hide hx0
  have HY0 := hide hy0
  clear hx0 hy0
  have n2 := hide (next_any B pm b2 v w2 HM.out (by omega))
  have hin1 := nxt_in (bs := b2) (n := v) (by omega)
  go_wp2_with fail
  refine n2.out.mono ?_
  rintro e w3 ⟨rfl, hM, hg, hz⟩
  have HG := hide (grown_trans HG.out hg)
  have HZ := hide (HZ.out.grown hg hne)
  have HM := hide hM
  clear hM n2 hz hg
  generalize hx1 : (nxt b2 v).1 = x1 at hin1 ⊢
  generalize hy1 : (nxt b2 v).2 = b3 at HM
  have HX1 := hide hx1
  have HY1 := hide hy1
  clear hx1 hy1
  have hE : Hid (mkOf 2 v (nxt bs 9).2 = (⟨2, 0, x0, x1, 0, 0, []⟩, b3)) := by
    show _ = _
    rw [hb1]
    simp [mkOf, HX0.out, HY0.out, HX1.out, HY1.out]
  obtain ⟨r0, r1, r2, r3, r4, r5, r6, f0, f1, f2, f3, f4, f5, f6⟩ := HZ.out.cells
  obtain ⟨q0, q1, q2, q3, q4, q5, q6⟩ := set7 (.int .u8 2) (.int .u8 0) (.int .i64 x0) (.int .i64 x1) (.int .i64 0) (.int .i64 0) (.slice none 0 0) r0 r1 r2 r3 r4 r5 r6
  have hgs := grown_set7 w3 w.heap.size (.int .u8 2) (.int .u8 0) (.int .i64 x0) (.int .i64 x1) (.int .i64 0) (.int .i64 0) (.slice none 0 0)
  have hsz : B ≤ w3.heap.size := Nat.le_trans hB HG.out.size
  have HMf := hide (HM.out.grown hgs hsz (fun k hk => by simp at hk; omega))
  have HGf := hide (grown_own HG.out hgs (fun k hk => by simp at hk; omega))
  clear hgs hsz HM HG HZ hb1
  go_wp2_with fail
  refine bodyPost_ret (v := insV ⟨2, 0, x0, x1, 0, 0, []⟩ (.slice none 0 0)) (by simp [results, Try.results35, go_sem, insV, q0, q1, q2, q3, q4, q5, q6]) rfl ?_
  exact ⟨_, by rw [hE.out], by rw [hE.out]; exact ArgsO.nil _ _, by rw [hE.out]; exact HMf.out, HGf.out⟩
set_option maxHeartbeats 2000000 in
set_option maxRecDepth 100000 in
theorem mkIns_3 (B pm : Nat) (bs : List Int) (v : Int) (w : World) (h : MkAt B w pm bs) (hB : B ≤ w.heap.size) (hv : 0 < v) (hk : (nxt bs 9).1 = 2) :
    Calls Try.prog 35 #[.pointer (some ⟨pm, 0, none⟩), .int .i64 v] w (MkPost B pm w (mkOf 3 v (nxt bs 9).2)) := by
  have hpl := h.lt
  have h0 := h.below ((Below.refl w.heap.size w).alloc (Nat.le_refl _) (.cells #[.int .u8 0, .int .u8 0, .int .i64 0, .int .i64 0, .int .i64 0, .int .i64 0, .slice none 0 0] 79)) hB
  have hg0 := World.grownBy_alloc w (.cells #[.int .u8 0, .int .u8 0, .int .i64 0, .int .i64 0, .int .i64 0, .int .i64 0, .slice none 0 0] 79) (some pm)
  have hZ0 := Zero46.new w
  have hne : (some pm : Option Nat) ≠ some w.heap.size := by simp; omega
  have n0 := hide (next_any B pm bs 9 _ h0 (by omega))
  rw [hk] at n0
  have HG0 := hide hg0
  have HZ0 := hide hZ0
  clear h h0 hk hg0 hZ0
  go_enter Try.func35, Try.ntmps35
  go_wp2_with fail
  refine n0.out.mono ?_
  rintro e w1 ⟨rfl, hM, hg, hz⟩
  have HG := hide (grown_trans HG0.out hg)
  have HZ := hide (HZ0.out.grown hg hne)
  have HM := hide hM
  clear hM n0 HG0 HZ0 hz hg
  generalize hb1 : (nxt bs 9).2 = b1 at HM
  have n1 := hide (next_any B pm b1 7 w1 HM.out (by omega))
  have hin0 := nxt_in (bs := b1) (n := 7) (by omega)
  go_wp2_with fail
  refine n1.out.mono ?_
  rintro e w2 ⟨rfl, hM, hg, hz⟩
  have HG := hide (grown_trans HG.out hg)
  have HZ := hide (HZ.out.grown hg hne)
  have HM := hide hM
  clear hM n1 hz hg
  generalize hx0 : (nxt b1 7).1 = x0 at hin0 ⊢
  generalize hy0 : (nxt b1 7).2 = b2 at HM
  have HX0 := hide hx0
  have HY0 := hide hy0
  clear hx0 hy0
  have n2 := hide (next_any B pm b2 v w2 HM.out (by omega))
  have hin1 := nxt_in (bs := b2) (n := v) (by omega)
  go_wp2_with fail
  refine n2.out.mono ?_
  rintro e w3 ⟨rfl, hM, hg, hz⟩
  have HG := hide (grown_trans HG.out hg)
  have HZ := hide (HZ.out.grown hg hne)
  have HM := hide hM
  clear hM n2 hz hg
  generalize hx1 : (nxt b2 v).1 = x1 at hin1 ⊢
  generalize hy1 : (nxt b2 v).2 = b3 at HM
  have HX1 := hide hx1
  have HY1 := hide hy1
  clear hx1 hy1
  have n3 := hide (next_any B pm b3 v w3 HM.out (by omega))
  have hin2 := nxt_in (bs := b3) (n := v) (by omega)
  go_wp2_with fail
  refine n3.out.mono ?_
  rintro e w4 ⟨rfl, hM, hg, hz⟩
  have HG := hide (grown_trans HG.out hg)
  have HZ := hide (HZ.out.grown hg hne)
  have HM := hide hM
  clear hM n3 hz hg
  generalize hx2 : (nxt b3 v).1 = x2 at hin2 ⊢
  generalize hy2 : (nxt b3 v).2 = b4 at HM
  have HX2 := hide hx2
  have HY2 := hide hy2
  clear hx2 hy2
  have n4 := hide (next_any B pm b4 v w4 HM.out (by omega))
  have hin3 := nxt_in (bs := b4) (n := v) (by omega)
  go_wp2_with fail
  refine n4.out.mono ?_
  rintro e w5 ⟨rfl, hM, hg, hz⟩
  have HG := hide (grown_trans HG.out hg)
  have HZ := hide (HZ.out.grown hg hne)
  have HM := hide hM
  clear hM n4 hz hg
  generalize hx3 : (nxt b4 v).1 = x3 at hin3 ⊢
  generalize hy3 : (nxt b4 v).2 = b5 at HM
  have HX3 := hide hx3
  have HY3 := hide hy3
  clear hx3 hy3
  have hE : Hid (mkOf 3 v (nxt bs 9).2 = (⟨3, (1 + x0), x1, x2, x3, 0, []⟩, b5)) := by
    show _ = _
    rw [hb1]
    simp [mkOf, HX0.out, HY0.out, HX1.out, HY1.out, HX2.out, HY2.out, HX3.out, HY3.out]
  obtain ⟨r0, r1, r2, r3, r4, r5, r6, f0, f1, f2, f3, f4, f5, f6⟩ := HZ.out.cells
  obtain ⟨q0, q1, q2, q3, q4, q5, q6⟩ := set7 (.int .u8 3) (.int .u8 (1 + x0)) (.int .i64 x1) (.int .i64 x2) (.int .i64 x3) (.int .i64 0) (.slice none 0 0) r0 r1 r2 r3 r4 r5 r6
  have hgs := grown_set7 w5 w.heap.size (.int .u8 3) (.int .u8 (1 + x0)) (.int .i64 x1) (.int .i64 x2) (.int .i64 x3) (.int .i64 0) (.slice none 0 0)
  have hsz : B ≤ w5.heap.size := Nat.le_trans hB HG.out.size
  have HMf := hide (HM.out.grown hgs hsz (fun k hk => by simp at hk; omega))
  have HGf := hide (grown_own HG.out hgs (fun k hk => by simp at hk; omega))
  have hop1 : (1 + x0) % 256 = 1 + x0 := by omega
  clear hgs hsz HM HG HZ hb1
  go_wp2_with fail
  refine bodyPost_ret (v := insV ⟨3, (1 + x0), x1, x2, x3, 0, []⟩ (.slice none 0 0)) (by simp [results, Try.results35, go_sem, insV, q0, q1, q2, q3, q4, q5, q6]) rfl ?_
  exact ⟨_, by rw [hE.out], by rw [hE.out]; exact ArgsO.nil _ _, by rw [hE.out]; exact HMf.out, HGf.out⟩
set_option maxHeartbeats 2000000 in
set_option maxRecDepth 100000 in
theorem mkIns_4 (B pm : Nat) (bs : List Int) (v : Int) (w : World) (h : MkAt B w pm bs) (hB : B ≤ w.heap.size) (hv : 0 < v) (hk : (nxt bs 9).1 = 3) :
    Calls Try.prog 35 #[.pointer (some ⟨pm, 0, none⟩), .int .i64 v] w (MkPost B pm w (mkOf 4 v (nxt bs 9).2)) := by
  have hpl := h.lt
  have h0 := h.below ((Below.refl w.heap.size w).alloc (Nat.le_refl _) (.cells #[.int .u8 0, .int .u8 0, .int .i64 0, .int .i64 0, .int .i64 0, .int .i64 0, .slice none 0 0] 79)) hB
  have hg0 := World.grownBy_alloc w (.cells #[.int .u8 0, .int .u8 0, .int .i64 0, .int .i64 0, .int .i64 0, .int .i64 0, .slice none 0 0] 79) (some pm)
  have hZ0 := Zero46.new w
  have hne : (some pm : Option Nat) ≠ some w.heap.size := by simp; omega
  have n0 := hide (next_any B pm bs 9 _ h0 (by omega))
  rw [hk] at n0
  have HG0 := hide hg0
  have HZ0 := hide hZ0
  clear h h0 hk hg0 hZ0
  go_enter Try.func35, Try.ntmps35
  go_wp2_with fail
  refine n0.out.mono ?_
  rintro e w1 ⟨rfl, hM, hg, hz⟩
  have HG := hide (grown_trans HG0.out hg)
  have HZ := hide (HZ0.out.grown hg hne)
  have HM := hide hM
  clear hM n0 HG0 HZ0 hz hg
  generalize hb1 : (nxt bs 9).2 = b1 at HM
  have n1 := hide (next_any B pm b1 v w1 HM.out (by omega))
  have hin0 := nxt_in (bs := b1) (n := v) (by omega)
  go_wp2_with fail
  refine n1.out.mono ?_
  rintro e w2 ⟨rfl, hM, hg, hz⟩
  have HG := hide (grown_trans HG.out hg)
  have HZ := hide (HZ.out.grown hg hne)
  have HM := hide hM
  clear hM n1 hz hg
  generalize hx0 : (nxt b1 v).1 = x0 at hin0 ⊢
  generalize hy0 : (nxt b1 v).2 = b2 at HM
  have HX0 := hide hx0
  have HY0 := hide hy0
  clear hx0 hy0
  have n2 := hide (next_any B pm b2 v w2 HM.out (by omega))
  have hin1 := nxt_in (bs := b2) (n := v) (by omega)
  go_wp2_with fail
  refine n2.out.mono ?_
  rintro e w3 ⟨rfl, hM, hg, hz⟩
  have HG := hide (grown_trans HG.out hg)
  have HZ := hide (HZ.out.grown hg hne)
  have HM := hide hM
  clear hM n2 hz hg
  generalize hx1 : (nxt b2 v).1 = x1 at hin1 ⊢
  generalize hy1 : (nxt b2 v).2 = b3 at HM
  have HX1 := hide hx1
  have HY1 := hide hy1
  clear hx1 hy1
  have hE : Hid (mkOf 4 v (nxt bs 9).2 = (⟨4, 0, x0, x1, 0, 0, []⟩, b3)) := by
    show _ = _
    rw [hb1]
    simp [mkOf, HX0.out, HY0.out, HX1.out, HY1.out]
  obtain ⟨r0, r1, r2, r3, r4, r5, r6, f0, f1, f2, f3, f4, f5, f6⟩ := HZ.out.cells
  obtain ⟨q0, q1, q2, q3, q4, q5, q6⟩ := set7 (.int .u8 4) (.int .u8 0) (.int .i64 x0) (.int .i64 x1) (.int .i64 0) (.int .i64 0) (.slice none 0 0) r0 r1 r2 r3 r4 r5 r6
  have hgs := grown_set7 w3 w.heap.size (.int .u8 4) (.int .u8 0) (.int .i64 x0) (.int .i64 x1) (.int .i64 0) (.int .i64 0) (.slice none 0 0)
  have hsz : B ≤ w3.heap.size := Nat.le_trans hB HG.out.size
  have HMf := hide (HM.out.grown hgs hsz (fun k hk => by simp at hk; omega))
  have HGf := hide (grown_own HG.out hgs (fun k hk => by simp at hk; omega))
  clear hgs hsz HM HG HZ hb1
  go_wp2_with fail
  refine bodyPost_ret (v := insV ⟨4, 0, x0, x1, 0, 0, []⟩ (.slice none 0 0)) (by simp [results, Try.results35, go_sem, insV, q0, q1, q2, q3, q4, q5, q6]) rfl ?_
  exact ⟨_, by rw [hE.out], by rw [hE.out]; exact ArgsO.nil _ _, by rw [hE.out]; exact HMf.out, HGf.out⟩
set_option maxHeartbeats 2000000 in
set_option maxRecDepth 100000 in
theorem mkIns_5 (B pm : Nat) (bs : List Int) (v : Int) (w : World) (h : MkAt B w pm bs) (hB : B ≤ w.heap.size) (hv : 0 < v) (hk : (nxt bs 9).1 = 4) :
    Calls Try.prog 35 #[.pointer (some ⟨pm, 0, none⟩), .int .i64 v] w (MkPost B pm w (mkOf 5 v (nxt bs 9).2)) := by
  have hpl := h.lt
  have h0 := h.below ((Below.refl w.heap.size w).alloc (Nat.le_refl _) (.cells #[.int .u8 0, .int .u8 0, .int .i64 0, .int .i64 0, .int .i64 0, .int .i64 0, .slice none 0 0] 79)) hB
  have hg0 := World.grownBy_alloc w (.cells #[.int .u8 0, .int .u8 0, .int .i64 0, .int .i64 0, .int .i64 0, .int .i64 0, .slice none 0 0] 79) (some pm)
  have hZ0 := Zero46.new w
  have hne : (some pm : Option Nat) ≠ some w.heap.size := by simp; omega
  have n0 := hide (next_any B pm bs 9 _ h0 (by omega))
  rw [hk] at n0
  have HG0 := hide hg0
  have HZ0 := hide hZ0
  clear h h0 hk hg0 hZ0
  go_enter Try.func35, Try.ntmps35
  go_wp2_with fail
  refine n0.out.mono ?_
  rintro e w1 ⟨rfl, hM, hg, hz⟩
  have HG := hide (grown_trans HG0.out hg)
  have HZ := hide (HZ0.out.grown hg hne)
  have HM := hide hM
  clear hM n0 HG0 HZ0 hz hg
  generalize hb1 : (nxt bs 9).2 = b1 at HM
  have n1 := hide (next_any B pm b1 v w1 HM.out (by omega))
  have hin0 := nxt_in (bs := b1) (n := v) (by omega)
  go_wp2_with fail
  refine n1.out.mono ?_
  rintro e w2 ⟨rfl, hM, hg, hz⟩
  have HG := hide (grown_trans HG.out hg)
  have HZ := hide (HZ.out.grown hg hne)
  have HM := hide hM
  clear hM n1 hz hg
  generalize hx0 : (nxt b1 v).1 = x0 at hin0 ⊢
  generalize hy0 : (nxt b1 v).2 = b2 at HM
  have HX0 := hide hx0
  have HY0 := hide hy0
  clear hx0 hy0
  have n2 := hide (next_any B pm b2 v w2 HM.out (by omega))
  have hin1 := nxt_in (bs := b2) (n := v) (by omega)
  go_wp2_with fail
  refine n2.out.mono ?_
  rintro e w3 ⟨rfl, hM, hg, hz⟩
  have HG := hide (grown_trans HG.out hg)
  have HZ := hide (HZ.out.grown hg hne)
  have HM := hide hM
  clear hM n2 hz hg
  generalize hx1 : (nxt b2 v).1 = x1 at hin1 ⊢
  generalize hy1 : (nxt b2 v).2 = b3 at HM
  have HX1 := hide hx1
  have HY1 := hide hy1
  clear hx1 hy1
  have hE : Hid (mkOf 5 v (nxt bs 9).2 = (⟨5, 0, 0, x0, x1, 0, []⟩, b3)) := by
    show _ = _
    rw [hb1]
    simp [mkOf, HX0.out, HY0.out, HX1.out, HY1.out]
  obtain ⟨r0, r1, r2, r3, r4, r5, r6, f0, f1, f2, f3, f4, f5, f6⟩ := HZ.out.cells
  obtain ⟨q0, q1, q2, q3, q4, q5, q6⟩ := set7 (.int .u8 5) (.int .u8 0) (.int .i64 0) (.int .i64 x0) (.int .i64 x1) (.int .i64 0) (.slice none 0 0) r0 r1 r2 r3 r4 r5 r6
  have hgs := grown_set7 w3 w.heap.size (.int .u8 5) (.int .u8 0) (.int .i64 0) (.int .i64 x0) (.int .i64 x1) (.int .i64 0) (.slice none 0 0)
  have hsz : B ≤ w3.heap.size := Nat.le_trans hB HG.out.size
  have HMf := hide (HM.out.grown hgs hsz (fun k hk => by simp at hk; omega))
  have HGf := hide (grown_own HG.out hgs (fun k hk => by simp at hk; omega))
  clear hgs hsz HM HG HZ hb1
  go_wp2_with fail
  refine bodyPost_ret (v := insV ⟨5, 0, 0, x0, x1, 0, []⟩ (.slice none 0 0)) (by simp [results, Try.results35, go_sem, insV, q0, q1, q2, q3, q4, q5, q6]) rfl ?_
  exact ⟨_, by rw [hE.out], by rw [hE.out]; exact ArgsO.nil _ _, by rw [hE.out]; exact HMf.out, HGf.out⟩
set_option maxHeartbeats 2000000 in
set_option maxRecDepth 100000 in
theorem mkIns_7 (B pm : Nat) (bs : List Int) (v : Int) (w : World) (h : MkAt B w pm bs) (hB : B ≤ w.heap.size) (hv : 0 < v) (hk : (nxt bs 9).1 = 6) :
    Calls Try.prog 35 #[.pointer (some ⟨pm, 0, none⟩), .int .i64 v] w (MkPost B pm w (mkOf 7 v (nxt bs 9).2)) := by
  have hpl := h.lt
  have h0 := h.below ((Below.refl w.heap.size w).alloc (Nat.le_refl _) (.cells #[.int .u8 0, .int .u8 0, .int .i64 0, .int .i64 0, .int .i64 0, .int .i64 0, .slice none 0 0] 79)) hB
  have hg0 := World.grownBy_alloc w (.cells #[.int .u8 0, .int .u8 0, .int .i64 0, .int .i64 0, .int .i64 0, .int .i64 0, .slice none 0 0] 79) (some pm)
  have hZ0 := Zero46.new w
  have hne : (some pm : Option Nat) ≠ some w.heap.size := by simp; omega
  have n0 := hide (next_any B pm bs 9 _ h0 (by omega))
  rw [hk] at n0
  have HG0 := hide hg0
  have HZ0 := hide hZ0
  clear h h0 hk hg0 hZ0
  go_enter Try.func35, Try.ntmps35
  go_wp2_with fail
  refine n0.out.mono ?_
  rintro e w1 ⟨rfl, hM, hg, hz⟩
  have HG := hide (grown_trans HG0.out hg)
  have HZ := hide (HZ0.out.grown hg hne)
  have HM := hide hM
  clear hM n0 HG0 HZ0 hz hg
  generalize hb1 : (nxt bs 9).2 = b1 at HM
  have n1 := hide (next_any B pm b1 v w1 HM.out (by omega))
  have hin0 := nxt_in (bs := b1) (n := v) (by omega)
  go_wp2_with fail
  refine n1.out.mono ?_
  rintro e w2 ⟨rfl, hM, hg, hz⟩
  have HG := hide (grown_trans HG.out hg)
  have HZ := hide (HZ.out.grown hg hne)
  have HM := hide hM
  clear hM n1 hz hg
  generalize hx0 : (nxt b1 v).1 = x0 at hin0 ⊢
  generalize hy0 : (nxt b1 v).2 = b2 at HM
  have HX0 := hide hx0
  have HY0 := hide hy0
  clear hx0 hy0
  have n2 := hide (next_any B pm b2 v w2 HM.out (by omega))
  have hin1 := nxt_in (bs := b2) (n := v) (by omega)
  go_wp2_with fail
  refine n2.out.mono ?_
  rintro e w3 ⟨rfl, hM, hg, hz⟩
  have HG := hide (grown_trans HG.out hg)
  have HZ := hide (HZ.out.grown hg hne)
  have HM := hide hM
  clear hM n2 hz hg
  generalize hx1 : (nxt b2 v).1 = x1 at hin1 ⊢
  generalize hy1 : (nxt b2 v).2 = b3 at HM
  have HX1 := hide hx1
  have HY1 := hide hy1
  clear hx1 hy1
  have hE : Hid (mkOf 7 v (nxt bs 9).2 = (⟨2, 0, x0, x1, 0, 0, []⟩, b3)) := by
    show _ = _
    rw [hb1]
    simp [mkOf, HX0.out, HY0.out, HX1.out, HY1.out]
  obtain ⟨r0, r1, r2, r3, r4, r5, r6, f0, f1, f2, f3, f4, f5, f6⟩ := HZ.out.cells
  obtain ⟨q0, q1, q2, q3, q4, q5, q6⟩ := set7 (.int .u8 2) (.int .u8 0) (.int .i64 x0) (.int .i64 x1) (.int .i64 0) (.int .i64 0) (.slice none 0 0) r0 r1 r2 r3 r4 r5 r6
  have hgs := grown_set7 w3 w.heap.size (.int .u8 2) (.int .u8 0) (.int .i64 x0) (.int .i64 x1) (.int .i64 0) (.int .i64 0) (.slice none 0 0)
  have hsz : B ≤ w3.heap.size := Nat.le_trans hB HG.out.size
  have HMf := hide (HM.out.grown hgs hsz (fun k hk => by simp at hk; omega))
  have HGf := hide (grown_own HG.out hgs (fun k hk => by simp at hk; omega))
  clear hgs hsz HM HG HZ hb1
  go_wp2_with fail
  refine bodyPost_ret (v := insV ⟨2, 0, x0, x1, 0, 0, []⟩ (.slice none 0 0)) (by simp [results, Try.results35, go_sem, insV, q0, q1, q2, q3, q4, q5, q6]) rfl ?_
  exact ⟨_, by rw [hE.out], by rw [hE.out]; exact ArgsO.nil _ _, by rw [hE.out]; exact HMf.out, HGf.out⟩
set_option maxHeartbeats 2000000 in
set_option maxRecDepth 100000 in
theorem mkIns_8 (B pm : Nat) (bs : List Int) (v : Int) (w : World) (h : MkAt B w pm bs) (hB : B ≤ w.heap.size) (hv : 0 < v) (hk : (nxt bs 9).1 = 7) :
    Calls Try.prog 35 #[.pointer (some ⟨pm, 0, none⟩), .int .i64 v] w (MkPost B pm w (mkOf 8 v (nxt bs 9).2)) := by
  have hpl := h.lt
  have h0 := h.below ((Below.refl w.heap.size w).alloc (Nat.le_refl _) (.cells #[.int .u8 0, .int .u8 0, .int .i64 0, .int .i64 0, .int .i64 0, .int .i64 0, .slice none 0 0] 79)) hB
  have hg0 := World.grownBy_alloc w (.cells #[.int .u8 0, .int .u8 0, .int .i64 0, .int .i64 0, .int .i64 0, .int .i64 0, .slice none 0 0] 79) (some pm)
  have hZ0 := Zero46.new w
  have hne : (some pm : Option Nat) ≠ some w.heap.size := by simp; omega
  have n0 := hide (next_any B pm bs 9 _ h0 (by omega))
  rw [hk] at n0
  have HG0 := hide hg0
  have HZ0 := hide hZ0
  clear h h0 hk hg0 hZ0
  go_enter Try.func35, Try.ntmps35
  go_wp2_with fail
  refine n0.out.mono ?_
  rintro e w1 ⟨rfl, hM, hg, hz⟩
  have HG := hide (grown_trans HG0.out hg)
  have HZ := hide (HZ0.out.grown hg hne)
  have HM := hide hM
  clear hM n0 HG0 HZ0 hz hg
  generalize hb1 : (nxt bs 9).2 = b1 at HM
  have n1 := hide (next_any B pm b1 7 w1 HM.out (by omega))
  have hin0 := nxt_in (bs := b1) (n := 7) (by omega)
  go_wp2_with fail
  refine n1.out.mono ?_
  rintro e w2 ⟨rfl, hM, hg, hz⟩
  have HG := hide (grown_trans HG.out hg)
  have HZ := hide (HZ.out.grown hg hne)
  have HM := hide hM
  clear hM n1 hz hg
  generalize hx0 : (nxt b1 7).1 = x0 at hin0 ⊢
  generalize hy0 : (nxt b1 7).2 = b2 at HM
  have HX0 := hide hx0
  have HY0 := hide hy0
  clear hx0 hy0
  have n2 := hide (next_any B pm b2 v w2 HM.out (by omega))
  have hin1 := nxt_in (bs := b2) (n := v) (by omega)
  go_wp2_with fail
  refine n2.out.mono ?_
  rintro e w3 ⟨rfl, hM, hg, hz⟩
  have HG := hide (grown_trans HG.out hg)
  have HZ := hide (HZ.out.grown hg hne)
  have HM := hide hM
  clear hM n2 hz hg
  generalize hx1 : (nxt b2 v).1 = x1 at hin1 ⊢
  generalize hy1 : (nxt b2 v).2 = b3 at HM
  have HX1 := hide hx1
  have HY1 := hide hy1
  clear hx1 hy1
  have n3 := hide (next_any B pm b3 v w3 HM.out (by omega))
  have hin2 := nxt_in (bs := b3) (n := v) (by omega)
  go_wp2_with fail
  refine n3.out.mono ?_
  rintro e w4 ⟨rfl, hM, hg, hz⟩
  have HG := hide (grown_trans HG.out hg)
  have HZ := hide (HZ.out.grown hg hne)
  have HM := hide hM
  clear hM n3 hz hg
  generalize hx2 : (nxt b3 v).1 = x2 at hin2 ⊢
  generalize hy2 : (nxt b3 v).2 = b4 at HM
  have HX2 := hide hx2
  have HY2 := hide hy2
  clear hx2 hy2
  have n4 := hide (next_any B pm b4 v w4 HM.out (by omega))
  have hin3 := nxt_in (bs := b4) (n := v) (by omega)
  go_wp2_with fail
  refine n4.out.mono ?_
  rintro e w5 ⟨rfl, hM, hg, hz⟩
  have HG := hide (grown_trans HG.out hg)
  have HZ := hide (HZ.out.grown hg hne)
  have HM := hide hM
  clear hM n4 hz hg
  generalize hx3 : (nxt b4 v).1 = x3 at hin3 ⊢
  generalize hy3 : (nxt b4 v).2 = b5 at HM
  have HX3 := hide hx3
  have HY3 := hide hy3
  clear hx3 hy3
  have hE : Hid (mkOf 8 v (nxt bs 9).2 = (⟨3, (1 + x0), x1, x2, x3, 0, []⟩, b5)) := by
    show _ = _
    rw [hb1]
    simp [mkOf, HX0.out, HY0.out, HX1.out, HY1.out, HX2.out, HY2.out, HX3.out, HY3.out]
  obtain ⟨r0, r1, r2, r3, r4, r5, r6, f0, f1, f2, f3, f4, f5, f6⟩ := HZ.out.cells
  obtain ⟨q0, q1, q2, q3, q4, q5, q6⟩ := set7 (.int .u8 3) (.int .u8 (1 + x0)) (.int .i64 x1) (.int .i64 x2) (.int .i64 x3) (.int .i64 0) (.slice none 0 0) r0 r1 r2 r3 r4 r5 r6
  have hgs := grown_set7 w5 w.heap.size (.int .u8 3) (.int .u8 (1 + x0)) (.int .i64 x1) (.int .i64 x2) (.int .i64 x3) (.int .i64 0) (.slice none 0 0)
  have hsz : B ≤ w5.heap.size := Nat.le_trans hB HG.out.size
  have HMf := hide (HM.out.grown hgs hsz (fun k hk => by simp at hk; omega))
  have HGf := hide (grown_own HG.out hgs (fun k hk => by simp at hk; omega))
  have hop1 : (1 + x0) % 256 = 1 + x0 := by omega
  clear hgs hsz HM HG HZ hb1
  go_wp2_with fail
  refine bodyPost_ret (v := insV ⟨3, (1 + x0), x1, x2, x3, 0, []⟩ (.slice none 0 0)) (by simp [results, Try.results35, go_sem, insV, q0, q1, q2, q3, q4, q5, q6]) rfl ?_
  exact ⟨_, by rw [hE.out], by rw [hE.out]; exact ArgsO.nil _ _, by rw [hE.out]; exact HMf.out, HGf.out⟩
set_option maxHeartbeats 2000000 in
set_option maxRecDepth 100000 in
theorem mkIns_9 (B pm : Nat) (bs : List Int) (v : Int) (w : World) (h : MkAt B w pm bs) (hB : B ≤ w.heap.size) (hv : 0 < v) (hk : (nxt bs 9).1 = 8) :
    Calls Try.prog 35 #[.pointer (some ⟨pm, 0, none⟩), .int .i64 v] w (MkPost B pm w (mkOf 9 v (nxt bs 9).2)) := by
  have hpl := h.lt
  have h0 := h.below ((Below.refl w.heap.size w).alloc (Nat.le_refl _) (.cells #[.int .u8 0, .int .u8 0, .int .i64 0, .int .i64 0, .int .i64 0, .int .i64 0, .slice none 0 0] 79)) hB
  have hg0 := World.grownBy_alloc w (.cells #[.int .u8 0, .int .u8 0, .int .i64 0, .int .i64 0, .int .i64 0, .int .i64 0, .slice none 0 0] 79) (some pm)
  have hZ0 := Zero46.new w
  have hne : (some pm : Option Nat) ≠ some w.heap.size := by simp; omega
  have n0 := hide (next_any B pm bs 9 _ h0 (by omega))
  rw [hk] at n0
  have HG0 := hide hg0
  have HZ0 := hide hZ0
  clear h h0 hk hg0 hZ0
  go_enter Try.func35, Try.ntmps35
  go_wp2_with fail
  refine n0.out.mono ?_
  rintro e w1 ⟨rfl, hM, hg, hz⟩
  have HG := hide (grown_trans HG0.out hg)
  have HZ := hide (HZ0.out.grown hg hne)
  have HM := hide hM
  clear hM n0 HG0 HZ0 hz hg
  generalize hb1 : (nxt bs 9).2 = b1 at HM
  have n1 := hide (next_any B pm b1 7 w1 HM.out (by omega))
  have hin0 := nxt_in (bs := b1) (n := 7) (by omega)
  go_wp2_with fail
  refine n1.out.mono ?_
  rintro e w2 ⟨rfl, hM, hg, hz⟩
  have HG := hide (grown_trans HG.out hg)
  have HZ := hide (HZ.out.grown hg hne)
  have HM := hide hM
  clear hM n1 hz hg
  generalize hx0 : (nxt b1 7).1 = x0 at hin0 ⊢
  generalize hy0 : (nxt b1 7).2 = b2 at HM
  have HX0 := hide hx0
  have HY0 := hide hy0
  clear hx0 hy0
  have n2 := hide (next_any B pm b2 v w2 HM.out (by omega))
  have hin1 := nxt_in (bs := b2) (n := v) (by omega)
  go_wp2_with fail
  refine n2.out.mono ?_
  rintro e w3 ⟨rfl, hM, hg, hz⟩
  have HG := hide (grown_trans HG.out hg)
  have HZ := hide (HZ.out.grown hg hne)
  have HM := hide hM
  clear hM n2 hz hg
  generalize hx1 : (nxt b2 v).1 = x1 at hin1 ⊢
  generalize hy1 : (nxt b2 v).2 = b3 at HM
  have HX1 := hide hx1
  have HY1 := hide hy1
  clear hx1 hy1
  have n3 := hide (next_any B pm b3 v w3 HM.out (by omega))
  have hin2 := nxt_in (bs := b3) (n := v) (by omega)
  go_wp2_with fail
  refine n3.out.mono ?_
  rintro e w4 ⟨rfl, hM, hg, hz⟩
  have HG := hide (grown_trans HG.out hg)
  have HZ := hide (HZ.out.grown hg hne)
  have HM := hide hM
  clear hM n3 hz hg
  generalize hx2 : (nxt b3 v).1 = x2 at hin2 ⊢
  generalize hy2 : (nxt b3 v).2 = b4 at HM
  have HX2 := hide hx2
  have HY2 := hide hy2
  clear hx2 hy2
  have n4 := hide (next_any B pm b4 v w4 HM.out (by omega))
  have hin3 := nxt_in (bs := b4) (n := v) (by omega)
  go_wp2_with fail
  refine n4.out.mono ?_
  rintro e w5 ⟨rfl, hM, hg, hz⟩
  have HG := hide (grown_trans HG.out hg)
  have HZ := hide (HZ.out.grown hg hne)
  have HM := hide hM
  clear hM n4 hz hg
  generalize hx3 : (nxt b4 v).1 = x3 at hin3 ⊢
  generalize hy3 : (nxt b4 v).2 = b5 at HM
  have HX3 := hide hx3
  have HY3 := hide hy3
  clear hx3 hy3
  have hE : Hid (mkOf 9 v (nxt bs 9).2 = (⟨3, (1 + x0), x1, x2, x3, 0, []⟩, b5)) := by
    show _ = _
    rw [hb1]
    simp [mkOf, HX0.out, HY0.out, HX1.out, HY1.out, HX2.out, HY2.out, HX3.out, HY3.out]
  obtain ⟨r0, r1, r2, r3, r4, r5, r6, f0, f1, f2, f3, f4, f5, f6⟩ := HZ.out.cells
  obtain ⟨q0, q1, q2, q3, q4, q5, q6⟩ := set7 (.int .u8 3) (.int .u8 (1 + x0)) (.int .i64 x1) (.int .i64 x2) (.int .i64 x3) (.int .i64 0) (.slice none 0 0) r0 r1 r2 r3 r4 r5 r6
  have hgs := grown_set7 w5 w.heap.size (.int .u8 3) (.int .u8 (1 + x0)) (.int .i64 x1) (.int .i64 x2) (.int .i64 x3) (.int .i64 0) (.slice none 0 0)
  have hsz : B ≤ w5.heap.size := Nat.le_trans hB HG.out.size
  have HMf := hide (HM.out.grown hgs hsz (fun k hk => by simp at hk; omega))
  have HGf := hide (grown_own HG.out hgs (fun k hk => by simp at hk; omega))
  have hop1 : (1 + x0) % 256 = 1 + x0 := by omega
  clear hgs hsz HM HG HZ hb1
  go_wp2_with fail
  refine bodyPost_ret (v := insV ⟨3, (1 + x0), x1, x2, x3, 0, []⟩ (.slice none 0 0)) (by simp [results, Try.results35, go_sem, insV, q0, q1, q2, q3, q4, q5, q6]) rfl ?_
  exact ⟨_, by rw [hE.out], by rw [hE.out]; exact ArgsO.nil _ _, by rw [hE.out]; exact HMf.out, HGf.out⟩
end Go.Proofs.Ytblcbccchlljhaa
