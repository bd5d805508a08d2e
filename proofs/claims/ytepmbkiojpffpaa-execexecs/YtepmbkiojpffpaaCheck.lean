/- ir.sized, ir.Check: a function's first fault. -/
import Derived.Test.YtepmbkiojpffpaaChk
namespace Go.Proofs.Ytepmbkiojpffpaa
open Go.RowKit Ir

theorem sized_eq (F : Fun) : sized F = (decide (0 ≤ F.p) && (decide (F.p ≤ 4) && (decide (F.p ≤ F.v) && (decide (F.v ≤ 32) && (decide (1 ≤ (F.bs.length : Int)) && decide ((F.bs.length : Int) ≤ 16)))))) := by
  rw [Bool.eq_iff_iff]
  simp [sized]
  omega
set_option maxHeartbeats 1000000 in
set_option maxRecDepth 100000 in
theorem sized_any (F : Fun) (ub : Option Addr) (cb : Nat) (w : World) : Calls Try.prog 35 #[.agg #[.int .i64 F.p, .int .i64 F.v, .slice ub F.bs.length cb]] w fun r w' => r = .returned (.bool (sized F)) ∧ Below w.heap.size w w' := by
  have hE := hide (sized_eq F)
  go_enter Try.func35, Try.ntmps35
  go_wp2_with fail
  all_goals
    go_ret
    refine ⟨?_, bel1 _ _⟩
    rw [hE.out]
    simp_all <;> (intros; omega)

def faultV (c : Int × Int × Int) : Value := .agg #[.int .i64 c.1, .int .i64 c.2.1, .int .i64 c.2.2]
/-- Three cells of a result of the call's own, in a later world. -/
theorem box33 {w w1 : World} (hB : Below (w.alloc (.cells #[.int .i64 0, .int .i64 0, .int .i64 0] 48)).heap.size (w.alloc (.cells #[.int .i64 0, .int .i64 0, .int .i64 0] 48)) w1) :
    w1.cell? ⟨w.heap.size, 0, none⟩ = some (.int .i64 0) ∧ w1.cell? ⟨w.heap.size, 1, none⟩ = some (.int .i64 0) ∧ w1.cell? ⟨w.heap.size, 2, none⟩ = some (.int .i64 0) ∧
    w1.frozen? ⟨w.heap.size, 0, none⟩ = false ∧ w1.frozen? ⟨w.heap.size, 1, none⟩ = false ∧ w1.frozen? ⟨w.heap.size, 2, none⟩ = false := by
  have hn := heap_alloc_new w (.cells #[.int .i64 0, .int .i64 0, .int .i64 0] 48)
  have hb : w1.heap[w.heap.size]? = some (.cells #[.int .i64 0, .int .i64 0, .int .i64 0] 48) := by
    rw [hB.block _ (by simp)]
    exact hn
  exact ⟨box_cell hB 0 rfl, box_cell hB 1 rfl, box_cell hB 2 rfl, frozen_of_row _ _ _ _ _ hb, frozen_of_row _ _ _ _ _ hb, frozen_of_row _ _ _ _ _ hb⟩

/-- Three cells, stored one behind the other. -/
theorem set3 {w : World} {g : Nat} {x0 x1 x2 : Value} (a b c : Value) (r0 : w.cell? ⟨g, 0, none⟩ = some x0) (r1 : w.cell? ⟨g, 1, none⟩ = some x1) (r2 : w.cell? ⟨g, 2, none⟩ = some x2) :
    (w.setCell ⟨g, 0, none⟩ a).cell? ⟨g, 0, none⟩ = some a ∧ ((w.setCell ⟨g, 0, none⟩ a).setCell ⟨g, 1, none⟩ b).cell? ⟨g, 1, none⟩ = some b ∧ (((w.setCell ⟨g, 0, none⟩ a).setCell ⟨g, 1, none⟩ b).setCell ⟨g, 2, none⟩ c).cell? ⟨g, 2, none⟩ = some c := by
  have h1 : (w.setCell ⟨g, 0, none⟩ a).cell? ⟨g, 1, none⟩ = some x1 := (World.cell?_setCell_other (w := w) (a := ⟨g, 0, none⟩) (b := ⟨g, 1, none⟩) (v := a) (by simp)).trans r1
  have h2 : (w.setCell ⟨g, 0, none⟩ a).cell? ⟨g, 2, none⟩ = some x2 := (World.cell?_setCell_other (w := w) (a := ⟨g, 0, none⟩) (b := ⟨g, 2, none⟩) (v := a) (by simp)).trans r2
  have h3 : ((w.setCell ⟨g, 0, none⟩ a).setCell ⟨g, 1, none⟩ b).cell? ⟨g, 2, none⟩ = some x2 := (World.cell?_setCell_other (w := w.setCell ⟨g, 0, none⟩ a) (a := ⟨g, 1, none⟩) (b := ⟨g, 2, none⟩) (v := b) (by simp)).trans h2
  exact ⟨World.cell?_setCell_same (w := w) (a := ⟨g, 0, none⟩) (v := a) r0, World.cell?_setCell_same (w := w.setCell ⟨g, 0, none⟩ a) (a := ⟨g, 1, none⟩) (v := b) h1, World.cell?_setCell_same (w := (w.setCell ⟨g, 0, none⟩ a).setCell ⟨g, 1, none⟩ b) (a := ⟨g, 2, none⟩) (v := c) h3⟩
theorem bel_set3 {B : Nat} {w w1 : World} (h : Below B w w1) {g : Nat} (hg : B ≤ g) (a b c : Value) : Below B w (((w1.setCell ⟨g, 0, none⟩ a).setCell ⟨g, 1, none⟩ b).setCell ⟨g, 2, none⟩ c) :=
  ((h.setCell (p := ⟨g, 0, none⟩) hg a).setCell (p := ⟨g, 1, none⟩) hg b).setCell (p := ⟨g, 2, none⟩) hg c
set_option maxHeartbeats 1000000 in
set_option maxRecDepth 100000 in
theorem check_any (F : Fun) (v : Value) (w : World) (hv : FunV w v F) : Calls Try.prog 27 #[v] w fun r w' => r = .returned (faultV (chk F)) ∧ Below w.heap.size w w' := by
  obtain ⟨u, rfl, hu⟩ := hv
  obtain ⟨ub, cb, rfl⟩ := hu.slice
  have hB0 := bel1 w (.cells #[.int .i64 F.p, .int .i64 F.v, .slice ub F.bs.length cb] 53)
  have hz1 : (w.alloc (.cells #[.int .i64 F.p, .int .i64 F.v, .slice ub F.bs.length cb] 53)).heap.size = w.heap.size + 1 := by simp
  have hB1 := bel1 (w.alloc (.cells #[.int .i64 F.p, .int .i64 F.v, .slice ub F.bs.length cb] 53)) (.cells #[.int .i64 0, .int .i64 0, .int .i64 0] 48)
  have hs := hide (sized_any F ub cb ((w.alloc (.cells #[.int .i64 F.p, .int .i64 F.v, .slice ub F.bs.length cb] 53)).alloc (.cells #[.int .i64 0, .int .i64 0, .int .i64 0] 48)))
  have HU := hide ((hu.below hB0).below hB1)
  have hB01 := bel_of hB0 hB1
  clear hu
  go_enter Try.func27, Try.ntmps27
  go_wp2_with fail
  refine hs.out.mono ?_
  rintro r w1 ⟨rfl, hB2⟩
  have hbx := hide (box33 hB2)
  have hc0 := box_cell (bel_of hB1 hB2) 0 rfl
  have hc1 := box_cell (bel_of hB1 hB2) 1 rfl
  have hc2 := box_cell (bel_of hB1 hB2) 2 rfl
  rw [hz1] at hbx
  have HU1 := hide (HU.out.below hB2)
  have hBw1 := bel_of hB01 hB2
  clear hs HU hB2 hB0 hB1 hB01
  cases hsz : sized F with
  | false =>
    have he : Hid (chk F = (2, -1, -1)) := by show _ = _; unfold chk; rw [if_pos hsz]
    obtain ⟨r0, r1, r2, f0, f1, f2⟩ := hbx.out
    obtain ⟨q0, q1, q2⟩ := set3 (.int .i64 2) (.int .i64 (-1)) (.int .i64 (-1)) r0 r1 r2
    go_wp2_with fail
    refine bodyPost_ret (v := .agg #[.int .i64 2, .int .i64 (-1), .int .i64 (-1)]) (by simp [results, Try.results27, go_sem, q0, q1, q2]) rfl ?_
    exact ⟨by rw [he.out]; rfl, bel_set3 hBw1 (by omega) _ _ _⟩
  | true =>
    have he : Hid (chk F = blks F.v F.bs.length F.bs 0) := by show _ = _; unfold chk; rw [if_neg (by simp [hsz])]
    have hlen : F.bs.length ≤ 16 := by simp [sized] at hsz; omega
    have hBW := hide hBw1
    clear hsz hBw1
    go_wp2_with fail
    go_loopw [3, 4, 5, 6, 14] (fun _ _ _ _ iv wr => ∃ j : Nat, j ≤ F.bs.length ∧ iv = .int .i64 j ∧ Hid (blks F.v F.bs.length F.bs 0 = blks F.v F.bs.length (F.bs.drop j) j) ∧ Below w1.heap.size w1 wr) (fun _ _ _ _ iv _ => F.bs.length - (intOf iv).toNat)
    case atStart => exact ⟨0, by omega, rfl, rfl, Below.refl _ _⟩
    case round =>
      obtain ⟨j, hj, rfl, hst, hBr⟩ := hrel
      have hlt1 : w.heap.size + 1 < w1.heap.size := World.block_lt_of_cell? w1 _ hbx.out.1
      by_cases hlt : j < F.bs.length
      · obtain ⟨gb, off, rfl, ui, ⟨c0, c1, c2, c3, c4⟩, hui⟩ := SlV.at (HU1.out.below hBr) j hlt
        have hstep := hide (blks_step (v := F.v) (nb := F.bs.length) hlt)
        generalize F.bs.getD j Blk.zero = b at *
        obtain ⟨is, e⟩ := b
        simp only at c1 c2 c3 c4 hui
        obtain ⟨ai, ci, rfl⟩ := hui.slice
        have hBx := hBr.alloc hBr.size (.cells #[.slice ai is.length ci, .int .u8 e.k, .int .i64 e.a, .int .i64 e.to, .int .i64 e.el] 60)
        have hF := hide (blockFault_any ⟨is, e⟩ _ F.v F.bs.length _ (hui.below (bel1 wr (.cells #[.slice ai is.length ci, .int .u8 e.k, .int .i64 e.a, .int .i64 e.to, .int .i64 e.el] 60))))
        unfold blkV at hF
        simp only at hF
        have d0 := cell_below hBx hc0
        have d1 := cell_below hBx hc1
        have d2 := cell_below hBx hc2
        clear hui
        go_wp2_with fail
        refine hF.out.mono ?_
        rintro x w2 ⟨rfl, hB2⟩
        have hBw := bel_of hBx hB2
        clear hF hB2 hBx hBr c0 c1 c2 c3 c4 d0 d1 d2
        generalize blkF ⟨is, e⟩ F.v F.bs.length = f at *
        obtain ⟨f1, f2⟩ := f
        simp only at hstep ⊢
        by_cases hz : f1 = 0
        · subst hz
          have hst2 : Hid (blks F.v F.bs.length F.bs 0 = blks F.v F.bs.length (F.bs.drop (j + 1)) (j + 1)) := by
            show _ = _
            rw [hst.out, hstep.out, if_pos rfl]
          clear hst hstep
          go_wp2_with fail
          go_roundw
          case rel => exact ⟨j + 1, by omega, by go_num, hst2, hBw⟩
          case measure => simp [intOf]; omega
        · have hst2 : Hid (blks F.v F.bs.length F.bs 0 = (f1, (j : Int), f2)) := by
            show _ = _
            rw [hst.out, hstep.out, if_neg hz]
          have hzb : (f1 == 0) = false := by simpa using hz
          have hzb2 : (f1 != 0) = true := by simpa using hz
          obtain ⟨r0, r1, r2, g0, g1, g2⟩ := hbx.out
          have r0 := cell_below hBw r0
          have r1 := cell_below hBw r1
          have r2 := cell_below hBw r2
          have g0 := (hBw.frozen (p := ⟨w.heap.size + 1, 0, none⟩) hlt1).trans g0
          have g1 := (hBw.frozen (p := ⟨w.heap.size + 1, 1, none⟩) hlt1).trans g1
          have g2 := (hBw.frozen (p := ⟨w.heap.size + 1, 2, none⟩) hlt1).trans g2
          obtain ⟨q0, q1, q2⟩ := set3 (.int .i64 f1) (.int .i64 (j : Nat)) (.int .i64 f2) r0 r1 r2
          clear hst hstep hz
          go_wp2_with fail
          refine bodyPost_ret (v := .agg #[.int .i64 f1, .int .i64 (j : Nat), .int .i64 f2]) (by simp [results, Try.results27, go_sem, q0, q1, q2]) rfl ?_
          exact ⟨by rw [he.out, hst2.out]; rfl, bel_set3 (bel_of hBW.out hBw) (by omega) _ _ _⟩
      · obtain rfl : j = F.bs.length := by omega
        have hst2 : Hid (chk F = (0, 0, 0)) := by
          show _ = _
          rw [he.out, hst.out, blks_end]
        obtain ⟨r0, r1, r2, g0, g1, g2⟩ := hbx.out
        have r0 := cell_below hBr r0
        have r1 := cell_below hBr r1
        have r2 := cell_below hBr r2
        have g0 := (hBr.frozen (p := ⟨w.heap.size + 1, 0, none⟩) hlt1).trans g0
        have g1 := (hBr.frozen (p := ⟨w.heap.size + 1, 1, none⟩) hlt1).trans g1
        have g2 := (hBr.frozen (p := ⟨w.heap.size + 1, 2, none⟩) hlt1).trans g2
        obtain ⟨q0, q1, q2⟩ := set3 (.int .i64 0) (.int .i64 0) (.int .i64 0) r0 r1 r2
        clear he hst
        go_wp2_with fail
        refine bodyPost_ret (v := .agg #[.int .i64 0, .int .i64 0, .int .i64 0]) (by simp [results, Try.results27, go_sem, q0, q1, q2]) rfl ?_
        exact ⟨by rw [hst2.out]; rfl, bel_set3 (bel_of hBW.out hBr) (by omega) _ _ _⟩
end Go.Proofs.Ytepmbkiojpffpaa
