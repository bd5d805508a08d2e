/- mach.sized, mach.Check: code's first fault. -/
import Derived.Test.YtepmbkiojpffpaaMBlk
namespace Go.Proofs.Ytepmbkiojpffpaa
open Go.RowKit Ir

def CodV (w : World) (v : Value) (C : Cod) : Prop := ∃ u, v = .agg #[.int .i64 C.p, .int .i64 C.r, .int .i64 C.s, u] ∧ BlksV w u C.bs
theorem CodV.below {w w' : World} {v : Value} {C : Cod} (h : CodV w v C) (hB : Below w.heap.size w w') : CodV w' v C := by
  obtain ⟨u, h1, h2⟩ := h
  exact ⟨u, h1, h2.below hB⟩
theorem msz_eq (C : Cod) : msz C = (decide (0 ≤ C.p) && (decide (C.p ≤ 4) && (decide (3 ≤ C.r) && (decide (C.r ≤ 8) && (decide (C.p ≤ C.s) && (decide (C.s ≤ 64) && (decide (1 ≤ (C.bs.length : Int)) && decide ((C.bs.length : Int) ≤ 16)))))))) := by
  rw [Bool.eq_iff_iff]
  simp [msz]
  omega
set_option maxHeartbeats 2000000 in
set_option maxRecDepth 100000 in
theorem msz_any (C : Cod) (ub : Option Addr) (cb : Nat) (w : World) : Calls Try.prog 28 #[.agg #[.int .i64 C.p, .int .i64 C.r, .int .i64 C.s, .slice ub C.bs.length cb]] w fun r w' => r = .returned (.bool (msz C)) ∧ Below w.heap.size w w' := by
  have hE := hide (msz_eq C)
  go_enter Try.func28, Try.ntmps28
  go_wp2_with fail
  all_goals
    go_ret
    refine ⟨?_, bel1 _ _⟩
    rw [hE.out]
    simp_all <;> (intros; omega)

set_option maxHeartbeats 1000000 in
set_option maxRecDepth 100000 in
theorem mCheck_any (C : Cod) (v : Value) (w : World) (hv : CodV w v C) : Calls Try.prog 20 #[v] w fun r w' => r = .returned (faultV (mchk C)) ∧ Below w.heap.size w w' := by
  obtain ⟨u, rfl, hu⟩ := hv
  obtain ⟨ub, cb, rfl⟩ := hu.slice
  have hB0 := bel1 w (.cells #[.int .i64 C.p, .int .i64 C.r, .int .i64 C.s, .slice ub C.bs.length cb] 31)
  have hz1 : (w.alloc (.cells #[.int .i64 C.p, .int .i64 C.r, .int .i64 C.s, .slice ub C.bs.length cb] 31)).heap.size = w.heap.size + 1 := by simp
  have hB1 := bel1 (w.alloc (.cells #[.int .i64 C.p, .int .i64 C.r, .int .i64 C.s, .slice ub C.bs.length cb] 31)) (.cells #[.int .i64 0, .int .i64 0, .int .i64 0] 48)
  have hs := hide (msz_any C ub cb ((w.alloc (.cells #[.int .i64 C.p, .int .i64 C.r, .int .i64 C.s, .slice ub C.bs.length cb] 31)).alloc (.cells #[.int .i64 0, .int .i64 0, .int .i64 0] 48)))
  have HU := hide ((hu.below hB0).below hB1)
  have hB01 := bel_of hB0 hB1
  clear hu
  go_enter Try.func20, Try.ntmps20
  go_wp2_with fail
  refine hs.out.mono ?_
  rintro r w1 ⟨rfl, hB2⟩
  have hbx := hide (box33 hB2)
  have hc0 := box_cell (bel_of hB1 hB2) 0 rfl
  have hc1 := box_cell (bel_of hB1 hB2) 1 rfl
  have hc2 := box_cell (bel_of hB1 hB2) 2 rfl
  have hc3 := box_cell (bel_of hB1 hB2) 3 rfl
  rw [hz1] at hbx
  have HU1 := hide (HU.out.below hB2)
  have hBw1 := bel_of hB01 hB2
  clear hs HU hB2 hB0 hB1 hB01
  cases hsz : msz C with
  | false =>
    have he : Hid (mchk C = (2, -1, -1)) := by show _ = _; unfold mchk; rw [if_pos hsz]
    obtain ⟨r0, r1, r2, f0, f1, f2⟩ := hbx.out
    obtain ⟨q0, q1, q2⟩ := set3 (.int .i64 2) (.int .i64 (-1)) (.int .i64 (-1)) r0 r1 r2
    go_wp2_with fail
    refine bodyPost_ret (v := .agg #[.int .i64 2, .int .i64 (-1), .int .i64 (-1)]) (by simp [results, Try.results20, go_sem, q0, q1, q2]) rfl ?_
    exact ⟨by rw [he.out]; rfl, bel_set3 hBw1 (by omega) _ _ _⟩
  | true =>
    have he : Hid (mchk C = mbs C.r C.s C.bs.length C.bs 0) := by show _ = _; unfold mchk; rw [if_neg (by simp [hsz])]
    have hlen : C.bs.length ≤ 16 := by simp [msz] at hsz; omega
    have hr0 : 0 ≤ C.r := by simp [msz] at hsz; omega
    have hr1 : C.r ≤ 32 := by simp [msz] at hsz; omega
    have hBW := hide hBw1
    clear hsz hBw1
    go_wp2_with fail
    go_loopw [3, 4, 5, 6, 14] (fun _ _ _ _ iv wr => ∃ j : Nat, j ≤ C.bs.length ∧ iv = .int .i64 j ∧ Hid (mbs C.r C.s C.bs.length C.bs 0 = mbs C.r C.s C.bs.length (C.bs.drop j) j) ∧ Below w1.heap.size w1 wr) (fun _ _ _ _ iv _ => C.bs.length - (intOf iv).toNat)
    case atStart => exact ⟨0, by omega, rfl, rfl, Below.refl _ _⟩
    case round =>
      obtain ⟨j, hj, rfl, hst, hBr⟩ := hrel
      have hlt1 : w.heap.size + 1 < w1.heap.size := World.block_lt_of_cell? w1 _ hbx.out.1
      by_cases hlt : j < C.bs.length
      · obtain ⟨gb, off, rfl, ui, ⟨c0, c1, c2, c3, c4⟩, hui⟩ := SlV.at (HU1.out.below hBr) j hlt
        have hstep := hide (mbs_step (r := C.r) (s := C.s) (nb := C.bs.length) hlt)
        generalize C.bs.getD j Blk.zero = b at *
        obtain ⟨is, e⟩ := b
        simp only at c1 c2 c3 c4 hui
        obtain ⟨ai, ci, rfl⟩ := hui.slice
        have hBx := hBr.alloc hBr.size (.cells #[.slice ai is.length ci, .int .u8 e.k, .int .i64 e.a, .int .i64 e.to, .int .i64 e.el] 60)
        have hF := hide (mBlk_any ⟨is, e⟩ _ C.r C.s C.bs.length _ (hui.below (bel1 wr (.cells #[.slice ai is.length ci, .int .u8 e.k, .int .i64 e.a, .int .i64 e.to, .int .i64 e.el] 60))) hr0 hr1)
        unfold blkV at hF
        simp only at hF
        have d0 := cell_below hBx hc0
        have d1 := cell_below hBx hc1
        have d2 := cell_below hBx hc2
        have d3 := cell_below hBx hc3
        clear hui
        go_wp2_with fail
        refine hF.out.mono ?_
        rintro x w2 ⟨rfl, hB2⟩
        have hBw := bel_of hBx hB2
        clear hF hB2 hBx hBr c0 c1 c2 c3 c4 d0 d1 d2 d3
        generalize mbF ⟨is, e⟩ C.r C.s C.bs.length = f at *
        obtain ⟨f1, f2⟩ := f
        simp only at hstep ⊢
        by_cases hz : f1 = 0
        · subst hz
          have hst2 : Hid (mbs C.r C.s C.bs.length C.bs 0 = mbs C.r C.s C.bs.length (C.bs.drop (j + 1)) (j + 1)) := by
            show _ = _
            rw [hst.out, hstep.out, if_pos rfl]
          clear hst hstep
          go_wp2_with fail
          go_roundw
          case rel => exact ⟨j + 1, by omega, by go_num, hst2, hBw⟩
          case measure => simp [intOf]; omega
        · have hst2 : Hid (mbs C.r C.s C.bs.length C.bs 0 = (f1, (j : Int), f2)) := by
            show _ = _
            rw [hst.out, hstep.out, if_neg hz]
          have hzb : (f1 == 0) = false := by simpa using hz
          have hzb2 : (f1 != 0) = true := by simpa using hz
          obtain ⟨r0, r1, r2, g0, g1, g2⟩ := hbx.out
          have r0 := cell_below hBw r0
          have r1 := cell_below hBw r1
          have r2 := cell_below hBw r2
          have g0 := (hBw.frozen (p := ⟨w.heap.size + 1, 0, none⟩) hlt1).trans g0
          have g1 := (hBw.frozen (p := ⟨w.heap.size + 1, 1, none⟩) hlt1).trans g1
          have g2 := (hBw.frozen (p := ⟨w.heap.size + 1, 2, none⟩) hlt1).trans g2
          obtain ⟨q0, q1, q2⟩ := set3 (.int .i64 f1) (.int .i64 (j : Nat)) (.int .i64 f2) r0 r1 r2
          clear hst hstep hz
          go_wp2_with fail
          refine bodyPost_ret (v := .agg #[.int .i64 f1, .int .i64 (j : Nat), .int .i64 f2]) (by simp [results, Try.results20, go_sem, q0, q1, q2]) rfl ?_
          exact ⟨by rw [he.out, hst2.out]; rfl, bel_set3 (bel_of hBW.out hBw) (by omega) _ _ _⟩
      · obtain rfl : j = C.bs.length := by omega
        have hst2 : Hid (mchk C = (0, 0, 0)) := by
          show _ = _
          rw [he.out, hst.out, mbs_end]
        obtain ⟨r0, r1, r2, g0, g1, g2⟩ := hbx.out
        have r0 := cell_below hBr r0
        have r1 := cell_below hBr r1
        have r2 := cell_below hBr r2
        have g0 := (hBr.frozen (p := ⟨w.heap.size + 1, 0, none⟩) hlt1).trans g0
        have g1 := (hBr.frozen (p := ⟨w.heap.size + 1, 1, none⟩) hlt1).trans g1
        have g2 := (hBr.frozen (p := ⟨w.heap.size + 1, 2, none⟩) hlt1).trans g2
        obtain ⟨q0, q1, q2⟩ := set3 (.int .i64 0) (.int .i64 0) (.int .i64 0) r0 r1 r2
        clear he hst
        go_wp2_with fail
        refine bodyPost_ret (v := .agg #[.int .i64 0, .int .i64 0, .int .i64 0]) (by simp [results, Try.results20, go_sem, q0, q1, q2]) rfl ?_
        exact ⟨by rw [hst2.out]; rfl, bel_set3 (bel_of hBW.out hBr) (by omega) _ _ _⟩
end Go.Proofs.Ytepmbkiojpffpaa
