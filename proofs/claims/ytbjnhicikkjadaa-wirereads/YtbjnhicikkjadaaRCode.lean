/- The document's blocks, over registers and slots: the first fault. -/
import Derived.Test.YtbjnhicikkjadaaRIns
import Derived.Test.YtbjnhicikkjadaaREnd
import Derived.Test.YtbjnhicikkjadaaMCheck
namespace Go.Proofs.Ytbjnhicikkjadaa
open Go.RowKit Ir

set_option maxHeartbeats 4000000 in
set_option maxRecDepth 100000 in
theorem rBlocks_any (u : Value) (bs : List Blk) (v s0 : Int) (w : World) (hu : BlksV w u bs) (hlen : bs.length ≤ 16) (hs0 : 0 ≤ s0) :
    Calls Try.prog 37 #[u, .int .i64 v, .int .i64 s0, .int .i64 400] w fun r w' => r = .returned (faultV (mbs v s0 bs.length bs 0)) ∧ Below w.heap.size w w' := by
  obtain ⟨ub, cb, rfl⟩ := hu.slice
  have hB1 := bel1 w (.cells #[.int .i64 0, .int .i64 0, .int .i64 0] 37)
  have hbx := hide (box33 (Below.refl _ (w.alloc (.cells #[.int .i64 0, .int .i64 0, .int .i64 0] 37))))
  have HU := hide (hu.below hB1)
  have hlt1 : w.heap.size < (w.alloc (.cells #[.int .i64 0, .int .i64 0, .int .i64 0] 37)).heap.size := by simp
  clear hu
  go_enter Try.func37, Try.ntmps37
  go_wp2_with fail
  generalize (w.alloc (.cells #[.int .i64 0, .int .i64 0, .int .i64 0] 37)) = w0 at *
  go_loopw [10] (fun iv wr => ∃ j : Nat, j ≤ bs.length ∧ iv = .int .i64 j ∧ Hid (mbs v s0 bs.length bs 0 = mbs v s0 bs.length (bs.drop j) j) ∧ Below w0.heap.size w0 wr) (fun iv _ => bs.length - (intOf iv).toNat)
  case atStart => exact ⟨0, by omega, rfl, rfl, Below.refl _ _⟩
  case round =>
    rename World => wo
    obtain ⟨j, hj, rfl, hst, hBr⟩ := hrel
    obtain ⟨r0, r1, r2, g0, g1, g2⟩ := hbx.out
    have r0 := cell_below hBr r0
    have r1 := cell_below hBr r1
    have r2 := cell_below hBr r2
    have g0 := (hBr.frozen (p := ⟨w.heap.size, 0, none⟩) hlt1).trans g0
    have g1 := (hBr.frozen (p := ⟨w.heap.size, 1, none⟩) hlt1).trans g1
    have g2 := (hBr.frozen (p := ⟨w.heap.size, 2, none⟩) hlt1).trans g2
    have hBwo := hide (bel_of hB1 hBr)
    by_cases hlt : j < bs.length
    · obtain ⟨gb, off, rfl, ui, ⟨c0, c1, c2, c3, c4⟩, hui⟩ := SlV.at (HU.out.below hBr) j hlt
      have hstep := hide (mbs_step (r := v) (s := s0) (nb := bs.length) hlt)
      generalize bs.getD j Blk.zero = b at *
      obtain ⟨is, e⟩ := b
      simp only at c1 c2 c3 c4 hui
      obtain ⟨ai, ci, rfl⟩ := hui.slice
      have HI := hide hui
      have hlt' : (j : Int) < (bs.length : Int) := by omega
      clear hui
      by_cases h400 : 400 < is.length
      · have h400' : (400 : Int) < (is.length : Int) := by omega
        have hst2 : Hid (mbs v s0 bs.length bs 0 = (9, (j : Int), -1)) := by
          show _ = _
          rw [hst.out, hstep.out]
          have : mbF ⟨is, e⟩ v s0 bs.length = (9, -1) := by unfold mbF; rw [if_pos h400]
          rw [this]
          rfl
        obtain ⟨q0, q1, q2⟩ := set3 (.int .i64 9) (.int .i64 (j : Nat)) (.int .i64 (-1)) r0 r1 r2
        clear hst hstep
        go_wp2_with fail
        refine bodyPost_ret (v := .agg #[.int .i64 9, .int .i64 (j : Nat), .int .i64 (-1)]) (by simp [results, Try.results37, go_sem, q0, q1, q2]) rfl ?_
        exact ⟨by rw [hst2.out]; rfl, bel_set3 hBwo.out (by omega) _ _ _⟩
      · have h400' : (is.length : Int) ≤ 400 := by omega
        have hbf := hide (mbF_ins (b := ⟨is, e⟩) (r := v) (s := s0) (nb := bs.length) h400)
        go_wp2_with fail
        go_loopw [11, 12] (fun kv _ wr => ∃ k : Nat, k ≤ is.length ∧ kv = .int .i64 k ∧ Hid (mFs v s0 is 0 = mFs v s0 (is.drop k) k) ∧ Below wo.heap.size wo wr) (fun kv _ _ => is.length - (intOf kv).toNat)
        case atStart => exact ⟨0, by omega, rfl, rfl, Below.refl _ _⟩
        case round =>
          rename World => ws
          obtain ⟨k, hk, rfl, hsti, hBs⟩ := hrel
          have c0 := cell_below hBs c0
          have c1 := cell_below hBs c1
          have c2 := cell_below hBs c2
          have c3 := cell_below hBs c3
          have c4 := cell_below hBs c4
          have r0 := cell_below hBs r0
          have r1 := cell_below hBs r1
          have r2 := cell_below hBs r2
          have hlto : w.heap.size < wo.heap.size := Nat.lt_of_lt_of_le hlt1 hBr.size
          have g0 := (hBs.frozen (p := ⟨w.heap.size, 0, none⟩) hlto).trans g0
          have g1 := (hBs.frozen (p := ⟨w.heap.size, 1, none⟩) hlto).trans g1
          have g2 := (hBs.frozen (p := ⟨w.heap.size, 2, none⟩) hlto).trans g2
          have hBws := hide (bel_of hBwo.out hBs)
          by_cases hltk : k < is.length
          · obtain ⟨gi, offi, rfl, uu, ⟨a0, a1, a2, a3, a4, a5, a6⟩, huu⟩ := SlV.at (HI.out.below hBs) k hltk
            have hstepi := hide (mFs_step (r := v) (s := s0) hltk)
            generalize is.getD k Ins.zero = i at *
            have hF := hide (rIns_any i _ v s0 ws huu hs0)
            obtain ⟨au, cu, rfl⟩ := huu.slice
            unfold insV at hF
            have hltk' : (k : Int) < (is.length : Int) := by omega
            clear huu
            go_wp2_with fail
            refine hF.out.mono ?_
            rintro x w2 ⟨rfl, hB2⟩
            by_cases hz : mF i v s0 = 0
            · rw [hz]
              have hst2 : Hid (mFs v s0 is 0 = mFs v s0 (is.drop (k + 1)) (k + 1)) := by
                show _ = _
                rw [hsti.out, hstepi.out, if_pos hz]
              have hBs2 := bel_of hBs hB2
              clear hsti hstepi hz hF hB2 a0 a1 a2 a3 a4 a5 a6
              go_wp2_with fail
              go_roundw
              case rel => exact ⟨k + 1, by omega, by go_num, hst2, hBs2⟩
              case measure => simp [intOf]; omega
            · have hst2 : Hid (mbs v s0 bs.length bs 0 = (mF i v s0, (j : Int), (k : Int))) := by
                show _ = _
                have h1 : mFs v s0 is 0 = (mF i v s0, (k : Int)) := by rw [hsti.out, hstepi.out, if_neg hz]
                rw [hst.out, hstep.out, hbf.out]
                simp only [h1]
                rw [if_neg hz, if_neg hz]
              have r0 := cell_below hB2 r0
              have r1 := cell_below hB2 r1
              have r2 := cell_below hB2 r2
              have hlts : w.heap.size < ws.heap.size := Nat.lt_of_lt_of_le hlto hBs.size
              have g0 := (hB2.frozen (p := ⟨w.heap.size, 0, none⟩) hlts).trans g0
              have g1 := (hB2.frozen (p := ⟨w.heap.size, 1, none⟩) hlts).trans g1
              have g2 := (hB2.frozen (p := ⟨w.heap.size, 2, none⟩) hlts).trans g2
              have hzb : (mF i v s0 == 0) = false := by simpa using hz
              have hzb2 : (mF i v s0 != 0) = true := by simpa using hz
              have hBw2 := hide (bel_of hBws.out hB2)
              generalize mF i v s0 = f at *
              obtain ⟨q0, q1, q2⟩ := set3 (.int .i64 f) (.int .i64 (j : Nat)) (.int .i64 (k : Nat)) r0 r1 r2
              clear hst hstep hsti hstepi hz hF hB2 a0 a1 a2 a3 a4 a5 a6 hbf
              go_wp2_with fail
              refine bodyPost_ret (v := .agg #[.int .i64 f, .int .i64 (j : Nat), .int .i64 (k : Nat)]) (by simp [results, Try.results37, go_sem, q0, q1, q2]) rfl ?_
              exact ⟨by rw [hst2.out]; rfl, bel_set3 hBw2.out (by omega) _ _ _⟩
          · obtain rfl : k = is.length := by omega
            have hE := hide (rEnd_any e v bs.length ws)
            unfold endV at hE
            have hfin : Hid (mbF ⟨is, e⟩ v s0 bs.length = (meF e v bs.length, (is.length : Int))) := by
              show _ = _
              have h1 : mFs v s0 is 0 = (0, 0) := by rw [hsti.out, mFs_end]
              rw [hbf.out]
              simp only [h1]
              rfl
            clear hsti hbf
            go_wp2_with fail
            refine hE.out.mono ?_
            rintro x w2 ⟨rfl, hB2⟩
            have hBo2 := bel_of hBr (bel_of hBs hB2)
            have c0 := cell_below hB2 c0
            by_cases hz : meF e v bs.length = 0
            · rw [hz]
              have hst2 : Hid (mbs v s0 bs.length bs 0 = mbs v s0 bs.length (bs.drop (j + 1)) (j + 1)) := by
                show _ = _
                rw [hst.out, hstep.out, hfin.out]
                simp only
                rw [if_pos hz]
              clear hst hstep hz hE hB2 hfin
              go_wp2_with fail
              go_roundw
              case rel => exact ⟨j + 1, by omega, by go_num, hst2, hBo2⟩
              case measure => simp [intOf]; omega
            · have hst2 : Hid (mbs v s0 bs.length bs 0 = (meF e v bs.length, (j : Int), (is.length : Int))) := by
                show _ = _
                rw [hst.out, hstep.out, hfin.out]
                simp only
                rw [if_neg hz]
              have r0 := cell_below hB2 r0
              have r1 := cell_below hB2 r1
              have r2 := cell_below hB2 r2
              have hlts : w.heap.size < ws.heap.size := Nat.lt_of_lt_of_le hlto hBs.size
              have g0 := (hB2.frozen (p := ⟨w.heap.size, 0, none⟩) hlts).trans g0
              have g1 := (hB2.frozen (p := ⟨w.heap.size, 1, none⟩) hlts).trans g1
              have g2 := (hB2.frozen (p := ⟨w.heap.size, 2, none⟩) hlts).trans g2
              have hzb : (meF e v bs.length == 0) = false := by simpa using hz
              have hzb2 : (meF e v bs.length != 0) = true := by simpa using hz
              have hBw2 := hide (bel_of hBws.out hB2)
              generalize meF e v bs.length = f at *
              obtain ⟨q0, q1, q2⟩ := set3 (.int .i64 f) (.int .i64 (j : Nat)) (.int .i64 (is.length : Nat)) r0 r1 r2
              clear hst hstep hz hE hB2 hfin
              go_wp2_with fail
              refine bodyPost_ret (v := .agg #[.int .i64 f, .int .i64 (j : Nat), .int .i64 (is.length : Nat)]) (by simp [results, Try.results37, go_sem, q0, q1, q2]) rfl ?_
              exact ⟨by rw [hst2.out]; rfl, bel_set3 hBw2.out (by omega) _ _ _⟩
    · obtain rfl : j = bs.length := by omega
      have hst2 : Hid (mbs v s0 bs.length bs 0 = (0, 0, 0)) := by
        show _ = _
        rw [hst.out, mbs_end]
      obtain ⟨q0, q1, q2⟩ := set3 (.int .i64 0) (.int .i64 0) (.int .i64 0) r0 r1 r2
      clear hst
      go_wp2_with fail
      refine bodyPost_ret (v := .agg #[.int .i64 0, .int .i64 0, .int .i64 0]) (by simp [results, Try.results37, go_sem, q0, q1, q2]) rfl ?_
      exact ⟨by rw [hst2.out]; rfl, bel_set3 hBwo.out (by omega) _ _ _⟩
end Go.Proofs.Ytbjnhicikkjadaa
namespace Go.Proofs.Ytbjnhicikkjadaa
open Go.RowKit Ir

set_option maxHeartbeats 1000000 in
set_option maxRecDepth 100000 in
theorem rCode_a (C : Cod) (ub : Option Addr) (cb : Nat) (w : World)  (h : C.p < 0) : Calls Try.prog 18 #[.agg #[.int .i64 C.p, .int .i64 C.r, .int .i64 C.s, .slice ub C.bs.length cb]] w fun r w' => r = .returned (faultV (mchk C)) ∧ Below w.heap.size w w' := by
  have he : Hid (mchk C = (2, -1, -1)) := by
    show _ = _
    unfold mchk
    rw [if_pos]
    simp [msz]
    omega
  have hB0 := bel1 w (.cells #[.int .i64 C.p, .int .i64 C.r, .int .i64 C.s, .slice ub C.bs.length cb] 42)
  have hB1 := bel1 (w.alloc (.cells #[.int .i64 C.p, .int .i64 C.r, .int .i64 C.s, .slice ub C.bs.length cb] 42)) (.cells #[.int .i64 0, .int .i64 0, .int .i64 0] 37)
  have hB01 := bel_of hB0 hB1
  clear hB0 hB1
  go_enter Try.func18, Try.ntmps18
  go_wp2_with fail
  refine bodyPost_ret (v := .agg #[.int .i64 2, .int .i64 (-1), .int .i64 (-1)]) (by simp [results, Try.results18, go_sem]) rfl ?_
  exact ⟨by rw [he.out]; rfl, bel2 _ _ _⟩
set_option maxHeartbeats 1000000 in
set_option maxRecDepth 100000 in
theorem rCode_b (C : Cod) (ub : Option Addr) (cb : Nat) (w : World) (h0 : 0 ≤ C.p) (h : 4 < C.p) : Calls Try.prog 18 #[.agg #[.int .i64 C.p, .int .i64 C.r, .int .i64 C.s, .slice ub C.bs.length cb]] w fun r w' => r = .returned (faultV (mchk C)) ∧ Below w.heap.size w w' := by
  have he : Hid (mchk C = (2, -1, -1)) := by
    show _ = _
    unfold mchk
    rw [if_pos]
    simp [msz]
    omega
  have hB0 := bel1 w (.cells #[.int .i64 C.p, .int .i64 C.r, .int .i64 C.s, .slice ub C.bs.length cb] 42)
  have hB1 := bel1 (w.alloc (.cells #[.int .i64 C.p, .int .i64 C.r, .int .i64 C.s, .slice ub C.bs.length cb] 42)) (.cells #[.int .i64 0, .int .i64 0, .int .i64 0] 37)
  have hB01 := bel_of hB0 hB1
  clear hB0 hB1
  go_enter Try.func18, Try.ntmps18
  go_wp2_with fail
  refine bodyPost_ret (v := .agg #[.int .i64 2, .int .i64 (-1), .int .i64 (-1)]) (by simp [results, Try.results18, go_sem]) rfl ?_
  exact ⟨by rw [he.out]; rfl, bel2 _ _ _⟩
set_option maxHeartbeats 1000000 in
set_option maxRecDepth 100000 in
theorem rCode_c (C : Cod) (ub : Option Addr) (cb : Nat) (w : World) (h0 : 0 ≤ C.p) (h1 : C.p ≤ 4) (h : C.r < 3) : Calls Try.prog 18 #[.agg #[.int .i64 C.p, .int .i64 C.r, .int .i64 C.s, .slice ub C.bs.length cb]] w fun r w' => r = .returned (faultV (mchk C)) ∧ Below w.heap.size w w' := by
  have he : Hid (mchk C = (2, -1, -1)) := by
    show _ = _
    unfold mchk
    rw [if_pos]
    simp [msz]
    omega
  have hB0 := bel1 w (.cells #[.int .i64 C.p, .int .i64 C.r, .int .i64 C.s, .slice ub C.bs.length cb] 42)
  have hB1 := bel1 (w.alloc (.cells #[.int .i64 C.p, .int .i64 C.r, .int .i64 C.s, .slice ub C.bs.length cb] 42)) (.cells #[.int .i64 0, .int .i64 0, .int .i64 0] 37)
  have hB01 := bel_of hB0 hB1
  clear hB0 hB1
  go_enter Try.func18, Try.ntmps18
  go_wp2_with fail
  refine bodyPost_ret (v := .agg #[.int .i64 2, .int .i64 (-1), .int .i64 (-1)]) (by simp [results, Try.results18, go_sem]) rfl ?_
  exact ⟨by rw [he.out]; rfl, bel2 _ _ _⟩
set_option maxHeartbeats 1000000 in
set_option maxRecDepth 100000 in
theorem rCode_d (C : Cod) (ub : Option Addr) (cb : Nat) (w : World) (h0 : 0 ≤ C.p) (h1 : C.p ≤ 4) (h2 : 3 ≤ C.r) (h : 8 < C.r) : Calls Try.prog 18 #[.agg #[.int .i64 C.p, .int .i64 C.r, .int .i64 C.s, .slice ub C.bs.length cb]] w fun r w' => r = .returned (faultV (mchk C)) ∧ Below w.heap.size w w' := by
  have he : Hid (mchk C = (2, -1, -1)) := by
    show _ = _
    unfold mchk
    rw [if_pos]
    simp [msz]
    omega
  have hB0 := bel1 w (.cells #[.int .i64 C.p, .int .i64 C.r, .int .i64 C.s, .slice ub C.bs.length cb] 42)
  have hB1 := bel1 (w.alloc (.cells #[.int .i64 C.p, .int .i64 C.r, .int .i64 C.s, .slice ub C.bs.length cb] 42)) (.cells #[.int .i64 0, .int .i64 0, .int .i64 0] 37)
  have hB01 := bel_of hB0 hB1
  clear hB0 hB1
  go_enter Try.func18, Try.ntmps18
  go_wp2_with fail
  refine bodyPost_ret (v := .agg #[.int .i64 2, .int .i64 (-1), .int .i64 (-1)]) (by simp [results, Try.results18, go_sem]) rfl ?_
  exact ⟨by rw [he.out]; rfl, bel2 _ _ _⟩
set_option maxHeartbeats 1000000 in
set_option maxRecDepth 100000 in
theorem rCode_e (C : Cod) (ub : Option Addr) (cb : Nat) (w : World) (h0 : 0 ≤ C.p) (h1 : C.p ≤ 4) (h2 : 3 ≤ C.r) (h3 : C.r ≤ 8) (h : C.s < C.p) : Calls Try.prog 18 #[.agg #[.int .i64 C.p, .int .i64 C.r, .int .i64 C.s, .slice ub C.bs.length cb]] w fun r w' => r = .returned (faultV (mchk C)) ∧ Below w.heap.size w w' := by
  have he : Hid (mchk C = (2, -1, -1)) := by
    show _ = _
    unfold mchk
    rw [if_pos]
    simp [msz]
    omega
  have hB0 := bel1 w (.cells #[.int .i64 C.p, .int .i64 C.r, .int .i64 C.s, .slice ub C.bs.length cb] 42)
  have hB1 := bel1 (w.alloc (.cells #[.int .i64 C.p, .int .i64 C.r, .int .i64 C.s, .slice ub C.bs.length cb] 42)) (.cells #[.int .i64 0, .int .i64 0, .int .i64 0] 37)
  have hB01 := bel_of hB0 hB1
  clear hB0 hB1
  go_enter Try.func18, Try.ntmps18
  go_wp2_with fail
  refine bodyPost_ret (v := .agg #[.int .i64 2, .int .i64 (-1), .int .i64 (-1)]) (by simp [results, Try.results18, go_sem]) rfl ?_
  exact ⟨by rw [he.out]; rfl, bel2 _ _ _⟩
set_option maxHeartbeats 1000000 in
set_option maxRecDepth 100000 in
theorem rCode_f (C : Cod) (ub : Option Addr) (cb : Nat) (w : World) (h0 : 0 ≤ C.p) (h1 : C.p ≤ 4) (h2 : 3 ≤ C.r) (h3 : C.r ≤ 8) (h4 : C.p ≤ C.s) (h : 64 < C.s) : Calls Try.prog 18 #[.agg #[.int .i64 C.p, .int .i64 C.r, .int .i64 C.s, .slice ub C.bs.length cb]] w fun r w' => r = .returned (faultV (mchk C)) ∧ Below w.heap.size w w' := by
  have he : Hid (mchk C = (2, -1, -1)) := by
    show _ = _
    unfold mchk
    rw [if_pos]
    simp [msz]
    omega
  have hB0 := bel1 w (.cells #[.int .i64 C.p, .int .i64 C.r, .int .i64 C.s, .slice ub C.bs.length cb] 42)
  have hB1 := bel1 (w.alloc (.cells #[.int .i64 C.p, .int .i64 C.r, .int .i64 C.s, .slice ub C.bs.length cb] 42)) (.cells #[.int .i64 0, .int .i64 0, .int .i64 0] 37)
  have hB01 := bel_of hB0 hB1
  clear hB0 hB1
  go_enter Try.func18, Try.ntmps18
  go_wp2_with fail
  refine bodyPost_ret (v := .agg #[.int .i64 2, .int .i64 (-1), .int .i64 (-1)]) (by simp [results, Try.results18, go_sem]) rfl ?_
  exact ⟨by rw [he.out]; rfl, bel2 _ _ _⟩
set_option maxHeartbeats 1000000 in
set_option maxRecDepth 100000 in
theorem rCode_g (C : Cod) (ub : Option Addr) (cb : Nat) (w : World) (h0 : 0 ≤ C.p) (h1 : C.p ≤ 4) (h2 : 3 ≤ C.r) (h3 : C.r ≤ 8) (h4 : C.p ≤ C.s) (h5 : C.s ≤ 64) (h : C.bs.length = 0) : Calls Try.prog 18 #[.agg #[.int .i64 C.p, .int .i64 C.r, .int .i64 C.s, .slice ub C.bs.length cb]] w fun r w' => r = .returned (faultV (mchk C)) ∧ Below w.heap.size w w' := by
  have he : Hid (mchk C = (2, -1, -1)) := by
    show _ = _
    unfold mchk
    rw [if_pos]
    simp [msz]
    omega
  have hB0 := bel1 w (.cells #[.int .i64 C.p, .int .i64 C.r, .int .i64 C.s, .slice ub C.bs.length cb] 42)
  have hB1 := bel1 (w.alloc (.cells #[.int .i64 C.p, .int .i64 C.r, .int .i64 C.s, .slice ub C.bs.length cb] 42)) (.cells #[.int .i64 0, .int .i64 0, .int .i64 0] 37)
  have hB01 := bel_of hB0 hB1
  have hl1 : (((C.bs.length : Nat) : Int) == 0) = true := by rw [h]; rfl
  clear h
  clear hB0 hB1
  go_enter Try.func18, Try.ntmps18
  go_wp2_with fail
  refine bodyPost_ret (v := .agg #[.int .i64 2, .int .i64 (-1), .int .i64 (-1)]) (by simp [results, Try.results18, go_sem]) rfl ?_
  exact ⟨by rw [he.out]; rfl, bel2 _ _ _⟩
set_option maxHeartbeats 1000000 in
set_option maxRecDepth 100000 in
theorem rCode_h (C : Cod) (ub : Option Addr) (cb : Nat) (w : World) (h0 : 0 ≤ C.p) (h1 : C.p ≤ 4) (h2 : 3 ≤ C.r) (h3 : C.r ≤ 8) (h4 : C.p ≤ C.s) (h5 : C.s ≤ 64) (h : 16 < C.bs.length) : Calls Try.prog 18 #[.agg #[.int .i64 C.p, .int .i64 C.r, .int .i64 C.s, .slice ub C.bs.length cb]] w fun r w' => r = .returned (faultV (mchk C)) ∧ Below w.heap.size w w' := by
  have he : Hid (mchk C = (2, -1, -1)) := by
    show _ = _
    unfold mchk
    rw [if_pos]
    simp [msz]
    omega
  have hB0 := bel1 w (.cells #[.int .i64 C.p, .int .i64 C.r, .int .i64 C.s, .slice ub C.bs.length cb] 42)
  have hB1 := bel1 (w.alloc (.cells #[.int .i64 C.p, .int .i64 C.r, .int .i64 C.s, .slice ub C.bs.length cb] 42)) (.cells #[.int .i64 0, .int .i64 0, .int .i64 0] 37)
  have hB01 := bel_of hB0 hB1
  have hl0 : (16 : Int) < ((C.bs.length : Nat) : Int) := by omega
  have hl1 : (((C.bs.length : Nat) : Int) == 0) = false := by rw [beq_eq_false_iff_ne]; omega
  clear h
  clear hB0 hB1
  go_enter Try.func18, Try.ntmps18
  go_wp2_with fail
  refine bodyPost_ret (v := .agg #[.int .i64 2, .int .i64 (-1), .int .i64 (-1)]) (by simp [results, Try.results18, go_sem]) rfl ?_
  exact ⟨by rw [he.out]; rfl, bel2 _ _ _⟩
set_option maxHeartbeats 1000000 in
set_option maxRecDepth 100000 in
theorem rCode_i (C : Cod) (ub : Option Addr) (cb : Nat) (w : World) (hu : BlksV w (.slice ub C.bs.length cb) C.bs) (h0 : 0 ≤ C.p) (h1 : C.p ≤ 4) (h2 : 3 ≤ C.r) (h3 : C.r ≤ 8) (h4 : C.p ≤ C.s) (h5 : C.s ≤ 64) (h6 : 0 < C.bs.length) (h7 : C.bs.length ≤ 16) : Calls Try.prog 18 #[.agg #[.int .i64 C.p, .int .i64 C.r, .int .i64 C.s, .slice ub C.bs.length cb]] w fun r w' => r = .returned (faultV (mchk C)) ∧ Below w.heap.size w w' := by
  have he : Hid (mchk C = mbs C.r C.s C.bs.length C.bs 0) := by
    show _ = _
    unfold mchk
    rw [if_neg]
    simp [msz]
    omega
  have hB0 := bel1 w (.cells #[.int .i64 C.p, .int .i64 C.r, .int .i64 C.s, .slice ub C.bs.length cb] 42)
  have hz1 : (w.alloc (.cells #[.int .i64 C.p, .int .i64 C.r, .int .i64 C.s, .slice ub C.bs.length cb] 42)).heap.size = w.heap.size + 1 := by simp
  have hB1 := bel1 (w.alloc (.cells #[.int .i64 C.p, .int .i64 C.r, .int .i64 C.s, .slice ub C.bs.length cb] 42)) (.cells #[.int .i64 0, .int .i64 0, .int .i64 0] 37)
  have hB01 := hide (bel_of hB0 hB1)
  have hC := hide (rBlocks_any _ C.bs C.r C.s _ ((hu.below hB0).below hB1) h7 (by omega))
  have hl0 : ((C.bs.length : Nat) : Int) ≤ 16 := by omega
  have hl1 : (((C.bs.length : Nat) : Int) == 0) = false := by rw [beq_eq_false_iff_ne]; omega
  have HZ1 := hide hz1
  clear hu h6 h7 hB0 hB1 hz1
  go_enter Try.func18, Try.ntmps18
  go_wp2_with fail
  refine hC.out.mono ?_
  rintro r w1 ⟨rfl, hB2⟩
  have hbx := box33 hB2
  rw [HZ1.out] at hbx
  obtain ⟨r0, r1, r2, f0, f1, f2⟩ := hbx
  have hBw := hide (bel_of hB01.out hB2)
  generalize mbs C.r C.s C.bs.length C.bs 0 = c at *
  obtain ⟨q0, q1, q2⟩ := set3 (.int .i64 c.1) (.int .i64 c.2.1) (.int .i64 c.2.2) r0 r1 r2
  unfold faultV
  clear hC hB2 hB01
  go_wp2_with fail
  refine bodyPost_ret (v := .agg #[.int .i64 c.1, .int .i64 c.2.1, .int .i64 c.2.2]) (by simp [results, Try.results18, go_sem, q0, q1, q2]) rfl ?_
  exact ⟨by rw [he.out]; rfl, bel_set3 hBw.out (by omega) _ _ _⟩
theorem rCode_any (C : Cod) (v : Value) (w : World) (hv : CodV w v C) : Calls Try.prog 18 #[v] w fun r w' => r = .returned (faultV (mchk C)) ∧ Below w.heap.size w w' := by
  obtain ⟨u, rfl, hu⟩ := hv
  obtain ⟨ub, cb, rfl⟩ := hu.slice
  by_cases h0 : C.p < 0
  · exact rCode_a C ub cb w h0
  by_cases h1 : 4 < C.p
  · exact rCode_b C ub cb w (by omega) h1
  by_cases h2 : C.r < 3
  · exact rCode_c C ub cb w (by omega) (by omega) h2
  by_cases h3 : 8 < C.r
  · exact rCode_d C ub cb w (by omega) (by omega) (by omega) h3
  by_cases h4 : C.s < C.p
  · exact rCode_e C ub cb w (by omega) (by omega) (by omega) (by omega) h4
  by_cases h5 : 64 < C.s
  · exact rCode_f C ub cb w (by omega) (by omega) (by omega) (by omega) (by omega) h5
  by_cases h6 : C.bs.length = 0
  · exact rCode_g C ub cb w (by omega) (by omega) (by omega) (by omega) (by omega) (by omega) h6
  by_cases h7 : 16 < C.bs.length
  · exact rCode_h C ub cb w (by omega) (by omega) (by omega) (by omega) (by omega) (by omega) h7
  · exact rCode_i C ub cb w hu (by omega) (by omega) (by omega) (by omega) (by omega) (by omega) (by omega) (by omega)

set_option maxHeartbeats 4000000 in
set_option maxRecDepth 100000 in
theorem long_any (u : Value) (bs : List Blk) (w : World) (hu : BlksV w u bs) : Calls Try.prog 10 #[u] w fun r w' => (∃ c, r = .returned (.bool c)) ∧ Below w.heap.size w w' := by
  have hml := SlV.len_le hu
  obtain ⟨ub, cb, rfl⟩ := hu.slice
  have HU := hide hu
  have hml' : bs.length ≤ 9223372036854775807 := by simp [maxLen] at hml; omega
  clear hu hml
  go_enter Try.func10, Try.ntmps10
  go_wp2_with fail
  go_loopw [3, 10] (fun nv iv wr => ∃ (j : Nat) (n : Int), j ≤ bs.length ∧ iv = .int .i64 j ∧ nv = .int .i64 n ∧ 0 ≤ n ∧ n ≤ 5000 ∧ Below w.heap.size w wr) (fun _ iv _ => bs.length - (intOf iv).toNat)
  case atStart => exact ⟨0, 0, by omega, rfl, rfl, by omega, by omega, Below.refl _ _⟩
  case round =>
    rename World => wo
    obtain ⟨j, n, hj, rfl, rfl, hn0, hn1, hBr⟩ := hrel
    by_cases hlt : j < bs.length
    · obtain ⟨gb, off, rfl, ui, ⟨c0, c1, c2, c3, c4⟩, hui⟩ := SlV.at (HU.out.below hBr) j hlt
      generalize bs.getD j Blk.zero = b at *
      obtain ⟨is, e⟩ := b
      simp only at c1 c2 c3 c4 hui
      have hmi := SlV.len_le hui
      obtain ⟨ai, ci, rfl⟩ := hui.slice
      have hBx := bel1 wo (.cells #[.slice ai is.length ci, .int .u8 e.k, .int .i64 e.a, .int .i64 e.to, .int .i64 e.el] 82)
      have HI := hide (hui.below hBx)
      have hbox := hide (boxB (Below.refl _ (wo.alloc (.cells #[.slice ai is.length ci, .int .u8 e.k, .int .i64 e.a, .int .i64 e.to, .int .i64 e.el] 82))))
      have HBo := hide (bel_of hBr hBx)
      have hmi' : is.length ≤ 9223372036854775807 := by simp [maxLen] at hmi; omega
      have hlt' : (j : Int) < (bs.length : Int) := by omega
      clear hui hmi hBx hBr
      go_wp2_with fail
      generalize (wo.alloc (.cells #[.slice ai is.length ci, .int .u8 e.k, .int .i64 e.a, .int .i64 e.to, .int .i64 e.el] 82)) = w1 at *
      go_loopw [3, 18] (fun nv iv wr => ∃ (k : Nat) (n : Int), k ≤ is.length ∧ iv = .int .i64 k ∧ nv = .int .i64 n ∧ 0 ≤ n ∧ n ≤ 5000 ∧ Below w1.heap.size w1 wr) (fun _ iv _ => is.length - (intOf iv).toNat)
      case atStart => exact ⟨0, n, by omega, rfl, rfl, by omega, by omega, Below.refl _ _⟩
      case round =>
        rename World => ws
        obtain ⟨k, m, hk, rfl, rfl, hm0, hm1, hBs⟩ := hrel
        by_cases hltk : k < is.length
        · obtain ⟨gi, offi, rfl, uu, ⟨a0, a1, a2, a3, a4, a5, a6⟩, huu⟩ := SlV.at (HI.out.below hBs) k hltk
          generalize is.getD k Ins.zero = i at *
          obtain ⟨au, cu, rfl⟩ := huu.slice
          have hBy := bel_of hBs (bel1 ws (.cells #[.int .u8 i.k, .int .u8 i.op, .int .i64 i.d, .int .i64 i.a, .int .i64 i.b, .int .i64 i.n, .slice au i.args.length cu] 86))
          obtain ⟨mn, hmn⟩ : ∃ mn, mn = min (i.args.length : Int) 10000 := ⟨_, rfl⟩
          have hmin : ∀ (ts : Array TypeId) (t : TypeId) (W : World), (Builtin.min_ ts t #[.int .i64 ((i.args.length : Nat) : Int), .int .i64 10000]).run Try.prog W = .ok (.int .i64 mn) W := by
            intro ts t W
            rw [run_min_int2, hmn]
            congr 2
            split <;> omega
          have hmn' : 0 ≤ mn ∧ mn ≤ 10000 := by omega
          have hltk' : (k : Int) < (is.length : Int) := by omega
          clear huu hmn
          by_cases h5 : 5000 < m + (1 + mn)
          · go_wp2_with fail
            go_ret
            exact ⟨⟨_, rfl⟩, bel_of HBo.out hBy⟩
          · have h5' : m + (1 + mn) ≤ 5000 := by omega
            go_wp2_with fail
            go_roundw
            case rel => exact ⟨k + 1, m + (1 + mn), by omega, by go_num, by go_num, by omega, by omega, hBy⟩
            case measure => simp [intOf]; omega
        · obtain rfl : k = is.length := by omega
          obtain ⟨z0, z1, z2, z3, z4⟩ := (hbox.out.below hBs).zero
          have hBf := bel_of HBo.out hBs
          clear hbox
          by_cases h100 : 100 < j
          · have h100' : (100 : Int) < (j : Int) := by omega
            go_wp2_with fail
            go_ret
            exact ⟨⟨_, rfl⟩, hBf⟩
          · have h100' : (j : Int) ≤ 100 := by omega
            by_cases h2k : 2000 < is.length
            · have h2k' : (2000 : Int) < (is.length : Int) := by omega
              go_wp2_with fail
              go_ret
              exact ⟨⟨_, rfl⟩, hBf⟩
            · have h2k' : (is.length : Int) ≤ 2000 := by omega
              go_wp2_with fail
              go_roundw
              case rel => exact ⟨j + 1, m, by omega, by go_num, rfl, by omega, by omega, hBf⟩
              case measure => simp [intOf]; omega
    · obtain rfl : j = bs.length := by omega
      go_wp2_with fail
      go_ret
      exact ⟨⟨_, rfl⟩, hBr⟩
end Go.Proofs.Ytbjnhicikkjadaa
