/- The document's blocks, over registers and slots: the first fault. -/
import Derived.Test.YtbgedbahabbanaaRIns
import Derived.Test.YtbgedbahabbanaaREnd
import Derived.Test.YtbgedbahabbanaaMCheck
namespace Go.Proofs.Ytbgedbahabbanaa
open Go.RowKit Ir

set_option maxHeartbeats 4000000 in
set_option maxRecDepth 100000 in
theorem rBlocks_any (u : Value) (bs : List Blk) (v s0 : Int) (w : World) (hu : BlksV w u bs) (hlen : bs.length ≤ 16) (hs0 : 0 ≤ s0) :
    Calls Try.prog 18 #[u, .int .i64 v, .int .i64 s0, .int .i64 400] w fun r w' => r = .returned (faultV (mbs v s0 bs.length bs 0)) ∧ Below w.heap.size w w' := by
  obtain ⟨ub, cb, rfl⟩ := hu.slice
  have hB1 := bel1 w (.cells #[.int .i64 0, .int .i64 0, .int .i64 0] 33)
  have hbx := hide (box33 (Below.refl _ (w.alloc (.cells #[.int .i64 0, .int .i64 0, .int .i64 0] 33))))
  have HU := hide (hu.below hB1)
  have hlt1 : w.heap.size < (w.alloc (.cells #[.int .i64 0, .int .i64 0, .int .i64 0] 33)).heap.size := by simp
  clear hu
  go_enter Try.func18, Try.ntmps18
  go_wp2_with fail
  generalize (w.alloc (.cells #[.int .i64 0, .int .i64 0, .int .i64 0] 33)) = w0 at *
  go_loopw [10] (fun iv wr => ∃ j : Nat, j ≤ bs.length ∧ iv = .int .i64 j ∧ Hid (mbs v s0 bs.length bs 0 = mbs v s0 bs.length (bs.drop j) j) ∧ Below w0.heap.size w0 wr) (fun iv _ => bs.length - (intOf iv).toNat)
  case atStart => exact ⟨0, by omega, rfl, rfl, Below.refl _ _⟩
  case round =>
    rename World => wo
    obtain ⟨j, hj, rfl, hst, hBr⟩ := hrel
    obtain ⟨r0, r1, r2, g0, g1, g2⟩ := hbx.out
    have r0 := cell_below hBr r0
    have r1 := cell_below hBr r1
    have r2 := cell_below hBr r2
    have g0 := (hBr.frozen (p := ⟨w.heap.size, 0, none⟩) hlt1).trans g0
    have g1 := (hBr.frozen (p := ⟨w.heap.size, 1, none⟩) hlt1).trans g1
    have g2 := (hBr.frozen (p := ⟨w.heap.size, 2, none⟩) hlt1).trans g2
    have hBwo := hide (bel_of hB1 hBr)
    by_cases hlt : j < bs.length
    · obtain ⟨gb, off, rfl, ui, ⟨c0, c1, c2, c3, c4⟩, hui⟩ := SlV.at (HU.out.below hBr) j hlt
      have hstep := hide (mbs_step (r := v) (s := s0) (nb := bs.length) hlt)
      generalize bs.getD j Blk.zero = b at *
      obtain ⟨is, e⟩ := b
      simp only at c1 c2 c3 c4 hui
      obtain ⟨ai, ci, rfl⟩ := hui.slice
      have HI := hide hui
      have hlt' : (j : Int) < (bs.length : Int) := by omega
      clear hui
      by_cases h400 : 400 < is.length
      · have h400' : (400 : Int) < (is.length : Int) := by omega
        have hst2 : Hid (mbs v s0 bs.length bs 0 = (9, (j : Int), -1)) := by
          show _ = _
          rw [hst.out, hstep.out]
          have : mbF ⟨is, e⟩ v s0 bs.length = (9, -1) := by unfold mbF; rw [if_pos h400]
          rw [this]
          rfl
        obtain ⟨q0, q1, q2⟩ := set3 (.int .i64 9) (.int .i64 (j : Nat)) (.int .i64 (-1)) r0 r1 r2
        clear hst hstep
        go_wp2_with fail
        refine bodyPost_ret (v := .agg #[.int .i64 9, .int .i64 (j : Nat), .int .i64 (-1)]) (by simp [results, Try.results18, go_sem, q0, q1, q2]) rfl ?_
        exact ⟨by rw [hst2.out]; rfl, bel_set3 hBwo.out (by omega) _ _ _⟩
      · have h400' : (is.length : Int) ≤ 400 := by omega
        have hbf := hide (mbF_ins (b := ⟨is, e⟩) (r := v) (s := s0) (nb := bs.length) h400)
        go_wp2_with fail
        go_loopw [11, 12] (fun kv _ wr => ∃ k : Nat, k ≤ is.length ∧ kv = .int .i64 k ∧ Hid (mFs v s0 is 0 = mFs v s0 (is.drop k) k) ∧ Below wo.heap.size wo wr) (fun kv _ _ => is.length - (intOf kv).toNat)
        case atStart => exact ⟨0, by omega, rfl, rfl, Below.refl _ _⟩
        case round =>
          rename World => ws
          obtain ⟨k, hk, rfl, hsti, hBs⟩ := hrel
          have c0 := cell_below hBs c0
          have c1 := cell_below hBs c1
          have c2 := cell_below hBs c2
          have c3 := cell_below hBs c3
          have c4 := cell_below hBs c4
          have r0 := cell_below hBs r0
          have r1 := cell_below hBs r1
          have r2 := cell_below hBs r2
          have hlto : w.heap.size < wo.heap.size := Nat.lt_of_lt_of_le hlt1 hBr.size
          have g0 := (hBs.frozen (p := ⟨w.heap.size, 0, none⟩) hlto).trans g0
          have g1 := (hBs.frozen (p := ⟨w.heap.size, 1, none⟩) hlto).trans g1
          have g2 := (hBs.frozen (p := ⟨w.heap.size, 2, none⟩) hlto).trans g2
          have hBws := hide (bel_of hBwo.out hBs)
          by_cases hltk : k < is.length
          · obtain ⟨gi, offi, rfl, uu, ⟨a0, a1, a2, a3, a4, a5, a6⟩, huu⟩ := SlV.at (HI.out.below hBs) k hltk
            have hstepi := hide (mFs_step (r := v) (s := s0) hltk)
            generalize is.getD k Ins.zero = i at *
            have hF := hide (rIns_any i _ v s0 ws huu hs0)
            obtain ⟨au, cu, rfl⟩ := huu.slice
            unfold insV at hF
            have hltk' : (k : Int) < (is.length : Int) := by omega
            clear huu
            go_wp2_with fail
            refine hF.out.mono ?_
            rintro x w2 ⟨rfl, hB2⟩
            by_cases hz : mF i v s0 = 0
            · rw [hz]
              have hst2 : Hid (mFs v s0 is 0 = mFs v s0 (is.drop (k + 1)) (k + 1)) := by
                show _ = _
                rw [hsti.out, hstepi.out, if_pos hz]
              have hBs2 := bel_of hBs hB2
              clear hsti hstepi hz hF hB2 a0 a1 a2 a3 a4 a5 a6
              go_wp2_with fail
              go_roundw
              case rel => exact ⟨k + 1, by omega, by go_num, hst2, hBs2⟩
              case measure => simp [intOf]; omega
            · have hst2 : Hid (mbs v s0 bs.length bs 0 = (mF i v s0, (j : Int), (k : Int))) := by
                show _ = _
                have h1 : mFs v s0 is 0 = (mF i v s0, (k : Int)) := by rw [hsti.out, hstepi.out, if_neg hz]
                rw [hst.out, hstep.out, hbf.out]
                simp only [h1]
                rw [if_neg hz, if_neg hz]
              have r0 := cell_below hB2 r0
              have r1 := cell_below hB2 r1
              have r2 := cell_below hB2 r2
              have hlts : w.heap.size < ws.heap.size := Nat.lt_of_lt_of_le hlto hBs.size
              have g0 := (hB2.frozen (p := ⟨w.heap.size, 0, none⟩) hlts).trans g0
              have g1 := (hB2.frozen (p := ⟨w.heap.size, 1, none⟩) hlts).trans g1
              have g2 := (hB2.frozen (p := ⟨w.heap.size, 2, none⟩) hlts).trans g2
              have hzb : (mF i v s0 == 0) = false := by simpa using hz
              have hzb2 : (mF i v s0 != 0) = true := by simpa using hz
              have hBw2 := hide (bel_of hBws.out hB2)
              generalize mF i v s0 = f at *
              obtain ⟨q0, q1, q2⟩ := set3 (.int .i64 f) (.int .i64 (j : Nat)) (.int .i64 (k : Nat)) r0 r1 r2
              clear hst hstep hsti hstepi hz hF hB2 a0 a1 a2 a3 a4 a5 a6 hbf
              go_wp2_with fail
              refine bodyPost_ret (v := .agg #[.int .i64 f, .int .i64 (j : Nat), .int .i64 (k : Nat)]) (by simp [results, Try.results18, go_sem, q0, q1, q2]) rfl ?_
              exact ⟨by rw [hst2.out]; rfl, bel_set3 hBw2.out (by omega) _ _ _⟩
          · obtain rfl : k = is.length := by omega
            have hE := hide (rEnd_any e v bs.length ws)
            unfold endV at hE
            have hfin : Hid (mbF ⟨is, e⟩ v s0 bs.length = (meF e v bs.length, (is.length : Int))) := by
              show _ = _
              have h1 : mFs v s0 is 0 = (0, 0) := by rw [hsti.out, mFs_end]
              rw [hbf.out]
              simp only [h1]
              rfl
            clear hsti hbf
            go_wp2_with fail
            refine hE.out.mono ?_
            rintro x w2 ⟨rfl, hB2⟩
            have hBo2 := bel_of hBr (bel_of hBs hB2)
            have c0 := cell_below hB2 c0
            by_cases hz : meF e v bs.length = 0
            · rw [hz]
              have hst2 : Hid (mbs v s0 bs.length bs 0 = mbs v s0 bs.length (bs.drop (j + 1)) (j + 1)) := by
                show _ = _
                rw [hst.out, hstep.out, hfin.out]
                simp only
                rw [if_pos hz]
              clear hst hstep hz hE hB2 hfin
              go_wp2_with fail
              go_roundw
              case rel => exact ⟨j + 1, by omega, by go_num, hst2, hBo2⟩
              case measure => simp [intOf]; omega
            · have hst2 : Hid (mbs v s0 bs.length bs 0 = (meF e v bs.length, (j : Int), (is.length : Int))) := by
                show _ = _
                rw [hst.out, hstep.out, hfin.out]
                simp only
                rw [if_neg hz]
              have r0 := cell_below hB2 r0
              have r1 := cell_below hB2 r1
              have r2 := cell_below hB2 r2
              have hlts : w.heap.size < ws.heap.size := Nat.lt_of_lt_of_le hlto hBs.size
              have g0 := (hB2.frozen (p := ⟨w.heap.size, 0, none⟩) hlts).trans g0
              have g1 := (hB2.frozen (p := ⟨w.heap.size, 1, none⟩) hlts).trans g1
              have g2 := (hB2.frozen (p := ⟨w.heap.size, 2, none⟩) hlts).trans g2
              have hzb : (meF e v bs.length == 0) = false := by simpa using hz
              have hzb2 : (meF e v bs.length != 0) = true := by simpa using hz
              have hBw2 := hide (bel_of hBws.out hB2)
              generalize meF e v bs.length = f at *
              obtain ⟨q0, q1, q2⟩ := set3 (.int .i64 f) (.int .i64 (j : Nat)) (.int .i64 (is.length : Nat)) r0 r1 r2
              clear hst hstep hz hE hB2 hfin
              go_wp2_with fail
              refine bodyPost_ret (v := .agg #[.int .i64 f, .int .i64 (j : Nat), .int .i64 (is.length : Nat)]) (by simp [results, Try.results18, go_sem, q0, q1, q2]) rfl ?_
              exact ⟨by rw [hst2.out]; rfl, bel_set3 hBw2.out (by omega) _ _ _⟩
    · obtain rfl : j = bs.length := by omega
      have hst2 : Hid (mbs v s0 bs.length bs 0 = (0, 0, 0)) := by
        show _ = _
        rw [hst.out, mbs_end]
      obtain ⟨q0, q1, q2⟩ := set3 (.int .i64 0) (.int .i64 0) (.int .i64 0) r0 r1 r2
      clear hst
      go_wp2_with fail
      refine bodyPost_ret (v := .agg #[.int .i64 0, .int .i64 0, .int .i64 0]) (by simp [results, Try.results18, go_sem, q0, q1, q2]) rfl ?_
      exact ⟨by rw [hst2.out]; rfl, bel_set3 hBwo.out (by omega) _ _ _⟩
end Go.Proofs.Ytbgedbahabbanaa
