/- PathsRuns: a way through blocks. -/
import Derived.Test.YtgckpmaajmlijaaLw
namespace Go.Proofs.Ytgckpmaajmlijaa
open Go.RowKit Ir Wy

set_option maxHeartbeats 8000000 in
set_option maxRecDepth 100000 in
theorem runs_walk (v0 v1 : Value) (a b c : Int) (bs : List Int) (ts : List Bool) (w : World) (hs : SpecV w v0 a b c bs) (ht : BlsV w v1 ts) :
    Calls Try.prog 5 #[v0, v1] w fun e w' => e = .returned (.bool true) ∧ Below w.heap.size w w' := by
  obtain ⟨h0, h7, hin⟩ := made_ok a b c bs
  obtain ⟨u, rfl, hs1⟩ := hs
  obtain ⟨ao, cap, rfl⟩ := hs1.2.2.2.slice
  obtain ⟨at', ct, rfl⟩ := SlV.slice ht
  have hB1 := bel1' w (.cells #[.int .u8 a, .int .u8 b, .int .u8 c, .slice ao bs.length cap] 24)
  have HS := hide (show SpecV (w.alloc (.cells #[.int .u8 a, .int .u8 b, .int .u8 c, .slice ao bs.length cap] 24)) (.agg #[.int .u8 a, .int .u8 b, .int .u8 c, .slice ao bs.length cap]) a b c bs from ⟨_, rfl, hs1.1, hs1.2.1, hs1.2.2.1, hs1.2.2.2.below hB1⟩)
  have HT := hide ht
  have HB1 := hide hB1
  have hcell := heap_alloc_new w (.cells #[.int .u8 a, .int .u8 b, .int .u8 c, .slice ao bs.length cap] 24)
  have HC := hide hcell
  clear hB1 hs1 ht hcell
  go_enter Try.func5, Try.ntmps5
  go_wp2_with fail
  refine (awake_any _).mono ?_
  rintro e w2 ⟨rfl, hB2⟩
  have hrow := (hB2.block _ (heap_lt HC.out)).trans HC.out
  have k0 : w2.cell? ⟨w.heap.size, 0, none⟩ = some (.int .u8 a) := by rw [cell_of_row _ _ _ _ _ _ hrow]; rfl
  have k1 : w2.cell? ⟨w.heap.size, 1, none⟩ = some (.int .u8 b) := by rw [cell_of_row _ _ _ _ _ _ hrow]; rfl
  have k2 : w2.cell? ⟨w.heap.size, 2, none⟩ = some (.int .u8 c) := by rw [cell_of_row _ _ _ _ _ _ hrow]; rfl
  have k3 : w2.cell? ⟨w.heap.size, 3, none⟩ = some (.slice ao bs.length cap) := by rw [cell_of_row _ _ _ _ _ _ hrow]; rfl
  have HM := hide (made_any _ a b c bs w2 (show SpecV w2 (.agg #[.int .u8 a, .int .u8 b, .int .u8 c, .slice ao bs.length cap]) a b c bs from by
    obtain ⟨u, e, h1, h2, h3, h4⟩ := HS.out
    exact ⟨u, e, h1, h2, h3, h4.below hB2⟩))
  have HB2 := hide (bel_of HB1.out hB2)
  clear hB2 hrow HS HB1 HC
  go_wp2_with fail
  refine HM.out.mono ?_
  rintro e w3 ⟨u, rfl, hO, hB3⟩
  have HE := hide hO.v.ends
  have HB3 := hide (bel_of HB2.out hB3)
  clear hO hB3 HM HB2 k0 k1 k2 k3
  generalize (made a b c bs).bs.map (·.e) = es at *
  obtain ⟨al, cl, rfl⟩ := HE.out.slice
  have hf28 := run_f28 (made a b c bs).p (made a b c bs).v al es.length cl
  go_wp2_with fail
  refine (reach_any w3 _ es HE.out hin h0 (by omega)).mono ?_
  rintro e w4 ⟨u, rfl, hS, hB4⟩
  obtain ⟨cs, rfl, hcs⟩ := hS
  have HCS := hide hcs
  have HE4 := hide (HE.out.below hB4)
  have HB4 := hide (bel_of HB3.out hB4)
  clear hcs hB4 HE HB3
  go_wp2_with (first | (refine Bg.wpList_var 35 6 rfl rfl rfl rfl (.tmp 21) rfl rfl Bg.z64 cs Bg.z27 (by simp) rfl (by rw [HCS.out.1]; exact Bg.info27) (by rw [HCS.out.1]; rfl) HCS.out.cells ?_; intro pg w5 h5))
  have HS5 : Hid (SetB w5 pg (rF es)) := hide ⟨cs, h5.out.2.1, HCS.out⟩
  have hB5 : Below w4.heap.size w4 w5 := by obtain ⟨rfl, _, h⟩ := h5.out; exact h
  have HE5 := hide (HE4.out.below hB5)
  have HB5 := hide (bel_of HB4.out hB5)
  clear h5 hB5 HE4 HB4 HCS
  have HT5 := hide (HT.out.below HB5.out)
  clear hf28 HT
  go_loopw [7, 8, 9, 10, 11, 12, 14, 24] (fun bv _ _ _ _ _ _ iv wr => ∃ (i b' : Nat), i ≤ ts.length ∧ iv = .int .i64 i ∧ bv = .int .i64 b' ∧ Hid (rF es b' = true) ∧ Hid (Below w5.heap.size w5 wr)) (fun _ _ _ _ _ _ _ iv _ => ts.length - (intOf iv).toNat)
  case atStart => exact ⟨0, 0, by omega, rfl, rfl, hide (rF_zero hin h0), hide (Below.refl _ _)⟩
  case round =>
    obtain ⟨i, x, hi, rfl, rfl, hx, hB⟩ := hrel
    obtain ⟨cs, hc1, hc2⟩ := HS5.out.below hB.out
    have HC1 := hide hc1
    have HC2 := hide hc2
    clear hc1 hc2
    have hsz : (Try.prog.info? 35).map (·.size) = some cs.size := by rw [HC2.out.1]; exact Bg.info27
    have hxl := rF_lt hin h0 hx.out
    by_cases hlt : i < ts.length
    · obtain ⟨gt, ot, rfl, htc⟩ := (HT5.out.below hB.out).at i hlt
      have hlt' : (i : Int) < (ts.length : Int) := by omega
      generalize ts.getD i false = t at *
      by_cases h100 : (i : Int) > 100
      · have h100' : (100 : Int) < (i : Int) := by omega
        have HB9 := hide (bel_to HB5.out hB.out HB5.out.size)
        go_wp2_with (first | (refine wpList_load_setN rfl (.tmp 6) rfl pg rfl cs HC1.out HC2.out.1 ?_))
        refine (has_nat (.agg cs) (rF es) x _ ⟨cs, rfl, HC2.out⟩ (by omega)).mono ?_
        rintro e w9 ⟨rfl, hB9⟩
        have HB10 := hide (bel_of HB9.out hB9)
        clear hB9
        go_wp2_with fail
        go_ret
        exact ⟨by rw [hx.out]; rfl, HB10.out⟩
      · have h100' : ¬ (100 : Int) < (i : Int) := by omega
        have HAS := hide (has_nat (.agg cs) (rF es) x wr ⟨cs, rfl, HC2.out⟩ (by omega))
        rw [hx.out] at HAS
        go_wp2_with (first | (refine wpList_load_set (by simp [Region.wanted, yielded]) (.tmp 6) rfl pg rfl cs HC1.out HC2.out.1 ?_))
        refine HAS.out.mono ?_
        rintro e w6 ⟨rfl, hB6⟩
        have HB6 := hide (bel_of hB.out hB6)
        obtain ⟨g, off, rfl, hc⟩ := (HE5.out.below HB6.out).end x hxl
        obtain ⟨c1, c2, c3, c4⟩ := hc
        have hx' : (x : Int) < (es.length : Int) := by omega
        have hnd := hide (hin.ints x)
        have hge := hide (fun j hj => nx_getD hin x j hj)
        generalize hee : es.getD x En.zero = e at *
        clear HAS hB6 htc
        go_wp2_with fail
        refine (next16 e w6).mono ?_
        rintro r W7 ⟨u, rfl, hu, hB7⟩
        have HU := hide hu.v
        have HB7 := hide (bel_of HB6.out hB7)
        have HE7 := hide (HE5.out.below HB7.out)
        obtain ⟨cs7, hc7, hC7⟩ := HS5.out.below HB7.out
        have HC7 := hide hc7
        have HC72 := hide hC7
        obtain ⟨au, cu, rfl⟩ := hu.slice
        have hf2 := fol_len e
        have hnl : (nxE es x).length = (fol e).length := by rw [← hnd.out, List.length_map]
        clear c1 c2 c3 c4 hu hB7 hc7 hC7
        by_cases hz0 : (fol e).length = 0
        · rw [hz0]
          clear HC1 HC2 hsz
          obtain ⟨cs, HC1, HC2⟩ : ∃ cs, Hid (W7.heap[pg]? = some (Obj.cells cs 35 (0, 0))) ∧ Hid (Bg.SetC cs (rF es)) := ⟨cs7, HC7, HC72⟩
          have HB9 := hide (bel_to HB5.out HB7.out HB5.out.size)
          go_wp2_with (first | (refine wpList_load_setN rfl (.tmp 6) rfl pg rfl cs HC1.out HC2.out.1 ?_))
          refine (has_nat (.agg cs) (rF es) x _ ⟨cs, rfl, HC2.out⟩ (by omega)).mono ?_
          rintro e w9 ⟨rfl, hB9⟩
          have HB10 := hide (bel_of HB9.out hB9)
          clear hB9
          go_wp2_with fail
          go_ret
          exact ⟨by rw [hx.out]; rfl, HB10.out⟩
        · have hz1 : ((fol e).length : Int) ≠ 0 := by omega
          have hzb : (((fol e).length : Int) == 0) = false := by simpa using hz1
          have hp0 : (0 : Int) < ((fol e).length : Int) := by omega
          obtain ⟨gu, ou, rfl, hu0⟩ := HU.out.at 0 (by omega)
          obtain ⟨gu', ou', e1, hul⟩ := HU.out.at ((fol e).length - 1) (by omega)
          simp only [Option.some.injEq, Addr.mk.injEq, and_true] at e1
          obtain ⟨rfl, rfl⟩ := e1
          have g0 := hge.out 0 (by omega)
          have gl := hge.out ((fol e).length - 1) (by omega)
          have m0 : (nxE es x).getD 0 0 ∈ nxE es x := by rw [getD_get _ _ _ (by omega)]; exact List.getElem_mem _
          have ml : (nxE es x).getD ((fol e).length - 1) 0 ∈ nxE es x := by rw [getD_get _ _ _ (by omega)]; exact List.getElem_mem _
          rw [g0.1] at hu0
          rw [gl.1] at hul
          rw [Nat.add_zero] at hu0
          have hl1 : ((fol e).length : Int) - 1 = (((fol e).length - 1 : Nat) : Int) := by omega
          have hl2 : (((fol e).length - 1 : Nat) : Int) < ((fol e).length : Int) := by omega
          clear g0 gl hge hz1
          cases t
          · clear ml hul
            generalize (nxE es x).getD 0 0 = y at *
            have hyx := m0
            clear m0
            have hyn : y < es.length := by have := hin.nx x hxl y hyx; exact this
            have hry := rF_next hin h0 hx.out hyx
            have HRY := hide hry
            have hxa : Hid (x ∈ ahd (nxE es) es.length y) := hide ((mem_ahd _ _ _ _).2 ⟨hxl, hyx⟩)
            have HYN := hide hyn
            have hy' : (y : Int) < (es.length : Int) := by omega
            clear hry hyx hyn
            go_wp2_with fail
            refine (ahead_any W7 _ es HE7.out hin (by omega)).mono ?_
            rintro e w8 ⟨va, rfl, hv, hB8⟩
            have HB8 := hide (bel_of HB7.out hB8)
            obtain ⟨aa, ca, rfl⟩ := hv.slice
            obtain ⟨ga, oa, r, rfl, hr, hI⟩ := hv.at y (by rw [rows_len]; exact HYN.out)
            rw [rows_at es HYN.out] at hI
            have HI := hide hI
            rw [rows_len]
            have hrl : (ci (ahd (nxE es) es.length y)).length ≤ 7 := by rw [List.length_map]; have := ahd_len (nxE es) es.length y; omega
            have HM : Hid ((x : Int) ∈ ci (ahd (nxE es) es.length y)) := hide ((ci_mem _ _).2 hxa.out)
            clear hv hB8 hI hxa
            generalize ci (ahd (nxE es) es.length y) = row at *
            obtain ⟨ar, cr, rfl⟩ := HI.out.slice
            go_wp2_with fail
            go_loopw [12, 14, 62] (fun fv _ jv wq => ∃ j : Nat, j ≤ row.length ∧ jv = .int .i64 j ∧ fv = .bool (decide ((x : Int) ∈ row.take j)) ∧ Hid (Below w8.heap.size w8 wq)) (fun _ _ jv _ => row.length - (intOf jv).toNat)
            case atStart => exact ⟨0, by omega, rfl, by simp, hide (Below.refl _ _)⟩
            case round =>
              rename World => wq
              obtain ⟨j, hj, rfl, rfl, hBq⟩ := hrel
              by_cases hjl : j < row.length
              · have hjl' : (j : Int) < (row.length : Int) := by omega
                obtain ⟨gr, orr, rfl, hrc⟩ := (HI.out.below hBq.out).at j hjl
                have hst := mem_take row j hjl (x : Int)
                have HST := hide hst
                clear hst
                generalize row.getD j 0 = z at *
                generalize decide ((x : Int) ∈ row.take j) = fd at *
                cases fd
                · by_cases hz : z = (x : Int)
                  · have hz' : (z == (x : Int)) = true := by simpa using hz
                    have HST2 := hide (HST.out.trans (by rw [hz']; rfl : _ = true))
                    clear hz
                    go_wp2_with fail
                    go_roundw
                    case rel => exact ⟨j + 1, by omega, by go_num, by rw [HST2.out], hBq⟩
                    case measure => simp [intOf]; omega
                  · have hz' : (z == (x : Int)) = false := by simpa using hz
                    have HST2 := hide (HST.out.trans (by rw [hz']; rfl : _ = false))
                    clear hz
                    go_wp2_with fail
                    go_roundw
                    case rel => exact ⟨j + 1, by omega, by go_num, by rw [HST2.out], hBq⟩
                    case measure => simp [intOf]; omega
                · have HST2 := hide (HST.out.trans (by rfl : _ = true))
                  go_wp2_with fail
                  go_roundw
                  case rel => exact ⟨j + 1, by omega, by go_num, by rw [HST2.out], hBq⟩
                  case measure => simp [intOf]; omega
              · obtain rfl : j = row.length := by omega
                rw [List.take_length, decide_eq_true HM.out]
                have HBX := hide (bel_of HB8.out hBq.out)
                go_wp2_with fail
                go_roundw
                case rel => exact ⟨i + 1, y, by omega, by go_num, rfl, HRY, HBX⟩
                case measure => simp [intOf]; omega
          · clear m0
            generalize (nxE es x).getD 0 0 = y0 at *
            generalize (nxE es x).getD ((fol e).length - 1) 0 = y at *
            generalize hle : (fol e).length - 1 = le at *
            have hyx := ml
            clear ml hle
            have hyn : y < es.length := by have := hin.nx x hxl y hyx; exact this
            have hry := rF_next hin h0 hx.out hyx
            have HRY := hide hry
            have hxa : Hid (x ∈ ahd (nxE es) es.length y) := hide ((mem_ahd _ _ _ _).2 ⟨hxl, hyx⟩)
            have HYN := hide hyn
            have hy' : (y : Int) < (es.length : Int) := by omega
            clear hry hyx hyn
            go_wp2_with fail
            refine (ahead_any W7 _ es HE7.out hin (by omega)).mono ?_
            rintro e w8 ⟨va, rfl, hv, hB8⟩
            have HB8 := hide (bel_of HB7.out hB8)
            obtain ⟨aa, ca, rfl⟩ := hv.slice
            obtain ⟨ga, oa, r, rfl, hr, hI⟩ := hv.at y (by rw [rows_len]; exact HYN.out)
            rw [rows_at es HYN.out] at hI
            have HI := hide hI
            rw [rows_len]
            have hrl : (ci (ahd (nxE es) es.length y)).length ≤ 7 := by rw [List.length_map]; have := ahd_len (nxE es) es.length y; omega
            have HM : Hid ((x : Int) ∈ ci (ahd (nxE es) es.length y)) := hide ((ci_mem _ _).2 hxa.out)
            clear hv hB8 hI hxa
            generalize ci (ahd (nxE es) es.length y) = row at *
            obtain ⟨ar, cr, rfl⟩ := HI.out.slice
            go_wp2_with fail
            go_loopw [12, 14, 62] (fun fv _ jv wq => ∃ j : Nat, j ≤ row.length ∧ jv = .int .i64 j ∧ fv = .bool (decide ((x : Int) ∈ row.take j)) ∧ Hid (Below w8.heap.size w8 wq)) (fun _ _ jv _ => row.length - (intOf jv).toNat)
            case atStart => exact ⟨0, by omega, rfl, by simp, hide (Below.refl _ _)⟩
            case round =>
              rename World => wq
              obtain ⟨j, hj, rfl, rfl, hBq⟩ := hrel
              by_cases hjl : j < row.length
              · have hjl' : (j : Int) < (row.length : Int) := by omega
                obtain ⟨gr, orr, rfl, hrc⟩ := (HI.out.below hBq.out).at j hjl
                have hst := mem_take row j hjl (x : Int)
                have HST := hide hst
                clear hst
                generalize row.getD j 0 = z at *
                generalize decide ((x : Int) ∈ row.take j) = fd at *
                cases fd
                · by_cases hz : z = (x : Int)
                  · have hz' : (z == (x : Int)) = true := by simpa using hz
                    have HST2 := hide (HST.out.trans (by rw [hz']; rfl : _ = true))
                    clear hz
                    go_wp2_with fail
                    go_roundw
                    case rel => exact ⟨j + 1, by omega, by go_num, by rw [HST2.out], hBq⟩
                    case measure => simp [intOf]; omega
                  · have hz' : (z == (x : Int)) = false := by simpa using hz
                    have HST2 := hide (HST.out.trans (by rw [hz']; rfl : _ = false))
                    clear hz
                    go_wp2_with fail
                    go_roundw
                    case rel => exact ⟨j + 1, by omega, by go_num, by rw [HST2.out], hBq⟩
                    case measure => simp [intOf]; omega
                · have HST2 := hide (HST.out.trans (by rfl : _ = true))
                  go_wp2_with fail
                  go_roundw
                  case rel => exact ⟨j + 1, by omega, by go_num, by rw [HST2.out], hBq⟩
                  case measure => simp [intOf]; omega
              · obtain rfl : j = row.length := by omega
                rw [List.take_length, decide_eq_true HM.out]
                have HBX := hide (bel_of HB8.out hBq.out)
                go_wp2_with fail
                go_roundw
                case rel => exact ⟨i + 1, y, by omega, by go_num, rfl, HRY, HBX⟩
                case measure => simp [intOf]; omega
    · obtain rfl : i = ts.length := by omega
      have HB9 := hide (bel_to HB5.out hB.out HB5.out.size)
      go_wp2_with (first | (refine wpList_load_setN rfl (.tmp 6) rfl pg rfl cs HC1.out HC2.out.1 ?_))
      refine (has_nat (.agg cs) (rF es) x _ ⟨cs, rfl, HC2.out⟩ (by omega)).mono ?_
      rintro e w9 ⟨rfl, hB9⟩
      have HB10 := hide (bel_of HB9.out hB9)
      clear hB9
      go_wp2_with fail
      go_ret
      exact ⟨by rw [hx.out]; rfl, HB10.out⟩
end Go.Proofs.Ytgckpmaajmlijaa
