/- PathsAll: the code answers as the document. -/
import Derived.Test.YtgckpmaajmlijaaPg
import Derived.Test.YtgckpmaajmlijaaMp
namespace Go.Proofs.Ytgckpmaajmlijaa
open Go Go.RowKit Ir Wy

/-- How many of the first i are come to. -/
def cntF (es : List En) (i : Nat) : Nat := ((List.range i).filter (rF es)).length
theorem cntF_succ (es : List En) (i : Nat) : cntF es (i + 1) = cntF es i + (if rF es i = true then 1 else 0) := by
  unfold cntF
  rw [List.range_succ, List.filter_append, List.length_append]
  congr 1
  cases h : rF es i <;> simp [h]
theorem cntF_le (es : List En) (i : Nat) : cntF es i ≤ i := by
  unfold cntF
  refine Nat.le_trans (List.length_filter_le _ _) ?_
  simp
theorem len_cnt {es : List En} (hin : EndsIn es) (h0 : 0 < es.length) (hn : es.length ≤ 1000) : (Bg.Bag.mem (rF es) 4096).length = cntF es es.length := by
  unfold Bg.Bag.mem cntF
  refine List.Perm.length_eq ?_
  refine (List.perm_ext_iff_of_nodup ((List.nodup_range).filter _) ((List.nodup_range).filter _)).2 fun x => ?_
  rw [List.mem_filter, List.mem_filter, List.mem_range, List.mem_range]
  constructor
  · exact fun h => ⟨rF_lt hin h0 h.2, h.2⟩
  · exact fun h => ⟨by omega, h.2⟩
set_option maxHeartbeats 8000000 in
set_option maxRecDepth 100000 in
theorem all_walk (v0 : Value) (a b c : Int) (bs : List Int) (w : World) (hs : SpecV w v0 a b c bs) :
    Calls Try.prog 3 #[v0] w fun e w' => e = .returned (.bool true) ∧ Below w.heap.size w w' := by
  obtain ⟨h0, h7, hin⟩ := made_ok a b c bs
  obtain ⟨u, rfl, hs1⟩ := hs
  obtain ⟨ao, cap, rfl⟩ := hs1.2.2.2.slice
  have hB1 := bel1' w (.cells #[.int .u8 a, .int .u8 b, .int .u8 c, .slice ao bs.length cap] 24)
  have HS := hide (show SpecV (w.alloc (.cells #[.int .u8 a, .int .u8 b, .int .u8 c, .slice ao bs.length cap] 24)) (.agg #[.int .u8 a, .int .u8 b, .int .u8 c, .slice ao bs.length cap]) a b c bs from ⟨_, rfl, hs1.1, hs1.2.1, hs1.2.2.1, hs1.2.2.2.below hB1⟩)
  have HB1 := hide hB1
  have hcell := heap_alloc_new w (.cells #[.int .u8 a, .int .u8 b, .int .u8 c, .slice ao bs.length cap] 24)
  have HC := hide hcell
  clear hB1 hs1 hcell
  go_enter Try.func3, Try.ntmps3
  go_wp2_with fail
  refine (awake_any _).mono ?_
  rintro e w2 ⟨rfl, hB2⟩
  have hrow := (hB2.block _ (heap_lt HC.out)).trans HC.out
  have k0 : w2.cell? ⟨w.heap.size, 0, none⟩ = some (.int .u8 a) := by rw [cell_of_row _ _ _ _ _ _ hrow]; rfl
  have k1 : w2.cell? ⟨w.heap.size, 1, none⟩ = some (.int .u8 b) := by rw [cell_of_row _ _ _ _ _ _ hrow]; rfl
  have k2 : w2.cell? ⟨w.heap.size, 2, none⟩ = some (.int .u8 c) := by rw [cell_of_row _ _ _ _ _ _ hrow]; rfl
  have k3 : w2.cell? ⟨w.heap.size, 3, none⟩ = some (.slice ao bs.length cap) := by rw [cell_of_row _ _ _ _ _ _ hrow]; rfl
  have HM := hide (made_any _ a b c bs w2 (show SpecV w2 (.agg #[.int .u8 a, .int .u8 b, .int .u8 c, .slice ao bs.length cap]) a b c bs from by
    obtain ⟨u, e, h1, h2, h3, h4⟩ := HS.out
    exact ⟨u, e, h1, h2, h3, h4.below hB2⟩))
  have HB2 := hide (bel_of HB1.out hB2)
  clear hB2 hrow HS HB1 HC
  go_wp2_with fail
  refine HM.out.mono ?_
  rintro e w3 ⟨u, rfl, hO, hB3⟩
  have HE := hide hO.v.ends
  have HB3 := hide (bel_of HB2.out hB3)
  clear hO hB3 HM HB2 k0 k1 k2 k3
  generalize (made a b c bs).bs.map (·.e) = es at *
  obtain ⟨al, cl, rfl⟩ := HE.out.slice
  have hf28 := run_f28 (made a b c bs).p (made a b c bs).v al es.length cl
  go_wp2_with fail
  refine (ahead_any w3 _ es HE.out hin (by omega)).mono ?_
  rintro e w4 ⟨va, rfl, hva, hB4⟩
  have HE4 := hide (HE.out.below hB4)
  have HA4 := hide hva
  have HB4 := hide (bel_of HB3.out hB4)
  clear hva hB4 HE HB3
  go_wp2_with fail
  refine (reach_any w4 _ es HE4.out hin h0 (by omega)).mono ?_
  rintro e w5 ⟨u, rfl, hS, hB5⟩
  obtain ⟨cs, rfl, hcs⟩ := hS
  have HCS := hide hcs
  have HE5 := hide (HE4.out.below hB5)
  have HA5 := hide (HA4.out.below hB5)
  have HB5 := hide (bel_of HB4.out hB5)
  clear hcs hB5 HE4 HB4 HA4
  go_wp2_with fail
  refine (refReach_any w5 _ es HE5.out hin h0 (by omega)).mono ?_
  rintro e w6 ⟨sb, rfl, hsb, hBo, hB6⟩
  have HBo6 : Hid (BoolsAt w6 sb es.length (rF es)) := hide hBo
  have HE6 := hide (HE5.out.below hB6)
  have HA6 := hide (HA5.out.below hB6)
  have HB6 := hide (bel_of HB5.out hB6)
  clear hBo hsb hB6 HE5 HB5 HA5
  obtain ⟨aA, cA, hva⟩ := HA6.out.slice
  subst hva
  rw [rows_len] at *
  go_wp2_with (first | (refine Bg.wpList_new 5 rfl rfl 35 rfl Bg.z64 Bg.z27 ?_; intro pg w7 h7) | (refine Bg.wpList_store_whole rfl 35 (.tmp 5) (.tmp 17) rfl pg 35 Bg.z64 cs rfl rfl h7.out.2.1 (by rw [HCS.out.1]; exact Bg.info27) (by rw [HCS.out.1]; rfl) HCS.out.cells ?_; intro w8 h8 hg8 _))
  have hB8 : Below w6.heap.size w6 w8 := by
    obtain ⟨rfl, _, h⟩ := h7.out
    exact h.grown hg8.out (h.size) (fun k e => by cases e; exact Nat.le_refl _)
  have HS8 := h8
  have HE8 := hide (HE6.out.below hB8)
  have HA8 := hide (HA6.out.below hB8)
  have HBo8 := hide (HBo6.out.below hB8)
  have HB8 := hide (bel_of HB6.out hB8)
  clear h7 hg8 hB8 HE6 HA6 HBo6 HB6 hf28
  refine (order_any w8 _ es HE8.out hin h0 (by omega)).mono ?_
  rintro e w9 ⟨vo, rfl, hvo, hB9⟩
  have HO9 := hide hvo.v
  have HE9 := hide (HE8.out.below hB9)
  have HB9 := hide hB9
  clear hvo hB9
  go_wp2_with fail
  refine (refOrder_any w9 _ es HE9.out hin h0 (by omega)).mono ?_
  rintro e w10 ⟨vp, rfl, hvp, hB10⟩
  have HSI := hide (sameInts_any vo vp (ci (ordD (nxE es) es.length)) w10 (HO9.out.below hB10) hvp.v (by rw [List.length_map]; have := ord_len hin h0; omega))
  have HB10 := hide (bel_of HB9.out hB10)
  clear hvp hB10 HO9 HE9 HB9
  go_wp2_with fail
  refine HSI.out.mono ?_
  rintro e w11 ⟨rfl, hB11⟩
  have HB11 := hide (bel_of HB10.out hB11)
  have HE := hide (HE8.out.below HB11.out)
  have HA := hide (HA8.out.below HB11.out)
  have HBo := hide (HBo8.out.below HB11.out)
  have HS : Hid (w11.heap[pg]? = some (.cells cs 35 (0, 0))) := hide ((HB11.out.block _ (heap_lt HS8.out)).trans HS8.out)
  have HB := hide (bel_of HB8.out HB11.out)
  have hsz : (Try.prog.info? 35).map (·.size) = some cs.size := by rw [HCS.out.1]; exact Bg.info27
  have hlc := hide (len_cnt hin h0 (by omega))
  clear hB11 HSI HB10 HB11 HE8 HA8 HBo8 h8 HS8 HB8
  go_wp2_with fail
  go_loopw [7, 8, 35] (fun cv _ iv wr => ∃ i : Nat, i ≤ es.length ∧ iv = .int .i64 i ∧ cv = .int .i64 ((cntF es i : Nat) : Int) ∧ Hid (Below w11.heap.size w11 wr)) (fun _ _ iv _ => es.length - (intOf iv).toNat)
  case atStart => exact ⟨0, by omega, rfl, by simp [cntF], hide (Below.refl _ _)⟩
  case round =>
    obtain ⟨i, hi, rfl, rfl, hB⟩ := hrel
    have HC1 : Hid (wr.heap[pg]? = some (.cells cs 35 (0, 0))) := hide ((hB.out.block _ (heap_lt HS.out)).trans HS.out)
    by_cases hlt : i < es.length
    · obtain ⟨gl, ol, rfl, hEe⟩ := (HE.out.below hB.out).end i hlt
      obtain ⟨ga, oa, xr, rfl, hra, hI⟩ := (HA.out.below hB.out).at i (by rw [rows_len]; exact hlt)
      rw [rows_at es hlt] at hI
      have hAl : (ci (ahd (nxE es) es.length i)).length ≤ 1000000000 := by rw [List.length_map]; have := ahd_len (nxE es) es.length i; omega
      have HCN := hide (cntF_succ es i)
      have hcl := cntF_le es i
      obtain ⟨m1, m2⟩ := (HBo.out.below hB.out).cell i hlt
      have hlt' : (i : Int) < (es.length : Int) := by omega
      have HBR := hB
      have HEE := hide hEe
      have HRA := hide hra
      have HI := hide hI
      clear hEe hra hI
      generalize cntF es i = cn at *
      by_cases hr : rF es i = true
      · rw [hr] at m1
        rw [if_pos hr] at HCN
        clear hr
        go_wp2_with fail
        have hEe := HEE.out
        have hra := HRA.out
        have hI := HI.out
        refine pa13_ok (es := es) (i := i) (pg := pg) (CS := cs) (ee := es.getD i En.zero) rfl rfl rfl rfl rfl rfl HC1.out hsz HCS.out hlt (by omega) hin (HE.out.below HBR.out) hEe hra hI hAl (HBo.out.below HBR.out) ?_
        intro s W hs78 hBW
        have HBW := hide (bel_of hB.out hBW)
        simp [overlay, dstsOf, ops_pa13_ok, hs78]
        go_wp2_with fail
        go_roundw
        case rel => exact ⟨i + 1, by omega, by go_num, by rw [HCN.out]; rfl, HBW⟩
        case measure => simp [intOf]; omega
      · have hrf : rF es i = false := by simpa using hr
        rw [hrf] at m1
        rw [if_neg hr] at HCN
        clear hr hrf
        go_wp2_with fail
        have hEe := HEE.out
        have hra := HRA.out
        have hI := HI.out
        refine pa13_ok (es := es) (i := i) (pg := pg) (CS := cs) (ee := es.getD i En.zero) rfl rfl rfl rfl rfl rfl HC1.out hsz HCS.out hlt (by omega) hin (HE.out.below HBR.out) hEe hra hI hAl (HBo.out.below HBR.out) ?_
        intro s W hs78 hBW
        have HBW := hide (bel_of hB.out hBW)
        simp [overlay, dstsOf, ops_pa13_ok, hs78]
        go_wp2_with fail
        go_roundw
        case rel => exact ⟨i + 1, by omega, by go_num, by rw [HCN.out]; rfl, HBW⟩
        case measure => simp [intOf]; omega
    · obtain rfl : i = es.length := by omega
      have HLN := hide (Bg.len_any (.agg cs) (rF es) wr ⟨cs, rfl, HCS.out⟩)
      rw [hlc.out] at HLN
      have HB9 := hide (bel_to HB.out hB.out HB.out.size)
      go_wp2_with (first | (refine wpList_load_setN rfl (.tmp 5) rfl pg rfl cs HC1.out HCS.out.1 ?_))
      refine HLN.out.mono ?_
      rintro e w12 ⟨rfl, hg12⟩
      have HB12 := hide (bel_of HB9.out (Bg.gb_to hg12))
      clear hg12 HLN
      go_wp2_with fail
      go_ret
      exact ⟨rfl, HB12.out⟩
end Go.Proofs.Ytgckpmaajmlijaa
