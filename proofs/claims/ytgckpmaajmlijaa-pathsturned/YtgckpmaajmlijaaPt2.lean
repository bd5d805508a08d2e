/- PathsTurned: with an edge more, whatever was come to still is. -/
import Derived.Test.YtgckpmaajmlijaaTm
import Derived.Test.YtgckpmaajmlijaaTv
import Derived.BigQuiet
namespace Go.Proofs.Ytgckpmaajmlijaa
open Go Go.RowKit Ir Wy

set_option maxHeartbeats 8000000 in
set_option maxRecDepth 100000 in
theorem turned_walk (v0 : Value) (a b c : Int) (bs : List Int) (x y : Int) (w : World) (hs : SpecV w v0 a b c bs) (hx : 0 ≤ x ∧ x < 256) (hy : 0 ≤ y ∧ y < 256) :
    Calls Try.prog 6 #[v0, .int .u8 x, .int .u8 y] w fun e w' => e = .returned (.bool true) ∧ Below w.heap.size w w' := by
  obtain ⟨h0, h7, hin⟩ := made_ok a b c bs
  obtain ⟨u, rfl, hs1⟩ := hs
  obtain ⟨ao, cap, rfl⟩ := hs1.2.2.2.slice
  have hB1 := bel1' w (.cells #[.int .u8 a, .int .u8 b, .int .u8 c, .slice ao bs.length cap] 24)
  have HS := hide (show SpecV (w.alloc (.cells #[.int .u8 a, .int .u8 b, .int .u8 c, .slice ao bs.length cap] 24)) (.agg #[.int .u8 a, .int .u8 b, .int .u8 c, .slice ao bs.length cap]) a b c bs from ⟨_, rfl, hs1.1, hs1.2.1, hs1.2.2.1, hs1.2.2.2.below hB1⟩)
  have HB1 := hide hB1
  have hcell := heap_alloc_new w (.cells #[.int .u8 a, .int .u8 b, .int .u8 c, .slice ao bs.length cap] 24)
  have HC := hide hcell
  clear hB1 hs1 hcell
  go_enter Try.func6, Try.ntmps6
  go_wp2_with fail
  refine (awake_any _).mono ?_
  rintro e w2 ⟨rfl, hB2⟩
  have HR2 := hide ((hB2.block _ (heap_lt HC.out)).trans HC.out)
  have HS2 := hide (show SpecV w2 (.agg #[.int .u8 a, .int .u8 b, .int .u8 c, .slice ao bs.length cap]) a b c bs from by
    obtain ⟨u, e, h1, h2, h3, h4⟩ := HS.out
    exact ⟨u, e, h1, h2, h3, h4.below hB2⟩)
  have HB2 := hide (bel_of HB1.out hB2)
  clear hB2 HS HB1 HC
  have HM : Hid (∀ W, Below w2.heap.size w2 W → Calls Try.prog 8 #[.agg #[.int .u8 a, .int .u8 b, .int .u8 c, .slice ao bs.length cap]] W (MadePost W (made a b c bs))) := hide (fun W hB => made_any _ a b c bs W (by
    obtain ⟨u, e, h1, h2, h3, h4⟩ := HS2.out
    exact ⟨u, e, h1, h2, h3, h4.below hB⟩))
  clear HS2
  go_wp2_with fail
  refine r3_ok (M := made a b c bs) rfl rfl HR2.out rfl HM.out ?_
  intro s W g7 g8 um ul q7 q8 hne hb7 hb8 r7 r8 hO hL hap hB3
  have hlen : (made a b c bs).bs.length = ((made a b c bs).bs.map (·.e)).length := by rw [List.length_map]
  have h0' : 0 < (made a b c bs).bs.length := by rw [hlen]; exact h0
  obtain ⟨gu, cu, rfl, hgu, ru, hru⟩ := hO.form h0'
  obtain ⟨gb, cb, rfl, hgb, rb, hrb⟩ := hL.form h0'
  have hbu : gb ≠ gu := fun e => hap gu rfl (by rw [e]; rfl)
  have HBW := hide (bel_of HB2.out hB3)
  have hEu := hO.v.ends
  have hEb := hL.v.ends
  have hsz2 := HB2.out.size
  unfold funR at r7 r8
  rw [hlen] at *
  generalize (made a b c bs).p = P at *
  generalize (made a b c bs).v = V at *
  clear hO hL hap HB2 HM HR2 h0' hlen hB3
  generalize (made a b c bs).bs.map (·.e) = es at *
  have hgu2 : w.heap.size ≤ gu := by omega
  have hgb2 : w.heap.size ≤ gb := by omega
  have H7 := hide r7
  have H8 := hide r8
  have HEU := hide hEu
  have HEB := hide hEb
  have HRB := hide hrb
  have k7 : W.cell? ⟨g7, 2, none⟩ = some (.slice (some ⟨gu, 0, none⟩) es.length cu) := by rw [cell_of_row _ _ _ _ _ _ r7]; rfl
  have k8 : W.cell? ⟨g8, 2, none⟩ = some (.slice (some ⟨gb, 0, none⟩) es.length cb) := by rw [cell_of_row _ _ _ _ _ _ r8]; rfl
  have hm0 : ¬ es.length = 0 := by omega
  have hmn : ((es.length : Int) == -1) = false := by simp
  have hxb : ∃ bb : Nat, x.tmod (es.length : Int) = (bb : Int) ∧ bb < es.length := ⟨(x.tmod (es.length : Int)).toNat, by have := Int.tmod_nonneg (es.length : Int) hx.1; omega, by have := Int.tmod_lt_of_pos x (show (0 : Int) < (es.length : Int) by omega); have := Int.tmod_nonneg (es.length : Int) hx.1; omega⟩
  have hyn : ∃ nn : Nat, y.tmod (es.length : Int) = (nn : Int) ∧ nn < es.length := ⟨(y.tmod (es.length : Int)).toNat, by have := Int.tmod_nonneg (es.length : Int) hy.1; omega, by have := Int.tmod_lt_of_pos y (show (0 : Int) < (es.length : Int) by omega); have := Int.tmod_nonneg (es.length : Int) hy.1; omega⟩
  obtain ⟨bb, hrx, hbl⟩ := hxb
  obtain ⟨nn, hry, hnl⟩ := hyn
  obtain ⟨gb', ob', e1, hec⟩ := HEB.out.end bb hbl
  obtain ⟨rfl, rfl⟩ : gb = gb' ∧ 0 = ob' := by simpa using e1
  rw [Nat.zero_add] at hec
  have HEC := hide hec
  have c1 := hec.c1
  clear r7 r8 hEu hEb hrb hru e1 hec
  simp [overlay, dstsOf, ops3, q7, q8]
  clear q7 q8
  generalize he0 : es.getD bb En.zero = e0 at *
  have hbl' : (bb : Int) < (es.length : Int) := by omega
  have hx1 := hx.1
  have hx2 := hx.2
  have hy1 := hy.1
  have hy2 := hy.2
  have hwx : IntKind.i64.wrap x = x := by rw [IntKind.wrap_i64]; omega
  have hwy : IntKind.i64.wrap y = y := by rw [IntKind.wrap_i64]; omega
  generalize s 16 = u16
  generalize s 17 = u17
  generalize s 18 = u18
  generalize s 19 = u19
  clear hne hb7 hb8 hgu hgb
  go_wp2_with fail
  go_quiet (fail)
  have hBd : Below W.heap.size W (W.drewN nq) := ⟨rfl, rfl, rfl, Nat.le_refl _, fun _ _ => rfl⟩
  have H74 := hide (heap_below H7.out hBd)
  have H84 := hide (heap_below H8.out hBd)
  have HR4 := hide (heap_below HRB.out hBd)
  have HEU4 := hide (HEU.out.below hBd)
  have HEB4 := hide (HEB.out.below hBd)
  have HEC4 := hide (HEC.out.below hBd)
  have HB4 := hide (bel_of HBW.out hBd)
  generalize W.drewN nq = W4 at *
  clear hBd H7 H8 HEU HEB HEC HRB HBW k7 k8 c1
  have k7 : W4.cell? ⟨g7, 2, none⟩ = some (.slice (some ⟨gu, 0, none⟩) es.length cu) := by rw [cell_of_row _ _ _ _ _ _ H74.out]; rfl
  have k8 : W4.cell? ⟨g8, 2, none⟩ = some (.slice (some ⟨gb, 0, none⟩) es.length cb) := by rw [cell_of_row _ _ _ _ _ _ H84.out]; rfl
  have c1 := HEC4.out.c1
  have f1 : W4.frozen? ⟨gb, bb * 5 + 1, none⟩ = false := frozen_of_row _ _ _ _ _ HR4.out
  have f2 : W4.frozen? ⟨gb, bb * 5 + 1 + 1, none⟩ = false := frozen_of_row _ _ _ _ _ HR4.out
  have f3 : W4.frozen? ⟨gb, bb * 5 + 1 + 2, none⟩ = false := frozen_of_row _ _ _ _ _ HR4.out
  have f4 : W4.frozen? ⟨gb, bb * 5 + 1 + 3, none⟩ = false := frozen_of_row _ _ _ _ _ HR4.out
  by_cases h3 : e0.k = 3
  · have hfol : fol e0 = [] := by unfold fol; rw [if_neg (by omega), if_neg (by omega)]
    have hT := turned_ok hin h0 hbl hnl (⟨1, 0, nn, 0⟩ : En) (by rw [he0, hfol]; simp) (by rw [he0, hfol]; intro z hz; right; simpa [fol] using hz) (by simp [fol])
    have b3 : (e0.k == 3) = true := by simp [h3]
    obtain ⟨d2, d3, d4, d5, d6, d7⟩ := setE_facts HEC4.out 1 0 nn
    go_wp2_with fail
    have hne7 : g7 ≠ gb := fun e => by have h := H74.out; rw [e, HR4.out] at h; simp at h
    have hne8 : g8 ≠ gb := fun e => by have h := H84.out; rw [e, HR4.out] at h; simp at h
    have hneu : (Value.slice (some ⟨gu, 0, none⟩) es.length cu).ownBlock ≠ some gb := by simp only [Value.ownBlock]; intro e; exact hbu (Option.some.inj e).symm
    have hgr := setE_grown W4 gb (bb * 5) (⟨1, 0, nn, 0⟩ : En)
    have HEB5 := hide (HEB4.out.setE hbl (⟨1, 0, nn, 0⟩ : En))
    have HEU5 := hide (HEU4.out.setE_other (o := bb * 5) hneu (⟨1, 0, nn, 0⟩ : En))
    have H75 := hide ((hgr.block g7 (heap_lt H74.out) (by simpa using hne7)).trans H74.out)
    have H85 := hide ((hgr.block g8 (heap_lt H84.out) (by simpa using hne8)).trans H84.out)
    have HB5 := hide (Bg.bel_gb HB4.out hgr HB4.out.size (fun k e => by cases e; exact hgb2))
    have hll : (es.set bb (⟨1, 0, nn, 0⟩ : En)).length = es.length := List.length_set ..
    show Code.wp Try.prog _ _ _ (setE W4 gb (bb * 5) (⟨1, 0, nn, 0⟩ : En))
    clear hgr hneu hne7 hne8 d2 d3 d4 d5 d6 d7 k7 k8 c1 f1 f2 f3 f4 H74 H84 HEU4 HEB4 HEC4 HB4 HR4
    generalize setE W4 gb (bb * 5) (⟨1, 0, nn, 0⟩ : En) = W5 at *
    generalize es.set bb (⟨1, 0, nn, 0⟩ : En) = es' at *
    obtain ⟨hin', hmono, hnew⟩ := hT
    have HNEW := hide hnew
    have k7 : W5.cell? ⟨g7, 2, none⟩ = some (.slice (some ⟨gu, 0, none⟩) es.length cu) := by rw [cell_of_row _ _ _ _ _ _ H75.out]; rfl
    have k8 : W5.cell? ⟨g8, 2, none⟩ = some (.slice (some ⟨gb, 0, none⟩) es.length cb) := by rw [cell_of_row _ _ _ _ _ _ H85.out]; rfl
    refine r12_ok (F := rF es) (G := rF es') rfl rfl rfl k7 k8 (fun W hB => reach_any W _ es (HEU5.out.below hB) hin h0 (by omega)) (fun W hB => reach_any W _ es' (HEB5.out.below hB) hin' (by omega) (by omega)) ?_
    intro s6 W6 pw pn ws ns q11 q12 hpq hb11 hb12 rw6 rn6 hW hN hB6
    have HW6 := hide rw6
    have HN6 := hide rn6
    have HWS := hide hW
    have HNS := hide hN
    have H86 := hide (heap_below H85.out hB6)
    have HB6 := hide (bel_of HB5.out hB6)
    have HSM := hide (same_mono hmono)
    clear k7 k8 rw6 rn6 hW hN hB6 H75 H85 HEU5 HEB5 HB5 hmono hnew
    simp [overlay, dstsOf, ops12, q11, q12]
    clear q11 q12 hpq hb11 hb12
    generalize s6 59 = u59
    generalize s6 60 = u60
    generalize s6 61 = u61
    generalize s6 62 = u62
    generalize s6 63 = u63
    generalize s6 64 = u64
    go_wp2_with (first | (refine wpList_load_setN rfl (.tmp 12) rfl pn rfl ns HN6.out HNS.out.1 ?_))
    refine (Bg.copy_any (.agg ns) (rF es') _ ⟨ns, rfl, HNS.out⟩).mono ?_
    rintro e w7 ⟨u, rfl, ⟨cs, rfl, hcs⟩, hg7⟩
    have HCS := hide hcs
    have hB7 := Bg.gb_to hg7
    have HW7 := hide (heap_below HW6.out hB7)
    have HN7 := hide (heap_below HN6.out hB7)
    have H87 := hide (heap_below H86.out hB7)
    have HB7 := hide (bel_of HB6.out hB7)
    clear hcs hg7 hB7 HW6 HN6 H86 HB6
    go_wp2_with (first | (refine Bg.wpList_var 35 13 rfl rfl rfl rfl (.tmp 66) rfl rfl Bg.z64 cs Bg.z27 (by simp) rfl (by rw [HCS.out.1]; exact Bg.info27) (by rw [HCS.out.1]; rfl) HCS.out.cells ?_; intro pa w8 h8; have HW8 : Hid (w8.heap[pw]? = some (Obj.cells ws 35 (0, 0))) := hide (by obtain ⟨rfl, _, hB⟩ := h8.out; exact heap_below HW7.out hB)) | (refine wpList_load_setN rfl (.tmp 11) rfl pw rfl ws HW8.out HWS.out.1 ?_))
    have hB8 : Below w7.heap.size w7 w8 := by obtain ⟨rfl, _, hB⟩ := h8.out; exact hB
    have hA8 : Bg.SetAt w8 pa (rF es') := ⟨cs, 35, h8.out.2.1, HCS.out⟩
    have hpa : w7.heap.size = pa := h8.out.1.symm
    have hpw : pw < w7.heap.size := heap_lt HW7.out
    have hpn : pn < w7.heap.size := heap_lt HN7.out
    have hp8 : g8 < w7.heap.size := heap_lt H87.out
    have HN8 := hide (heap_below HN7.out hB8)
    have H88 := hide (heap_below H87.out hB8)
    have hsz7 := HB7.out.size
    have HB8 := hide (bel_of HB7.out hB8)
    refine (Bg.join_any pa (.agg ws) (rF es') (rF es) w8 hA8 ⟨ws, rfl, HWS.out⟩).mono ?_
    rintro e w9 ⟨rfl, hA9, hg9⟩
    obtain ⟨as', ta, hr9, hAS⟩ := hA9
    have HR9 := hide hr9
    have HAS := hide hAS
    have HW9 := hide ((hg9.block pw (heap_lt HW8.out) (by simp; omega)).trans HW8.out)
    have HN9 := hide ((hg9.block pn (heap_lt HN8.out) (by simp; omega)).trans HN8.out)
    have H89 := hide ((hg9.block g8 (heap_lt H88.out) (by simp; omega)).trans H88.out)
    have HB9 := hide (Bg.bel_gb HB8.out hg9 HB8.out.size (fun k e => by cases e; omega))
    clear hr9 hAS hg9 HW8 HN8 H88 HB8 hA8 hB8 h8 hpa hpw hpn hp8 HCS HW7 HN7 H87 HB7
    generalize Bg.same (rF es') (fun y => rF es' y || rF es y) 4096 = un
    go_wp2_with fail
    by_cases hF : rF es bb = true
    · refine tv15_in rfl rfl rfl rfl rfl rfl rfl HR9.out HN9.out HW9.out H89.out HAS.out HNS.out HWS.out HSM.out (by omega) (by omega) hF (HNEW.out hF) hx.1 hx.2 hrx hm0 hmn ?_
      intro s9 W9 q6 hB10
      have HB10 := hide (bel_of HB9.out hB10)
      simp [overlay, dstsOf, ops_tv15_in, q6]
      go_wp2_with fail
      go_ret
      exact ⟨rfl, HB10.out⟩
    · refine tv15_out rfl rfl rfl rfl rfl rfl rfl HR9.out HN9.out HW9.out H89.out HAS.out HNS.out HWS.out HSM.out (by omega) (by omega) (by simpa using hF) hx.1 hx.2 hrx hm0 hmn ?_
      intro s9 W9 q6 hB10
      have HB10 := hide (bel_of HB9.out hB10)
      simp [overlay, dstsOf, ops_tv15_out, q6]
      go_wp2_with fail
      go_ret
      exact ⟨rfl, HB10.out⟩
  · have b3 : (e0.k == 3) = false := by simp [h3]
    by_cases h1 : e0.k = 1
    · have hfol : fol e0 = [e0.to] := by unfold fol; rw [if_pos h1]
      have hfol2 : ∀ z, z ∈ fol (⟨2, 0, e0.to, nn⟩ : En) ↔ z = e0.to ∨ z = (nn : Int) := by
        intro z
        by_cases h : e0.to = (nn : Int)
        · simp [fol, h]
        · simp [fol, h]
      have hT := turned_ok hin h0 hbl hnl (⟨2, 0, e0.to, nn⟩ : En) (by rw [he0, hfol]; intro z hz; rw [hfol2]; left; simpa using hz) (by rw [he0, hfol]; intro z hz; rw [hfol2] at hz; simpa using hz) (by rw [hfol2]; right; rfl)
      have b1 : (e0.k == 1) = true := by simp [h1]
      obtain ⟨d2, d3, d4, d5, d6, d7⟩ := setE_facts HEC4.out 2 0 e0.to
      go_wp2_with fail
      have hne7 : g7 ≠ gb := fun e => by have h := H74.out; rw [e, HR4.out] at h; simp at h
      have hne8 : g8 ≠ gb := fun e => by have h := H84.out; rw [e, HR4.out] at h; simp at h
      have hneu : (Value.slice (some ⟨gu, 0, none⟩) es.length cu).ownBlock ≠ some gb := by simp only [Value.ownBlock]; intro e; exact hbu (Option.some.inj e).symm
      have hgr := setE_grown W4 gb (bb * 5) (⟨2, 0, e0.to, nn⟩ : En)
      have HEB5 := hide (HEB4.out.setE hbl (⟨2, 0, e0.to, nn⟩ : En))
      have HEU5 := hide (HEU4.out.setE_other (o := bb * 5) hneu (⟨2, 0, e0.to, nn⟩ : En))
      have H75 := hide ((hgr.block g7 (heap_lt H74.out) (by simpa using hne7)).trans H74.out)
      have H85 := hide ((hgr.block g8 (heap_lt H84.out) (by simpa using hne8)).trans H84.out)
      have HB5 := hide (Bg.bel_gb HB4.out hgr HB4.out.size (fun k e => by cases e; exact hgb2))
      have hll : (es.set bb (⟨2, 0, e0.to, nn⟩ : En)).length = es.length := List.length_set ..
      show Code.wp Try.prog _ _ _ (setE W4 gb (bb * 5) (⟨2, 0, e0.to, nn⟩ : En))
      clear hgr hneu hne7 hne8 d2 d3 d4 d5 d6 d7 k7 k8 c1 f1 f2 f3 f4 H74 H84 HEU4 HEB4 HEC4 HB4 HR4
      generalize setE W4 gb (bb * 5) (⟨2, 0, e0.to, nn⟩ : En) = W5 at *
      generalize es.set bb (⟨2, 0, e0.to, nn⟩ : En) = es' at *
      obtain ⟨hin', hmono, hnew⟩ := hT
      have HNEW := hide hnew
      have k7 : W5.cell? ⟨g7, 2, none⟩ = some (.slice (some ⟨gu, 0, none⟩) es.length cu) := by rw [cell_of_row _ _ _ _ _ _ H75.out]; rfl
      have k8 : W5.cell? ⟨g8, 2, none⟩ = some (.slice (some ⟨gb, 0, none⟩) es.length cb) := by rw [cell_of_row _ _ _ _ _ _ H85.out]; rfl
      refine r12_ok (F := rF es) (G := rF es') rfl rfl rfl k7 k8 (fun W hB => reach_any W _ es (HEU5.out.below hB) hin h0 (by omega)) (fun W hB => reach_any W _ es' (HEB5.out.below hB) hin' (by omega) (by omega)) ?_
      intro s6 W6 pw pn ws ns q11 q12 hpq hb11 hb12 rw6 rn6 hW hN hB6
      have HW6 := hide rw6
      have HN6 := hide rn6
      have HWS := hide hW
      have HNS := hide hN
      have H86 := hide (heap_below H85.out hB6)
      have HB6 := hide (bel_of HB5.out hB6)
      have HSM := hide (same_mono hmono)
      clear k7 k8 rw6 rn6 hW hN hB6 H75 H85 HEU5 HEB5 HB5 hmono hnew
      simp [overlay, dstsOf, ops12, q11, q12]
      clear q11 q12 hpq hb11 hb12
      generalize s6 59 = u59
      generalize s6 60 = u60
      generalize s6 61 = u61
      generalize s6 62 = u62
      generalize s6 63 = u63
      generalize s6 64 = u64
      go_wp2_with (first | (refine wpList_load_setN rfl (.tmp 12) rfl pn rfl ns HN6.out HNS.out.1 ?_))
      refine (Bg.copy_any (.agg ns) (rF es') _ ⟨ns, rfl, HNS.out⟩).mono ?_
      rintro e w7 ⟨u, rfl, ⟨cs, rfl, hcs⟩, hg7⟩
      have HCS := hide hcs
      have hB7 := Bg.gb_to hg7
      have HW7 := hide (heap_below HW6.out hB7)
      have HN7 := hide (heap_below HN6.out hB7)
      have H87 := hide (heap_below H86.out hB7)
      have HB7 := hide (bel_of HB6.out hB7)
      clear hcs hg7 hB7 HW6 HN6 H86 HB6
      go_wp2_with (first | (refine Bg.wpList_var 35 13 rfl rfl rfl rfl (.tmp 66) rfl rfl Bg.z64 cs Bg.z27 (by simp) rfl (by rw [HCS.out.1]; exact Bg.info27) (by rw [HCS.out.1]; rfl) HCS.out.cells ?_; intro pa w8 h8; have HW8 : Hid (w8.heap[pw]? = some (Obj.cells ws 35 (0, 0))) := hide (by obtain ⟨rfl, _, hB⟩ := h8.out; exact heap_below HW7.out hB)) | (refine wpList_load_setN rfl (.tmp 11) rfl pw rfl ws HW8.out HWS.out.1 ?_))
      have hB8 : Below w7.heap.size w7 w8 := by obtain ⟨rfl, _, hB⟩ := h8.out; exact hB
      have hA8 : Bg.SetAt w8 pa (rF es') := ⟨cs, 35, h8.out.2.1, HCS.out⟩
      have hpa : w7.heap.size = pa := h8.out.1.symm
      have hpw : pw < w7.heap.size := heap_lt HW7.out
      have hpn : pn < w7.heap.size := heap_lt HN7.out
      have hp8 : g8 < w7.heap.size := heap_lt H87.out
      have HN8 := hide (heap_below HN7.out hB8)
      have H88 := hide (heap_below H87.out hB8)
      have hsz7 := HB7.out.size
      have HB8 := hide (bel_of HB7.out hB8)
      refine (Bg.join_any pa (.agg ws) (rF es') (rF es) w8 hA8 ⟨ws, rfl, HWS.out⟩).mono ?_
      rintro e w9 ⟨rfl, hA9, hg9⟩
      obtain ⟨as', ta, hr9, hAS⟩ := hA9
      have HR9 := hide hr9
      have HAS := hide hAS
      have HW9 := hide ((hg9.block pw (heap_lt HW8.out) (by simp; omega)).trans HW8.out)
      have HN9 := hide ((hg9.block pn (heap_lt HN8.out) (by simp; omega)).trans HN8.out)
      have H89 := hide ((hg9.block g8 (heap_lt H88.out) (by simp; omega)).trans H88.out)
      have HB9 := hide (Bg.bel_gb HB8.out hg9 HB8.out.size (fun k e => by cases e; omega))
      clear hr9 hAS hg9 HW8 HN8 H88 HB8 hA8 hB8 h8 hpa hpw hpn hp8 HCS HW7 HN7 H87 HB7
      generalize Bg.same (rF es') (fun y => rF es' y || rF es y) 4096 = un
      go_wp2_with fail
      by_cases hF : rF es bb = true
      · refine tv15_in rfl rfl rfl rfl rfl rfl rfl HR9.out HN9.out HW9.out H89.out HAS.out HNS.out HWS.out HSM.out (by omega) (by omega) hF (HNEW.out hF) hx.1 hx.2 hrx hm0 hmn ?_
        intro s9 W9 q6 hB10
        have HB10 := hide (bel_of HB9.out hB10)
        simp [overlay, dstsOf, ops_tv15_in, q6]
        go_wp2_with fail
        go_ret
        exact ⟨rfl, HB10.out⟩
      · refine tv15_out rfl rfl rfl rfl rfl rfl rfl HR9.out HN9.out HW9.out H89.out HAS.out HNS.out HWS.out HSM.out (by omega) (by omega) (by simpa using hF) hx.1 hx.2 hrx hm0 hmn ?_
        intro s9 W9 q6 hB10
        have HB10 := hide (bel_of HB9.out hB10)
        simp [overlay, dstsOf, ops_tv15_out, q6]
        go_wp2_with fail
        go_ret
        exact ⟨rfl, HB10.out⟩
    · have b1 : (e0.k == 1) = false := by simp [h1]
      go_wp2_with fail
      go_ret
      exact ⟨rfl, HB4.out⟩
end Go.Proofs.Ytgckpmaajmlijaa
