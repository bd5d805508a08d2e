/- WireBack, its walk. -/
import Derived.Test.YtbjnhicikkjadaaMb
import Derived.Test.YtbjnhicikkjadaaSd
import Derived.Deep.Cut
namespace Go.Proofs.Ytbjnhicikkjadaa
open Go.RowKit Ir Wire

theorem readF_right {F : Fun} (h : (chk F).1 = 0) (hr : Rgd F.bs) (v : Value) (w : World) (hv : Lb.Byt w v (funB F)) :
    Calls Try.prog 21 #[v] w fun e w' => ∃ u, e = .returned (.tuple #[.agg #[.int .i64 F.p, .int .i64 F.v, u], .int .i64 0]) ∧ BlksV w' u F.bs ∧ Below w.heap.size w w' := by
  have h1 := readFunc_any v (funB F) w hv (by have := funB_most h hr; omega)
  rw [rdF_right h hr] at h1
  refine h1.mono ?_
  rintro e w' ⟨u, rfl, h2, h3⟩
  exact ⟨u, rfl, h2.v, h3⟩
theorem readC_right {F : Cod} (h : (mchk F).1 = 0) (hr : Rgd F.bs) (v : Value) (w : World) (hv : Lb.Byt w v (codB F)) :
    Calls Try.prog 24 #[v] w fun e w' => ∃ u, e = .returned (.tuple #[.agg #[.int .i64 F.p, .int .i64 F.r, .int .i64 F.s, u], .int .i64 0]) ∧ BlksV w' u F.bs ∧ Below w.heap.size w w' := by
  have h1 := readCode_any v (codB F) w hv (by have := codB_most h hr; omega)
  rw [rdC_right h hr] at h1
  refine h1.mono ?_
  rintro e w' ⟨u, rfl, h2, h3⟩
  exact ⟨u, rfl, h2.v, h3⟩
theorem readF_cut {F : Fun} (h : (chk F).1 = 0) (hr : Rgd F.bs) (v : Value) (w : World) (k : Nat) (hk : k < (funB F).length) (hv : Lb.Byt w v ((funB F).take k)) :
    Calls Try.prog 21 #[v] w fun e w' => ∃ a n c, e = .returned (.tuple #[.agg #[.int .i64 0, .int .i64 0, .slice a n c], .int .i64 3]) ∧ Below w.heap.size w w' := by
  have h1 := readFunc_any v _ w hv (by have := funB_most h hr; rw [List.length_take]; omega)
  rw [rdF_cut h hr hk] at h1
  refine h1.mono ?_
  rintro e w' ⟨u, rfl, h2, h3⟩
  obtain ⟨a, c, rfl⟩ := h2.v.slice
  exact ⟨_, _, _, rfl, h3⟩
theorem readC_cut {F : Cod} (h : (mchk F).1 = 0) (hr : Rgd F.bs) (v : Value) (w : World) (k : Nat) (hk : k < (codB F).length) (hv : Lb.Byt w v ((codB F).take k)) :
    Calls Try.prog 24 #[v] w fun e w' => ∃ a n c, e = .returned (.tuple #[.agg #[.int .i64 0, .int .i64 0, .int .i64 0, .slice a n c], .int .i64 3]) ∧ Below w.heap.size w w' := by
  have h1 := readCode_any v _ w hv (by have := codB_most h hr; rw [List.length_take]; omega)
  rw [rdC_cut h hr hk] at h1
  refine h1.mono ?_
  rintro e w' ⟨u, rfl, h2, h3⟩
  obtain ⟨a, c, rfl⟩ := h2.v.slice
  exact ⟨_, _, _, rfl, h3⟩
theorem readF_more {F : Fun} (h : (chk F).1 = 0) (hr : Rgd F.bs) (v : Value) (w : World) (hv : Lb.Byt w v (funB F ++ [0])) :
    Calls Try.prog 21 #[v] w fun e w' => ∃ a n c, e = .returned (.tuple #[.agg #[.int .i64 0, .int .i64 0, .slice a n c], .int .i64 5]) ∧ Below w.heap.size w w' := by
  have h1 := readFunc_any v _ w hv (by have := funB_most h hr; simp; omega)
  rw [rdF_more h hr] at h1
  refine h1.mono ?_
  rintro e w' ⟨u, rfl, h2, h3⟩
  obtain ⟨a, c, rfl⟩ := h2.v.slice
  exact ⟨_, _, _, rfl, h3⟩
theorem readC_more {F : Cod} (h : (mchk F).1 = 0) (hr : Rgd F.bs) (v : Value) (w : World) (hv : Lb.Byt w v (codB F ++ [0])) :
    Calls Try.prog 24 #[v] w fun e w' => ∃ a n c, e = .returned (.tuple #[.agg #[.int .i64 0, .int .i64 0, .int .i64 0, .slice a n c], .int .i64 5]) ∧ Below w.heap.size w w' := by
  have h1 := readCode_any v _ w hv (by have := codB_most h hr; simp; omega)
  rw [rdC_more h hr] at h1
  refine h1.mono ?_
  rintro e w' ⟨u, rfl, h2, h3⟩
  obtain ⟨a, c, rfl⟩ := h2.v.slice
  exact ⟨_, _, _, rfl, h3⟩
theorem Byt.takeL {w : World} {a : Option Addr} {m cap : Nat} {xs : List Int} (h : Lb.Byt w (.slice a m cap) xs) (n : Nat) (hn : n ≤ xs.length) : Lb.Byt w (.slice a n cap) (xs.take n) := by
  obtain ⟨b, h0, ao, c, e, h2, h3, h4, h5⟩ := h
  simp only [Value.slice.injEq] at e
  obtain ⟨rfl, rfl, rfl⟩ := e
  have hl : (xs.take n).length = n := by simp; omega
  refine ⟨b, fun x hx => h0 x (List.mem_of_mem_take hx), a, cap, by rw [hl], by omega, h3, h4, fun hp => ?_⟩
  rw [hl] at hp
  obtain ⟨off, e, hc⟩ := h5 (by omega)
  refine ⟨off, e, fun j hj => ?_⟩
  rw [hl] at hj
  rw [hc j (by omega)]
  simp [List.getD_eq_getElem?_getD, hj]
theorem byt_n {w : World} {a : Option Addr} {n c : Nat} {xs : List Int} (h : Lb.Byt w (.slice a n c) xs) : n = xs.length ∧ n ≤ c := by
  obtain ⟨b, h0, ao, c', e, h2, h3, h4, h5⟩ := h
  simp only [Value.slice.injEq] at e
  obtain ⟨rfl, rfl, rfl⟩ := e
  exact ⟨rfl, h2⟩
theorem cut_k (cut : Int) (n : Nat) (h : 0 < n) (hn : n ≤ 700000) : ∃ k : Nat, k < n ∧ IntKind.u64.wrap (n : Int) = (n : Int) ∧ wrap64 ((IntKind.u64.wrap cut).tmod (n : Int)) = (k : Int) := by
  have h1 : 0 ≤ IntKind.u64.wrap cut := by rw [IntKind.wrap_u64]; omega
  have h2 := Int.emod_nonneg (IntKind.u64.wrap cut) (b := (n : Int)) (by omega)
  have h3 := Int.emod_lt_of_pos (IntKind.u64.wrap cut) (b := (n : Int)) (by omega)
  refine ⟨((IntKind.u64.wrap cut) % (n : Int)).toNat, by omega, by rw [IntKind.wrap_u64]; omega, ?_⟩
  rw [Int.tmod_eq_emod_of_nonneg h1]
  generalize (IntKind.u64.wrap cut) % (n : Int) = y at *
  unfold wrap64
  omega
theorem Out.size {B : Nat} {w : World} {v : Value} {xs : List Int} (h : Out B w v xs) (h0 : 0 < xs.length) : B ≤ w.heap.size := by
  rcases h.2.2 with ⟨rfl, h1⟩ | ⟨g, cap, cur, rfl, hb, hg, _⟩
  · omega
  · have := (Array.getElem?_eq_some_iff.1 hg).1
    omega
theorem args_small {F : Fun} (h : chk F = (0, 0, 0)) : ∀ b ∈ F.bs, ∀ i ∈ b.ins, i.args.length ≤ 1000000000 := fun b hb i hi => by have := (right_small h b hb).2 i hi; omega
set_option maxHeartbeats 4000000 in
set_option maxRecDepth 100000 in
theorem back_walk (sp : Value) (sa sb sc : Int) (sbs : List Int) (rg : Int) (mv : Value) (ms : List Int) (cut : Int) (w : World) (hs : SpecV w sp sa sb sc sbs) (hrg : 0 ≤ rg ∧ rg < 256) (hm : Byt w mv ms) (hcut : I64 cut) :
    Calls Try.prog 7 #[sp, .int .u8 rg, mv, .int .i64 cut] w fun r w' => r = .returned (.bool true) ∧ Below w.heap.size w w' := by
  have hs' := hs
  obtain ⟨us, rfl, hs1, hs2, hs3, hs4⟩ := hs'
  obtain ⟨ax, cx, rfl⟩ := hs4.slice
  obtain ⟨am, cm, rfl⟩ := hm.slice
  have Hcut := hide hcut
  have hBa := bel1' w (.cells #[.int .u8 sa, .int .u8 sb, .int .u8 sc, .slice ax sbs.length cx] 27)
  have HS0 := hide (hs.below hBa)
  have HM0 := hide (hm.below hBa)
  have HBa := hide hBa
  have HRg := hide hrg
  clear hs hm hBa hs1 hs2 hs3 hs4 hcut hrg
  obtain ⟨i0, hi, hz0, hz1, hz2⟩ := info_parts Lb.info5
  have HI := hide (And.intro hi (And.intro hz0 (And.intro hz1 hz2)))
  clear hi hz0 hz1 hz2
  go_enter Try.func7, Try.ntmps7
  go_wp2_with fail
  refine (awake_any _).mono ?_
  rintro r w1 ⟨rfl, hB1⟩
  have HR1 := hide (box_b hB1)
  have HS1 := hide (HS0.out.below hB1)
  have HM1 := hide (HM0.out.below hB1)
  have HB1 := hide (HBa.out.trans (hB1.mono (by simp)))
  clear hB1 HS0 HM0 HBa
  go_wp2_with fail
  refine mb_ok (gs := w.heap.size) (rg := rg) (ms := ms) (sbs := sbs) (cx := cx) (cm := cm) rfl rfl rfl rfl HR1.out HS1.out HM1.out HRg.out ?_
  intro s3 w3 g9 g10 um uc C hq9 hq10 hr9 hr10 hum huc hck hrC hB3
  have hright := made_right sa sb sc sbs
  have hrM : Rgd (made sa sb sc sbs).bs := made_rgd sa sb sc sbs
  generalize made sa sb sc sbs = M at *
  simp [overlay, dstsOf, ops_mb, hq9, hq10]
  obtain ⟨ua, uca, rfl⟩ := hum.slice
  obtain ⟨va, vca, rfl⟩ := huc.slice
  have HrM := hide hrM
  have HrC := hide hrC
  have hckM : (chk M).1 = 0 := by rw [hright]
  have hckC : (mchk C).1 = 0 := by rw [hck]
  have HckM := hide hckM
  have HckC := hide hckC
  have HsM := hide (args_small hright)
  have HsC : Hid (∀ b ∈ C.bs, ∀ i ∈ b.ins, i.args.length ≤ 1000000000) := hide (fun b hb i hi => by have := (code_small hck b hb).2 i hi; omega)
  have HW3 := hide (wfunc_ok M (.agg #[.int .i64 M.p, .int .i64 M.v, .slice ua M.bs.length uca]) w3 ⟨_, rfl, hum⟩ hckM hrM)
  have HUM := hide hum
  have HUC := hide huc
  have HB3 := hide (bel_of HB1.out hB3)
  obtain ⟨y0, y1, y2⟩ := box3 hr9
  have Hr9 := hide hr9
  have Hr10 := hide hr10
  clear hq9 hq10 hr9 hr10 hum huc hck hrC hB3 hright hrM hckM hckC HR1 HS1 HM1 HRg HB1
  go_wp2_with fail
  refine HW3.out.mono ?_
  rintro r w4 ⟨xv, rfl, hX4, hB4⟩
  obtain ⟨xa, xn, xc, rfl⟩ := bysnd _ _ _ hX4.byt
  have HX4 := hide hX4
  have HXk := hide (fun k h => (hX4.2.lt k h).2)
  have Hw3 := hide HB3.out.size
  have Hw4 := hide (Nat.le_trans HB3.out.size hB4.size)
  have Hr9 := hide ((hB4.block _ (Array.getElem?_eq_some_iff.1 Hr9.out).1).trans Hr9.out)
  have Hr10 := hide ((hB4.block _ (Array.getElem?_eq_some_iff.1 Hr10.out).1).trans Hr10.out)
  have HUM := hide (HUM.out.below hB4)
  have HUC := hide (HUC.out.below hB4)
  have HB4 := hide (bel_of HB3.out hB4)
  have HW4 := hide (wcode_ok C (.agg #[.int .i64 C.p, .int .i64 C.r, .int .i64 C.s, .slice va C.bs.length vca]) w4 ⟨_, rfl, HUC.out⟩ HckC.out HrC.out)
  have h10 := Hr10.out
  obtain ⟨z0, z1, z2, z3⟩ := box4 h10
  clear hX4 hB4 HW3 HB3 h10 y0 y1 y2
  go_wp2_with fail
  refine HW4.out.mono ?_
  rintro r w5 ⟨yv, rfl, hY5, hB5⟩
  obtain ⟨ya, yn, yc, rfl⟩ := bysnd _ _ _ hY5.byt
  have HX5 := hide (HX4.out.below hB5)
  have HY5 := hide hY5
  have Hr9 := hide ((hB5.block _ (Array.getElem?_eq_some_iff.1 Hr9.out).1).trans Hr9.out)
  have Hr10 := hide ((hB5.block _ (Array.getElem?_eq_some_iff.1 Hr10.out).1).trans Hr10.out)
  have HUM := hide (HUM.out.below hB5)
  have HUC := hide (HUC.out.below hB5)
  have HB5 := hide (bel_of HB4.out hB5)
  have HW5 := hide (readF_right HckM.out HrM.out (.slice xa xn xc) w5 HX5.out.byt)
  clear hY5 hB5 HW4 HB4 HX4 z0 z1 z2 z3
  go_wp2_with fail
  refine HW5.out.mono ?_
  rintro r w6 ⟨u6, rfl, hu6, hB6⟩
  obtain ⟨a6, c6, rfl⟩ := hu6.slice
  have hB6x := bel1' w6 (.cells #[.int .i64 M.p, .int .i64 M.v, .slice a6 M.bs.length c6] 24)
  have Hr15 := hide (heap_alloc_new w6 (.cells #[.int .i64 M.p, .int .i64 M.v, .slice a6 M.bs.length c6] 24))
  have hB67 := bel_of hB6 hB6x
  have HX6 := hide (HX5.out.below hB67)
  have HY6 := hide (HY5.out.below hB67)
  have Hr9 := hide ((hB67.block _ (Array.getElem?_eq_some_iff.1 Hr9.out).1).trans Hr9.out)
  have Hr10 := hide ((hB67.block _ (Array.getElem?_eq_some_iff.1 Hr10.out).1).trans Hr10.out)
  have HUM := hide (HUM.out.below hB67)
  have HUC := hide (HUC.out.below hB67)
  have HU6 := hide (hu6.below hB6x)
  have HB6 := hide (bel_of HB5.out hB67)
  have HW6 := hide (readC_right HckC.out HrC.out (.slice ya yn yc) _ HY6.out.byt)
  clear hu6 hB6 hB6x hB67 HW5 HB5 HX5 HY5
  go_wp2_with fail
  generalize (w6.alloc (.cells #[.int .i64 M.p, .int .i64 M.v, .slice a6 M.bs.length c6] 24)) = w7 at *
  generalize w6.heap.size = g15 at *
  refine HW6.out.mono ?_
  rintro r w8 ⟨u8, rfl, hu8, hB8⟩
  obtain ⟨a8, c8, rfl⟩ := hu8.slice
  have hB8x := bel1' w8 (.cells #[.int .i64 C.p, .int .i64 C.r, .int .i64 C.s, .slice a8 C.bs.length c8] 42)
  have Hr17 := hide (heap_alloc_new w8 (.cells #[.int .i64 C.p, .int .i64 C.r, .int .i64 C.s, .slice a8 C.bs.length c8] 42))
  have hB89 := bel_of hB8 hB8x
  have HX8 := hide (HX6.out.below hB89)
  have HY8 := hide (HY6.out.below hB89)
  have Hr9 := hide ((hB89.block _ (Array.getElem?_eq_some_iff.1 Hr9.out).1).trans Hr9.out)
  have Hr10 := hide ((hB89.block _ (Array.getElem?_eq_some_iff.1 Hr10.out).1).trans Hr10.out)
  have Hr15 := hide ((hB89.block _ (Array.getElem?_eq_some_iff.1 Hr15.out).1).trans Hr15.out)
  have HUM := hide (HUM.out.below hB89)
  have HUC := hide (HUC.out.below hB89)
  have HU6 := hide (HU6.out.below hB89)
  have HU8 := hide (hu8.below hB8x)
  have HB8 := hide (bel_of HB6.out hB89)
  obtain ⟨c90, c91, c92⟩ := box3 Hr9.out
  obtain ⟨c150, c151, c152⟩ := box3 Hr15.out
  clear hu8 hB8 hB8x hB89 HW6 HB6 HX6 HY6
  go_upto_region 8 with fail
  generalize (w8.alloc (.cells #[.int .i64 C.p, .int .i64 C.r, .int .i64 C.s, .slice a8 C.bs.length c8] 42)) = w9 at *
  generalize w8.heap.size = g17 at *
  have HSF := hide (sameFuncs_any M _ _ w9 HU6.out HUM.out HsM.out)
  go_wp2_with fail
  refine HSF.out.mono ?_
  rintro r w10 ⟨rfl, hB10⟩
  have HX10 := hide (HX8.out.below hB10)
  have HY10 := hide (HY8.out.below hB10)
  have HB10 := hide (bel_of HB8.out hB10)
  have HSC := hide (sameCodes_any C _ _ w10 (HU8.out.below hB10) (HUC.out.below hB10) HsC.out)
  obtain ⟨c90, c91, c92, c93⟩ := box4 ((hB10.block _ (Array.getElem?_eq_some_iff.1 Hr10.out).1).trans Hr10.out)
  obtain ⟨c150, c151, c152, c153⟩ := box4 ((hB10.block _ (Array.getElem?_eq_some_iff.1 Hr17.out).1).trans Hr17.out)
  clear hB10 HSF HX8 HY8 HB8 HU6 HUM
  go_wp2_with fail
  refine HSC.out.mono ?_
  rintro r w11 ⟨rfl, hB11⟩
  have HX11 := hide (HX10.out.below hB11)
  have HY11 := hide (HY10.out.below hB11)
  have HB11 := hide (bel_of HB10.out hB11)
  clear hB11 HSC HX10 HY10 HB10 HU8 HUC c90 c91 c92 c93 c150 c151 c152 c153 Hr9 Hr10 Hr15 Hr17
  obtain ⟨hxn, hxc⟩ := byt_n HX11.out.byt
  have Hxn := hide hxn
  have hpos := funB_pos M
  have hmost := funB_most HckM.out HrM.out
  obtain ⟨k, hk, e1, e2⟩ := cut_k cut xn (by omega) (by omega)
  have e3 : ((xn : Int) == 0) = false := by simp; omega
  have e6 : ¬ xn = 0 := by omega
  have e7 : ¬ (xn : Int) = 0 := by omega
  have e8 : (xn == 0) = false := by simp; omega
  have e4 : (0 : Int) ≤ (k : Int) := by omega
  have e5 : (k : Int) ≤ (xc : Int) := by omega
  have HRF := hide (readF_cut HckM.out HrM.out (.slice xa k xc) w11 k (by omega) (Byt.takeL HX11.out.byt k (by omega)))
  clear hxn hxc hk hpos hmost
  go_wp2_with fail
  refine HRF.out.mono ?_
  rintro r w12 ⟨ra, rn, rc, rfl, hB12⟩
  have hB12x := bel_of hB12 (bel1' w12 (.cells #[.int .i64 0, .int .i64 0, .slice ra rn rc] 24))
  have HX12 := hide (HX11.out.below hB12x)
  have HY12 := hide (HY11.out.below hB12x)
  have HB12 := hide (bel_of HB11.out hB12x)
  clear hB12 hB12x HX11 HY11 HB11 HRF e1 e2 e3 e4 e5 e6 e7 e8
  obtain ⟨hyn, hyc⟩ := byt_n HY12.out.byt
  have Hyn := hide hyn
  have hpos := codB_pos C
  have hmost := codB_most HckC.out HrC.out
  obtain ⟨m, hm, e1, e2⟩ := cut_k cut yn (by omega) (by omega)
  have e3 : ((yn : Int) == 0) = false := by simp; omega
  have e6 : ¬ yn = 0 := by omega
  have e7 : ¬ (yn : Int) = 0 := by omega
  have e8 : (yn == 0) = false := by simp; omega
  have e4 : (0 : Int) ≤ (m : Int) := by omega
  have e5 : (m : Int) ≤ (yc : Int) := by omega
  have HRC := hide (readC_cut HckC.out HrC.out (.slice ya m yc) _ m (by omega) (Byt.takeL HY12.out.byt m (by omega)))
  clear hyn hyc hm hpos hmost
  go_wp2_with fail
  generalize (w12.alloc (.cells #[.int .i64 0, .int .i64 0, .slice ra rn rc] 24)) = w13 at *
  refine HRC.out.mono ?_
  rintro r w14 ⟨ta, tn, tc, rfl, hB14⟩
  have hB14x := bel_of hB14 (bel1' w14 (.cells #[.int .i64 0, .int .i64 0, .int .i64 0, .slice ta tn tc] 42))
  have HX14 := hide (HX12.out.below hB14x)
  have HY14 := hide (HY12.out.below hB14x)
  have HB14 := hide (bel_of HB12.out hB14x)
  clear hB14 hB14x HX12 HY12 HB12 HRC e1 e2 e3 e4 e5 e6 e7 e8
  go_upto_region 12 with fail
  generalize (w14.alloc (.cells #[.int .i64 0, .int .i64 0, .int .i64 0, .slice ta tn tc] 42)) = w15 at *
  obtain ⟨hi, hz0, hz1, hz2⟩ := HI.out
  have hXa := (HX14.out.below (bel1' _ (.cells #[.int .u8 0] 5)))
  have hlx := funB_most HckM.out HrM.out
  have hpx := funB_pos M
  have hsx := hXa.size hpx
  go_wp2_with (at_builtin; go_must (refine Lb.wpList_append_byt _ rfl (.tmp 108) (.tmp 109) 25 rfl _ i0 Try.underlying25 hi hz0 hz1 hz2 _ _ _ rfl hXa.2 _ [0] rfl (Lb.Byt.one _ 0 (by omega) (by omega)) (by simp; omega) hsx ?_))
  intro v16 w16 hown hg16
  have hbX : Out w3.heap.size w16 v16 (funB M ++ [0]) := ⟨fun x hx => by rcases List.mem_append.1 hx with h | h; exact HX14.out.1 x h; simp at h; omega, owns_cast hown (by simp) (by simp)⟩
  obtain ⟨va16, vn16, vc16, rfl⟩ := bysnd _ _ _ hbX.byt
  have hY16 : Out w4.heap.size w16 (.slice ya yn yc) (codB C) := by
    have h1 := HY14.out.below (bel1' w15 (.cells #[.int .u8 0] 5))
    refine ⟨h1.1, h1.2.kept hg16 ?_⟩
    cases ho : (Value.slice ya yn yc).ownBlock with
    | none => exact .inl rfl
    | some k =>
      refine .inr fun e => ?_
      have h2 := (h1.2.lt k ho).1
      have h3 := HXk.out k e.symm
      omega
  have hB16 : Below w.heap.size w w16 := (HB14.out.trans ((bel1' w15 (.cells #[.int .u8 0] 5)).mono HB14.out.size)).grown hg16 (by have := HB14.out.size; simp; omega) (fun k hk => Nat.le_trans Hw3.out (hXa.2.lt k hk).1)
  have HY16 := hide hY16
  have HB16 := hide hB16
  have HRM := hide (readF_more HckM.out HrM.out (.slice va16 vn16 vc16) w16 hbX.byt)
  clear hbX hY16 hB16 hown hg16 hXa hlx hpx hsx HX14 HY14 HB14 hi hz0 hz1 hz2
  go_wp2_with fail
  refine HRM.out.mono ?_
  rintro r w17 ⟨na, nn, nc, rfl, hB17⟩
  have hB17x := bel_of hB17 (bel1' w17 (.cells #[.int .i64 0, .int .i64 0, .slice na nn nc] 24))
  have HY17 := hide (HY16.out.below hB17x)
  have HB17 := hide (bel_of HB16.out hB17x)
  clear hB17 hB17x HY16 HB16 HRM
  go_upto_region 13 with fail
  generalize (w17.alloc (.cells #[.int .i64 0, .int .i64 0, .slice na nn nc] 24)) = w18 at *
  obtain ⟨hi, hz0, hz1, hz2⟩ := HI.out
  have hYa := (HY17.out.below (bel1' _ (.cells #[.int .u8 0] 5)))
  have hly := codB_most HckC.out HrC.out
  have hpy := codB_pos C
  have hsy := hYa.size hpy
  go_wp2_with (at_builtin; go_must (refine Lb.wpList_append_byt _ rfl (.tmp 115) (.tmp 116) 25 rfl _ i0 Try.underlying25 hi hz0 hz1 hz2 _ _ _ rfl hYa.2 _ [0] rfl (Lb.Byt.one _ 0 (by omega) (by omega)) (by simp; omega) hsy ?_))
  intro v19 w19 hown hg19
  have hbY : Out w4.heap.size w19 v19 (codB C ++ [0]) := ⟨fun x hx => by rcases List.mem_append.1 hx with h | h; exact HY17.out.1 x h; simp at h; omega, owns_cast hown (by simp) (by simp)⟩
  obtain ⟨va19, vn19, vc19, rfl⟩ := bysnd _ _ _ hbY.byt
  have hB19 : Below w.heap.size w w19 := (HB17.out.trans ((bel1' w18 (.cells #[.int .u8 0] 5)).mono HB17.out.size)).grown hg19 (by have := HB17.out.size; simp; omega) (fun k hk => Nat.le_trans Hw4.out (hYa.2.lt k hk).1)
  have HB19 := hide hB19
  have HRM := hide (readC_more HckC.out HrC.out (.slice va19 vn19 vc19) w19 hbY.byt)
  clear hbY hB19 hown hg19 hYa hly hpy hsy HY17 HB17 hi hz0 hz1 hz2
  go_wp2_with fail
  refine HRM.out.mono ?_
  rintro r w20 ⟨oa, on, oc, rfl, hB20⟩
  have HB20 := hide (bel_of HB19.out (bel_of hB20 (bel1' w20 (.cells #[.int .i64 0, .int .i64 0, .int .i64 0, .slice oa on oc] 42))))
  clear hB20 HRM HB19
  go_wp2_with fail
  go_ret
  exact ⟨rfl, HB20.out⟩
end Go.Proofs.Ytbjnhicikkjadaa
