/- The walk of RunMoves. -/
import Derived.Test.YtljnngblhfhhaaaRv0
import Derived.Test.YtljnngblhfhhaaaMt
import Derived.Test.YtljnngblhfhhaaaRa
import Derived.BigRegion
namespace Go.Proofs.Ytljnngblhfhhaaa
open Go.RowKit Ir

theorem BlksO.some {B : Nat} {W : World} {ao : Option Addr} {n cap : Nat} {bs : List Blk} (h : BlksO B W (.slice ao n cap) bs) (h0 : 0 < bs.length) : ∃ g, ao = some ⟨g, 0, none⟩ := by
  obtain ⟨ps, rfl, h2, _⟩ := h
  rcases h2.2 with ⟨_, h1⟩ | ⟨g, _, _, hv, _⟩
  · rw [List.length_map] at h0
    omega
  · simp only [Value.slice.injEq] at hv
    exact ⟨g, hv.1⟩
theorem InssO.parts {B : Nat} {W : World} {u : Value} {is : List Ins} (h : InssO B W u is) : ∃ (ps : List (Ins × Value)) (ua : Option Addr) (ci : Nat), u = .slice ua ps.length ci ∧ ps.map (·.1) = is ∧ W.ownsRow B 71 7 (.slice ua ps.length ci) ps.length (cellsI ps) ∧ ∀ q ∈ ps, ArgsO B W q.2 q.1.args := by
  obtain ⟨ps, h1, h2, h3⟩ := h
  rcases h2.2 with ⟨rfl, h0⟩ | ⟨g, cap, _, rfl, _⟩
  · have : ps = [] := List.eq_nil_of_length_eq_zero h0
    subst this
    exact ⟨[], none, 0, rfl, h1, h2, h3⟩
  · exact ⟨ps, _, _, rfl, h1, h2, h3⟩
theorem modN1 {x : Int} (n : Nat) (hx : 0 ≤ x) : ∃ kk : Nat, x.tmod ((n : Int) + 1) = (kk : Int) ∧ kk ≤ n := by
  obtain ⟨kk, h1, h2⟩ := modN (j := n + 1) hx (by omega)
  exact ⟨kk, by rw [← h1]; simp, by omega⟩
/-- What lay lower than B2, and was left, is left by changes behind B2. -/
theorem keeps_low {T : TypeId → Bool} {W0 W W' : World} {B2 : Nat} (h : Keeps T W0 W) (h0 : W0.heap.size ≤ B2) (hb : Below B2 W W') : Keeps T W0 W' := by
  intro g cs t fr ht hg
  have hlt := (Array.getElem?_eq_some_iff.1 hg).1
  rw [hb.block g (by omega)]
  exact h g cs t fr ht hg
theorem mv_ins {F : Fun} {ps : List (Ins × Value)} {jb kk : Nat} {rr : Int} (hj : jb < F.bs.length) (hps : ps.map (·.1) = F.bs[jb].ins) : F.bs.set jb ⟨((ps.take kk ++ [(mvI rr, Value.slice none 0 0)]) ++ ps.drop kk).map (·.1), F.bs[jb].e⟩ = (mvF jb kk rr F).bs := by
  unfold mvF mvB
  have e : F.bs.getD jb Blk.zero = F.bs[jb] := by simp [hj]
  simp only [e, ← hps, List.map_append, List.map_take, List.map_drop, List.map_cons, List.append_assoc, List.cons_append, List.nil_append]
/-- The move is put in: what stands behind. -/
theorem put_mv {B2 gg n gc jb kk : Nat} {rr : Int} {F : Fun} {W W8 : World} {ps : List (Ins × Value)} {v : Value} (hOg : BlksO B2 W (.slice (some ⟨gg, 0, none⟩) n gc) F.bs) (hj : jb < F.bs.length) (hps : ps.map (·.1) = F.bs[jb].ins) (hargs : ∀ q ∈ ps, ArgsO B2 W q.2 q.1.args) (hB2 : B2 ≤ W.heap.size) (hb : Below W.heap.size W W8) (hv : W8.ownsRow W.heap.size 71 7 v ((ps.take kk ++ [(mvI rr, Value.slice none 0 0)]) ++ ps.drop kk).length (cellsI ((ps.take kk ++ [(mvI rr, Value.slice none 0 0)]) ++ ps.drop kk))) :
    BlksO B2 (W8.setCell ⟨gg, jb * 5, none⟩ v) (.slice (some ⟨gg, 0, none⟩) n gc) (mvF jb kk rr F).bs ∧ Below B2 W (W8.setCell ⟨gg, jb * 5, none⟩ v) ∧ Keeps (fun t => t == 31) W (W8.setCell ⟨gg, jb * 5, none⟩ v) := by
  have h1 := hOg.below hb
  have hO : InssO B2 W8 v (((ps.take kk ++ [(mvI rr, Value.slice none 0 0)]) ++ ps.drop kk).map (·.1)) := by
    refine ⟨_, rfl, owns_mono hv hB2, fun q hq => ?_⟩
    rcases List.mem_append.1 hq with hq | hq
    · rcases List.mem_append.1 hq with hq | hq
      · exact (hargs q (List.mem_of_mem_take hq)).keeps (Keeps.below hb)
      · simp at hq
        subst hq
        exact ArgsO.nil _ _
    · exact (hargs q (List.mem_of_mem_drop hq)).keeps (Keeps.below hb)
  obtain ⟨hBg, cs, hcs⟩ := h1.row
  have h2 := h1.put jb hj hO
  rw [mv_ins hj hps] at h2
  exact ⟨h2, (hb.mono hB2).setCell (p := ⟨gg, jb * 5, none⟩) hBg v, (Keeps.below hb).trans (Keeps.set hcs rfl v)⟩
theorem runO_mv {F : Fun} {X : Inp} {jb kk : Nat} {rr : Int} (h1 : runF F X = 0) (h2 : runF (mvF jb kk rr F) X = 0) : runO (mvF jb kk rr F) X = runO F X := by
  rw [runO_play h1, runO_play h2]
  exact play_mv F.v rr F.bs jb kk 0 _
set_option maxHeartbeats 4000000 in
set_option maxRecDepth 100000 in
theorem moves_walk (v0 v1 : Value) (sa sb sc : Int) (bs : List Int) (I : Inp) (b0 k0 r0 : Int) (w : World) (hS : SpecV w v0 sa sb sc bs) (hI : InpV w v1 I) (hb0 : 0 ≤ b0 ∧ b0 < 256) (hk0 : 0 ≤ k0 ∧ k0 < 256) (hr0 : 0 ≤ r0 ∧ r0 < 256) : Calls Try.prog 7 #[v0, v1, .int .u8 b0, .int .u8 k0, .int .u8 r0] w fun e w' => e = .returned (.bool true) ∧ Below w.heap.size w w' := by
  have hS' := hS
  obtain ⟨u, rfl, hsa, hsb, hsc, hu⟩ := hS'
  have hI' := hI
  obtain ⟨a, b, c, rfl, ha, hm, hc⟩ := hI'
  obtain ⟨ua, uc, rfl⟩ := hu.slice
  obtain ⟨aa, ac, rfl⟩ := ha.slice
  obtain ⟨ba, bc, rfl⟩ := hm.slice
  obtain ⟨ca, cc, rfl⟩ := hc.slice
  obtain ⟨pn, hpn, hpl⟩ := made_p sa sb sc bs
  have hbox := law_box w (.int .u8 sa) (.int .u8 sb) (.int .u8 sc) (.slice ua bs.length uc) (.slice aa I.args.length ac) (.slice ba I.mem.length bc) (.slice ca I.ans.length cc) (.int .i64 I.fuel)
  have HA := hide (awake_any ((w.alloc (.cells #[.int .u8 sa, .int .u8 sb, .int .u8 sc, .slice ua bs.length uc] 24)).alloc (.cells #[.slice aa I.args.length ac, .slice ba I.mem.length bc, .slice ca I.ans.length cc, .int .i64 I.fuel] 27)))
  have HBOX := hide hbox
  clear hbox ha hm hc hu hsa hsb hsc
  have HF0 := hide (made_right sa sb sc bs)
  have hv1 : 0 < (made sa sb sc bs).v := by show 0 < vOf sa sb; unfold vOf; omega
  go_enter Try.func7, Try.ntmps7
  go_wp2_with fail
  refine HA.out.mono ?_
  rintro e W1 ⟨rfl, hB1⟩
  obtain ⟨s0, s1, s2, s3, i0, i1, i2, i3, hBw⟩ := HBOX.out W1 hB1
  clear HBOX HA hB1
  have HS1 := hide (hS.below hBw)
  have HI1 := hide (hI.below hBw)
  have HB1 := hide hBw
  have HI4 := hide (And.intro i0 (And.intro i1 (And.intro i2 i3)))
  clear hS hI hBw
  go_wp2_with fail
  refine mt_ok rfl rfl s0 s1 s2 s3 HS1.out ?_
  clear s0 s1 s2 s3 i0 i1 i2 i3 HS1
  have HF := HF0.out
  generalize made sa sb sc bs = F at *
  intro q pf pg B2 W0 uf ug W hq11 hq12 hpf hpg hne hrf hrg hOf hW0 hK hOg hB2 hB2w hBW
  obtain ⟨fa, fc, rfl⟩ := hOf.v.slice
  obtain ⟨ga, gc, rfl⟩ := hOg.v.slice
  simp [overlay, dstsOf, ops_mt, hq11, hq12]
  obtain ⟨hsz, hbl⟩ := chk_all (F := F) (by rw [HF])
  have hsz : 0 ≤ F.p ∧ F.p ≤ 4 ∧ F.p ≤ F.v ∧ F.v ≤ 32 ∧ 1 ≤ F.bs.length ∧ F.bs.length ≤ 16 := by simpa [sized] using hsz
  obtain ⟨gg, rfl⟩ := hOg.some (by omega)
  obtain ⟨jb, hjt, hjb⟩ := modN (x := b0) (j := F.bs.length) hb0.1 (by omega)
  obtain ⟨ui, hbc, hIo⟩ := hOg.at jb hjb
  obtain ⟨ps, pa, ci, rfl, hps, hown, hargs⟩ := hIo.parts
  obtain ⟨kk, hkt, hkk⟩ := modN1 (x := k0) ps.length hk0.1
  obtain ⟨rr, hrt, hrr0, hrr⟩ := modZ (x := r0) (r := F.v) hr0.1 hv1
  have hpsl : ps.length ≤ 32 := by
    have h1 := (blkF_all (hbl _ (List.getElem_mem hjb))).1
    rw [← hps, List.length_map] at h1
    exact h1
  obtain ⟨g0, g1, g2, gfz⟩ := box3 hrg
  have hc0 := hbc.c0
  have hjb5 : (jb : Int) < (F.bs.length : Int) := by omega
  have hlen1 : (1 : Int) ≤ (F.bs.length : Int) := by omega
  have hpl' : (ps.length : Int) ≤ 32 := by omega
  have HROW : Hid (∃ cs, W.heap[gg]? = some (Obj.cells cs 66 (0, 0))) := hOg.row.2
  have HOWN := hide hown
  have HARGS := hide hargs
  have HPS := hide hps
  have HSL : Hid (∀ p ∈ ps, ∃ a n c, p.2 = .slice a n c) := fun p hp => by
    obtain ⟨q1, q2, q3⟩ := (hargs p hp).v.slice
    exact ⟨_, _, _, q3⟩
  have HOF := hide hOf
  have HOG := hide hOg
  have HKK := hide hK
  have HBW := hide hBW
  have HRF := hide hrf
  have HRG := hide hrg
  have HJB := hide hjb
  have HNE := hide hne
  have HPF := hide (And.intro hpf (And.intro hpg (And.intro hW0 (And.intro hB2 hB2w))))
  have HKN := hide hkk
  clear hsz hbl hbc hIo hps hown hargs hOf hOg hK hBW hrf hrg gfz hne hpf hpg hW0 hB2 hB2w HF hq11 hq12
  go_wp2_with fail
  go_region
  go_wp2_with fail
  go_region
  by_cases h32 : (32 : Int) ≤ (ps.length : Int)
  · have HBF : Hid (Below w.heap.size w W.drew.drew) := (bel_of HB1.out HBW.out).drew.drew
    clear HB1 HBW HROW HOWN HARGS HPS HSL HOF HOG HKK HRF HRG HJB HNE HPF HKN HI1 HI4 HF0
    go_wp2_with fail
    go_ret
    exact ⟨rfl, HBF.out⟩
  replace h32 : (ps.length : Int) < 32 := by omega
  have HC0 := hide hc0
  have HRR := hide (And.intro hrr0 hrr)
  clear hjt hkt hrt hrr0 hrr g0 g1 g2
  go_wp2_with fail
  refine m8_ok (wd := W.drew.drew) (B := B2) (g := gg) (jb := jb) (n := ps.length) (ci := ci) (ua := pa) (kk := kk) (rr := rr) (ps := ps) rfl rfl rfl rfl HC0.out HROW.out (owns_below HOWN.out (Below.refl _ _).drew.drew) (by omega) HKN.out HSL.out ?_
  intro q8 W8 v8 hb8 hv8
  have hb8 : Below W.heap.size W W8 := bel_of (Below.refl W.heap.size W).drew.drew hb8
  have hv8 : W8.ownsRow W.heap.size 71 7 v8 _ _ := hv8
  simp [overlay, dstsOf, ops_m8]
  obtain ⟨hOG, hB9, hK9⟩ := put_mv HOG.out HJB.out HPS.out HARGS.out HPF.out.2.2.2.1 hb8 hv8
  generalize W8.setCell ⟨gg, jb * 5, none⟩ v8 = W9 at hOG hB9 hK9 ⊢
  have hOF : BlksO W1.heap.size W9 (.slice fa F.bs.length fc) F.bs := HOF.out.keeps (keeps_low HKK.out HPF.out.2.2.1 hB9)
  have hrf : W9.heap[pf]? = _ := hK9 _ _ _ _ rfl HRF.out
  have hrg : W9.heap[pg]? = _ := hK9 _ _ _ _ rfl HRG.out
  have hB19 : Below W1.heap.size W1 W9 := HBW.out.trans (hB9.mono HPF.out.2.2.2.2)
  obtain ⟨f0, f1, f2, _⟩ := box3 hrf
  have i0 := cell_below hB19 HI4.out.1
  have i1 := cell_below hB19 HI4.out.2.1
  have i2 := cell_below hB19 HI4.out.2.2.1
  have i3 := cell_below hB19 HI4.out.2.2.2
  have hFB : Hid (F.bs.length = (mvF jb kk rr F).bs.length) := by simp [Hid, mvF]
  have HG : Hid (chk (mvF jb kk rr F) = (0, 0, 0)) := chk_mv HF0.out HJB.out HRR.out (by
    have e : F.bs.getD jb Blk.zero = F.bs[jb]'HJB.out := by simp [HJB.out]
    rw [e, ← HPS.out, List.length_map]
    omega)
  have HVF := hide hOF.v
  have HVG := hide hOG.v
  have HBX := hide (bel_of HB1.out hB19)
  have HIX := hide (HI1.out.below hB19)
  have HRF9 := hide hrf
  have HRG9 := hide hrg
  rw [hpn] at f0 HRF9 HRG9
  have HIN := hide (input_any _ I pn _ HIX.out hpl)
  clear hb8 hv8 hOG hB9 hK9 hOF hrf hrg hB19 HOF HOG HKK HBW HRF HRG HPF HPS HARGS HOWN HSL HROW HC0 HB1 HI4 HI1 HKN HNE h32 hc0 hjb5 hlen1 hpl'
  go_wp2_with fail
  refine HIN.out.mono ?_
  clear HIN i0 i1 i2 i3 f0 f1 f2
  rintro e W3 ⟨x, rfl, hX, hB3⟩
  have hX' := hX
  obtain ⟨x0, x1, x2, rfl, hx0, hx1, hx2⟩ := hX'
  obtain ⟨xa, xac, rfl⟩ := hx0.slice
  obtain ⟨xb, xbc, rfl⟩ := hx1.slice
  obtain ⟨xc, xcc, rfl⟩ := hx2.slice
  have hbb := bel1' W3 (.cells #[.slice xa (inpOf I pn).args.length xac, .slice xb (inpOf I pn).mem.length xbc, .slice xc (inpOf I pn).ans.length xcc, .int .i64 (inpOf I pn).fuel] 27)
  have hxr := heap_alloc_new W3 (.cells #[.slice xa (inpOf I pn).args.length xac, .slice xb (inpOf I pn).mem.length xbc, .slice xc (inpOf I pn).ans.length xcc, .int .i64 (inpOf I pn).fuel] 27)
  have hfr := row_bel (row_bel HRF9.out hB3) hbb
  have hgr := row_bel (row_bel HRG9.out hB3) hbb
  have HVF3 := hide ((HVF.out.below hB3).below hbb)
  have HVG3 := hide ((HVG.out.below hB3).below hbb)
  have HB4 := hide (bel_of HBX.out (bel_of hB3 hbb))
  have hfu : 0 ≤ (inpOf I pn).fuel ∧ (inpOf I pn).fuel < 400 := by rw [show (inpOf I pn).fuel = (I.fuel % 18446744073709551616) % 400 from rfl]; omega
  have hxl : Hid ((inpOf I pn).args.length = pn) := argsOf_len _ _
  generalize inpOf I pn = X at *
  have HX := hide (hX.below hbb)
  have f0 : ∀ o, (W3.alloc o).cell? ⟨pf, 0, none⟩ = some (.int .i64 (pn : Int)) := fun o => cell_below (bel1' W3 o) (box3 (row_bel HRF9.out hB3)).1
  have f1 : ∀ o, (W3.alloc o).cell? ⟨pf, 1, none⟩ = some (.int .i64 F.v) := fun o => cell_below (bel1' W3 o) (box3 (row_bel HRF9.out hB3)).2.1
  have f2 : ∀ o, (W3.alloc o).cell? ⟨pf, 2, none⟩ = some (.slice fa F.bs.length fc) := fun o => cell_below (bel1' W3 o) (box3 (row_bel HRF9.out hB3)).2.2.1
  have HXR := hide hxr
  have HFR := hide hfr
  have HGR := hide hgr
  clear hX hx0 hx1 hx2 hB3 hfr hgr HRF9 HRG9 HVF HVG HBX HIX hbb hxr
  obtain ⟨Z, hz, hzs⟩ := z37
  have HZ := hide (And.intro hz hzs)
  clear hz hzs
  go_wp2_with fail
  clear f0 f1 f2
  generalize W3.alloc (.cells #[.slice xa X.args.length xac, .slice xb X.mem.length xbc, .slice xc X.ans.length xcc, .int .i64 X.fuel] 27) = A3 at *
  generalize W3.heap.size = gx at *
  obtain ⟨g0, g1, g2, _⟩ := box3 HGR.out
  have hxr := HXR.out
  have x0 : A3.cell? ⟨gx, 0, none⟩ = some (.slice xa X.args.length xac) := by rw [cell_of_row _ _ _ _ _ _ hxr]; rfl
  have x1 : A3.cell? ⟨gx, 1, none⟩ = some (.slice xb X.mem.length xbc) := by rw [cell_of_row _ _ _ _ _ _ hxr]; rfl
  have x2 : A3.cell? ⟨gx, 2, none⟩ = some (.slice xc X.ans.length xcc) := by rw [cell_of_row _ _ _ _ _ _ hxr]; rfl
  have x3 : A3.cell? ⟨gx, 3, none⟩ = some (.int .i64 X.fuel) := by rw [cell_of_row _ _ _ _ _ _ hxr]; rfl
  clear hxr HXR HFR HGR
  have hFA : FunV A3 (.agg #[.int .i64 (pn : Int), .int .i64 F.v, .slice fa F.bs.length fc]) F := ⟨_, by rw [hpn], HVF3.out⟩
  have hGA : FunV A3 (.agg #[.int .i64 (pn : Int), .int .i64 F.v, .slice (some ⟨gg, 0, none⟩) F.bs.length gc]) (mvF jb kk rr F) := ⟨_, by rw [← hpn]; rfl, HVG3.out⟩
  have hrx : runF F X = 0 := runF_zero HF0.out hpn hxl.out (by omega)
  have hry : runF (mvF jb kk rr F) X = 0 := runF_zero HG.out hpn hxl.out (by omega)
  have HRY := hide (And.intro hry (runO_mv hrx hry))
  refine (run_any F X _ _ A3 hFA HX.out).mono ?_
  rintro e W4 ⟨x, rfl, hOut, hB4⟩
  rw [hrx]
  obtain ⟨OA, cva, rfl, hOA, hla, hoa, hca, hma⟩ := out_var hOut
  obtain ⟨ka, kac, rfl⟩ := hca.v.slice
  have g0 := cell_below hB4 g0
  have g1 := cell_below hB4 g1
  have g2 := cell_below hB4 g2
  have x0 := cell_below hB4 x0
  have x1 := cell_below hB4 x1
  have x2 := cell_below hB4 x2
  have x3 := cell_below hB4 x3
  have HGA := hide (hGA.below hB4)
  have HXA := hide (HX.out.below hB4)
  have HB5 := hide (bel_of HB4.out hB4)
  have HOA := hide (And.intro hOA (And.intro hla (And.intro hoa (And.intro hca hma))))
  generalize runO F X = oa at *
  clear hOA hla hoa hca hma hFA hGA hB4 hOut HX HVF3 HVG3 HB4 hrx hry
  go_wp2_with (refine wpList_var 37 17 rfl rfl rfl rfl (.tmp 87) rfl rfl Z OA.toArray HZ.out.1 (by simp) rfl (by simp only [List.size_toArray, HOA.out.2.1]; exact size37) (by simp only [List.size_toArray, HOA.out.2.1]; exact HZ.out.2) HOA.out.2.2.1 ?_; intro ga W5 hga; have hB5 := hga.out.2.2; rw [hga.out.1] at hB5; have x0 := cell_below hB5 x0; have x1 := cell_below hB5 x1; have x2 := cell_below hB5 x2; have x3 := cell_below hB5 x3; have g0 := cell_below hB5 g0; have g1 := cell_below hB5 g1; have g2 := cell_below hB5 g2)
  refine (run_any (mvF jb kk rr F) X _ _ W5 (HGA.out.below hB5) (HXA.out.below hB5)).mono ?_
  rintro e W12 ⟨x, rfl, hOut, hB12⟩
  rw [HRY.out.1]
  rw [HRY.out.2] at hOut
  obtain ⟨OB, cvb, rfl, hOB, hlb, hob, hcb, hmb⟩ := out_var hOut
  obtain ⟨kb, kbc, rfl⟩ := hcb.v.slice
  have hra : W12.heap[ga]? = some (Obj.cells OA.toArray 37 (0, 0)) := (hB12.block ga (Array.getElem?_eq_some_iff.1 hga.out.2.1).1).trans hga.out.2.1
  have hcax := (HOA.out.2.2.2.1.below hB5).below hB12
  have HBW := hide (bel_of HB5.out (bel_of hB5 hB12))
  have HOB := hide (And.intro hOB (And.intro hlb (And.intro hob (And.intro hcb hmb))))
  have HA6 := hide (And.intro hra hcax)
  clear hOB hlb hob hcb hmb hra hcax hB12 hOut g0 g1 g2 x0 x1 x2 x3
  go_wp2_with (first | (refine wpList_var 37 19 rfl rfl rfl rfl (.tmp 93) rfl rfl Z OB.toArray HZ.out.1 (by simp) rfl (by simp only [List.size_toArray, HOB.out.2.1]; exact size37) (by simp only [List.size_toArray, HOB.out.2.1]; exact HZ.out.2) HOB.out.2.2.1 ?_; intro gb W13 hgb; obtain ⟨za, zb, hcs⟩ := two_outs HOA.out HOB.out HA6.out hgb; clear za zb) | (refine wpList_load_rowG rfl (.tmp 17) rfl ga rfl OA.toArray hcs.out.2.2.1 (by simp only [List.size_toArray, HOA.out.2.1]; exact size37) ?_) | (refine wpList_load_rowG rfl (.tmp 19) rfl gb rfl OB.toArray hcs.out.2.2.2.1 (by simp only [List.size_toArray, HOB.out.2.1]; exact size37) ?_))
  refine (same_any oa (.agg OA.toArray) (.agg OB.toArray) _ ⟨.slice ka oa.calls.length kac, by rw [HOA.out.1], hcs.out.1.v, HOA.out.2.2.2.2⟩ ⟨.slice kb oa.calls.length kbc, by rw [HOB.out.1], hcs.out.2.1.v, HOB.out.2.2.2.2⟩).mono ?_
  rintro e W14 ⟨rfl, hB14⟩
  have HB14 := hide (bel_of HBW.out (bel_of hcs.out.2.2.2.2 hB14))
  clear hB14 hcs
  go_wp2_with fail
  go_ret
  exact ⟨rfl, HB14.out⟩
end Go.Proofs.Ytljnngblhfhhaaa
