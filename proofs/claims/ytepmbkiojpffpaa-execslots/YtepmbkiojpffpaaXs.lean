/- ExecSlots: a register that is spilled into a slot that nobody uses, and filled again, changes nothing. -/
import Derived.Test.YtepmbkiojpffpaaXs0
import Derived.Test.YtepmbkiojpffpaaSo
import Derived.Test.YtepmbkiojpffpaaEy
import Derived.Test.YtepmbkiojpffpaaIn
import Derived.BigRegion
namespace Go.Proofs.Ytepmbkiojpffpaa
open Go Go.RowKit Ir

/-- Two variables of outputs, behind. -/
theorem two_outs {W6 W7 : World} {ga gb : Nat} {oa ob : Out} {cva cvb : Value} {OA OB : List Value} {P : Prop} (hA : OA = outL oa.how oa.val cva oa.mem oa.left ∧ OA.length = 68 ∧ (∀ u ∈ OA.toArray.toList, u.oneCell' = true) ∧ P ∧ oa.mem.length = 64) (hB : OB = outL ob.how ob.val cvb ob.mem ob.left ∧ OB.length = 68 ∧ (∀ u ∈ OB.toArray.toList, u.oneCell' = true) ∧ CallsX W6 cvb ob.calls ∧ ob.mem.length = 64) (ha : W6.heap[ga]? = some (Obj.cells OA.toArray 37 (0, 0)) ∧ CallsX W6 cva oa.calls)
    (hb : Hid (gb = W6.heap.size ∧ W7.heap[gb]? = some (Obj.cells OB.toArray 37 (0, 0)) ∧ Below gb W6 W7)) :
    (W7.cell? ⟨ga, 0, none⟩ = some (.int .i64 oa.how) ∧ W7.cell? ⟨ga, 1, none⟩ = some (.int .i64 oa.val) ∧ W7.cell? ⟨ga, 2, none⟩ = some cva ∧ W7.cell? ⟨ga, 67, none⟩ = some (.int .i64 oa.left)) ∧ (W7.cell? ⟨gb, 0, none⟩ = some (.int .i64 ob.how) ∧ W7.cell? ⟨gb, 1, none⟩ = some (.int .i64 ob.val) ∧ W7.cell? ⟨gb, 2, none⟩ = some cvb ∧ W7.cell? ⟨gb, 67, none⟩ = some (.int .i64 ob.left)) ∧ Hid (CallsX W7 cva oa.calls ∧ CallsX W7 cvb ob.calls ∧ W7.heap[ga]? = some (Obj.cells OA.toArray 37 (0, 0)) ∧ W7.heap[gb]? = some (Obj.cells OB.toArray 37 (0, 0)) ∧ Below W6.heap.size W6 W7) := by
  obtain ⟨eA, _, _, _, mA⟩ := hA
  obtain ⟨eB, _, _, cB, mB⟩ := hB
  obtain ⟨hg, hr, hB'⟩ := hb.out
  rw [hg] at hB'
  have hra : W7.heap[ga]? = some (Obj.cells OA.toArray 37 (0, 0)) := (hB'.block ga (Array.getElem?_eq_some_iff.1 ha.1).1).trans ha.1
  have hra' := hra
  rw [eA] at hra'
  have hr' := hr
  rw [eB] at hr
  exact ⟨out_cells mA hra', out_cells mB hr, ha.2.below hB', cB.below hB', hra, hr', hB'⟩
theorem wpList_load_rowG {ops : Array Oper} {rest : List Oper} {o : Oper} {a : Act} {w : World} {Q : Exit → Act → World → Prop} (hw : Region.wanted o (yielded ops a.tmps) = true) (x : Operand) (ho : o.op = .load 37 x) (g : Nat) (hx : a.eval x = .pointer (some ⟨g, 0, none⟩)) (cs : Array Value) (hg : w.heap[g]? = some (.cells cs 37 (0, 0))) (hi : (Try.prog.info? 37).map (·.size) = some cs.size) (h : wpList Try.prog ops Q rest (a.put o.dst (.agg cs)) w) : wpList Try.prog ops Q (o :: rest) a w := by
  refine wpList_step fun K hK => ?_
  rw [if_pos hw]
  exact wp_load_row 37 x ho g hx 37 cs (0, 0) _ hg Try.underlying37 rfl hi (hK _ _ h)
theorem BlksO.some {B : Nat} {W : World} {ao : Option Addr} {n cap : Nat} {bs : List Blk} (h : BlksO B W (.slice ao n cap) bs) (h0 : 0 < bs.length) : ∃ g, ao = some ⟨g, 0, none⟩ := by
  obtain ⟨ps, rfl, h2, _⟩ := h
  rcases h2.2 with ⟨_, h1⟩ | ⟨g, _, _, hv, _⟩
  · rw [List.length_map] at h0
    omega
  · simp only [Value.slice.injEq] at hv
    exact ⟨g, hv.1⟩
theorem InssO.parts {B : Nat} {W : World} {u : Value} {is : List Ins} (h : InssO B W u is) : ∃ (ps : List (Ins × Value)) (ua : Option Addr) (ci : Nat), u = .slice ua ps.length ci ∧ ps.map (·.1) = is ∧ W.ownsRow B 65 7 (.slice ua ps.length ci) ps.length (cellsI ps) ∧ ∀ q ∈ ps, ArgsO B W q.2 q.1.args := by
  obtain ⟨ps, h1, h2, h3⟩ := h
  rcases h2.2 with ⟨rfl, h0⟩ | ⟨g, cap, _, rfl, _⟩
  · have : ps = [] := List.eq_nil_of_length_eq_zero h0
    subst this
    exact ⟨[], none, 0, rfl, h1, h2, h3⟩
  · exact ⟨ps, _, _, rfl, h1, h2, h3⟩
theorem modN1 {x : Int} (n : Nat) (hx : 0 ≤ x) : ∃ kk : Nat, x.tmod ((n : Int) + 1) = (kk : Int) ∧ kk ≤ n := by
  obtain ⟨kk, h1, h2⟩ := modN (j := n + 1) hx (by omega)
  exact ⟨kk, by rw [← h1]; simp, by omega⟩
theorem row_bel {W W' : World} {p : Nat} {o : Obj} (h : W.heap[p]? = some o) (hb : Below W.heap.size W W') : W'.heap[p]? = some o := by
  rw [hb.block p (Array.getElem?_eq_some_iff.1 h).1]
  exact h
theorem box4 {W : World} {g : Nat} {a b c d : Value} {t : TypeId} (h : W.heap[g]? = some (Obj.cells #[a, b, c, d] t (0, 0))) : W.cell? ⟨g, 0, none⟩ = some a ∧ W.cell? ⟨g, 1, none⟩ = some b ∧ W.cell? ⟨g, 2, none⟩ = some c ∧ W.cell? ⟨g, 3, none⟩ = some d := by
  refine ⟨?_, ?_, ?_, ?_⟩
  all_goals (rw [cell_of_row _ _ _ _ _ _ h]; rfl)
theorem sp_ins {C : Cod} {ps : List (Ins × Value)} {jb kk : Nat} {rr : Int} (hj : jb < C.bs.length) (hps : ps.map (·.1) = C.bs[jb].ins) : C.bs.set jb ⟨((ps.take kk ++ [(spI C.s rr, Value.slice none 0 0), (flI C.s rr, Value.slice none 0 0)]) ++ ps.drop kk).map (·.1), C.bs[jb].e⟩ = (spC rr jb kk C).bs := by
  unfold spC spB
  have e : C.bs.getD jb Blk.zero = C.bs[jb] := by simp [hj]
  simp only [e, ← hps, List.map_append, List.map_take, List.map_drop, List.map_cons, List.map_nil]
/-- The two are put in: what stands behind. -/
theorem put_sp {B2 gg n gc jb kk : Nat} {rr : Int} {C : Cod} {W W8 : World} {ps : List (Ins × Value)} {v : Value} (hOg : BlksO B2 W (.slice (some ⟨gg, 0, none⟩) n gc) C.bs) (hj : jb < C.bs.length) (hps : ps.map (·.1) = C.bs[jb].ins) (hargs : ∀ q ∈ ps, ArgsO B2 W q.2 q.1.args) (hB2 : B2 ≤ W.heap.size) (hb : Below W.heap.size W W8) (hv : W8.ownsRow W.heap.size 65 7 v ((ps.take kk ++ [(spI C.s rr, Value.slice none 0 0), (flI C.s rr, Value.slice none 0 0)]) ++ ps.drop kk).length (cellsI ((ps.take kk ++ [(spI C.s rr, Value.slice none 0 0), (flI C.s rr, Value.slice none 0 0)]) ++ ps.drop kk))) :
    BlksO B2 (W8.setCell ⟨gg, jb * 5, none⟩ v) (.slice (some ⟨gg, 0, none⟩) n gc) (spC rr jb kk C).bs ∧ Below B2 W (W8.setCell ⟨gg, jb * 5, none⟩ v) ∧ Keeps (fun t => t == 31) W (W8.setCell ⟨gg, jb * 5, none⟩ v) := by
  have h1 := hOg.below hb
  have hO : InssO B2 W8 v (((ps.take kk ++ [(spI C.s rr, Value.slice none 0 0), (flI C.s rr, Value.slice none 0 0)]) ++ ps.drop kk).map (·.1)) := by
    refine ⟨_, rfl, owns_mono hv hB2, fun q hq => ?_⟩
    rcases List.mem_append.1 hq with hq | hq
    · rcases List.mem_append.1 hq with hq | hq
      · exact (hargs q (List.mem_of_mem_take hq)).keeps (Keeps.below hb)
      · simp at hq
        rcases hq with rfl | rfl
        · exact ArgsO.nil _ _
        · exact ArgsO.nil _ _
    · exact (hargs q (List.mem_of_mem_drop hq)).keeps (Keeps.below hb)
  obtain ⟨hBg, cs, hcs⟩ := h1.row
  have h2 := h1.put jb hj hO
  rw [sp_ins hj hps] at h2
  exact ⟨h2, (hb.mono hB2).setCell (p := ⟨gg, jb * 5, none⟩) hBg v, (Keeps.below hb).trans (Keeps.set hcs rfl v)⟩
set_option maxHeartbeats 4000000 in
set_option maxRecDepth 100000 in
theorem slots_walk (v0 v1 : Value) (sa sb sc : Int) (bs : List Int) (rg : Int) (I : Inp) (b0 k0 r0 : Int) (w : World) (hS : SpecV w v0 sa sb sc bs) (hI : InpV w v1 I) (hrg : 0 ≤ rg ∧ rg < 256) (hb0 : 0 ≤ b0 ∧ b0 < 256) (hk0 : 0 ≤ k0 ∧ k0 < 256) (hr0 : 0 ≤ r0 ∧ r0 < 256) : Calls Try.prog 6 #[v0, .int .u8 rg, v1, .int .u8 b0, .int .u8 k0, .int .u8 r0] w fun e w' => e = .returned (.bool true) ∧ Below w.heap.size w w' := by
  have hS' := hS
  obtain ⟨u, rfl, hsa, hsb, hsc, hu⟩ := hS'
  have hI' := hI
  obtain ⟨a, b, c, rfl, ha, hm, hc⟩ := hI'
  obtain ⟨ua, uc, rfl⟩ := hu.slice
  obtain ⟨aa, ac, rfl⟩ := ha.slice
  obtain ⟨ba, bc, rfl⟩ := hm.slice
  obtain ⟨ca, cc, rfl⟩ := hc.slice
  obtain ⟨pn, hpn, hpl⟩ := made_p sa 0 sc bs
  have hbox := law_box w (.int .u8 sa) (.int .u8 sb) (.int .u8 sc) (.slice ua bs.length uc) (.slice aa I.args.length ac) (.slice ba I.mem.length bc) (.slice ca I.ans.length cc) (.int .i64 I.fuel)
  have HA := hide (awake_any ((w.alloc (.cells #[.int .u8 sa, .int .u8 sb, .int .u8 sc, .slice ua bs.length uc] 24)).alloc (.cells #[.slice aa I.args.length ac, .slice ba I.mem.length bc, .slice ca I.ans.length cc, .int .i64 I.fuel] 27)))
  have HBOX := hide hbox
  clear hbox ha hm hc hu hsa hsb hsc
  go_enter Try.func6, Try.ntmps6
  go_wp2_with fail
  refine HA.out.mono ?_
  rintro e W1 ⟨rfl, hB1⟩
  obtain ⟨s0, s1, s2, s3, i0, i1, i2, i3, hBw⟩ := HBOX.out W1 hB1
  clear HBOX HA hB1
  have HS1 := hide (hS.below hBw)
  have HI1 := hide (hI.below hBw)
  have HB1 := hide hBw
  have HM := hide (made5_any _ sa sb sc bs rg 0 (.slice none 0 0) [] W1 HS1.out hrg (by omega) SlV.nil)
  clear hS hI hBw
  go_wp2_with fail
  refine HM.out.mono ?_
  rintro e W2 ⟨C, uc, rfl, hO, hch, hins, hsame, hB2⟩
  obtain ⟨fa, fc, rfl⟩ := hO.v.slice
  have hC := hsame (by decide)
  have hBf := bel1' W2 (.cells #[.int .i64 C.p, .int .i64 C.r, .int .i64 C.s, .slice fa C.bs.length fc] 31)
  have hB12 := bel_of hB2 hBf
  replace s0 := cell_below hB12 s0
  replace s1 := cell_below hB12 s1
  replace s2 := cell_below hB12 s2
  replace s3 := cell_below hB12 s3
  replace i0 := cell_below hB12 i0
  replace i1 := cell_below hB12 i1
  replace i2 := cell_below hB12 i2
  replace i3 := cell_below hB12 i3
  have HM2 := hide (made5_any _ sa sb sc bs rg 0 (.slice none 0 0) [] (W2.alloc (.cells #[.int .i64 C.p, .int .i64 C.r, .int .i64 C.s, .slice fa C.bs.length fc] 31)) (HS1.out.below hB12) hrg (by omega) SlV.nil)
  have HRC := hide (heap_alloc_new W2 (.cells #[.int .i64 C.p, .int .i64 C.r, .int .i64 C.s, .slice fa C.bs.length fc] 31))
  have HV := hide (hO.v.below hBf)
  have HB2 := hide (bel_of HB1.out hB12)
  have HI2 := hide (HI1.out.below hB12)
  have HIC := hide (And.intro i0 (And.intro i1 (And.intro i2 i3)))
  have HCC := hide hC
  have HCH := hide (And.intro hch hins)
  clear HM hO hch hins hsame hB2 hC hBf hB12 HS1 HI1 HB1 i0 i1 i2 i3
  go_wp2_with fail
  refine HM2.out.mono ?_
  clear HM2 s0 s1 s2 s3
  generalize W2.alloc (.cells #[.int .i64 C.p, .int .i64 C.r, .int .i64 C.s, .slice fa C.bs.length fc] 31) = A2 at *
  generalize W2.heap.size = gc at *
  rintro e W3 ⟨D, ud, rfl, hO, _, _, hsame2, hB3⟩
  obtain rfl : C = D := HCC.out.trans (hsame2 (by decide)).symm
  clear hsame2
  obtain ⟨da, dc, rfl⟩ := hO.v.slice
  have hch1 := (mchk_all (C := C) (by rw [HCH.out.1])).1
  simp only [msz, decide_eq_true_eq] at hch1
  obtain ⟨gg, rfl⟩ := hO.some (by omega)
  have hcs4 : C.s ≤ 4 ∧ C.p = (pn : Int) := by
    have h1 : C.s = max (made sa 0 sc bs).p 1 + 0 % 8 := by rw [HCC.out]; rfl
    have h2 : C.p = (made sa 0 sc bs).p := by rw [HCC.out]; rfl
    rw [hpn] at h1 h2
    omega
  have hBg := bel1' W3 (.cells #[.int .i64 C.p, .int .i64 C.r, .int .i64 (C.s + 1), .slice (some ⟨gg, 0, none⟩) C.bs.length dc] 31)
  have hr5 := heap_alloc_new W3 (.cells #[.int .i64 C.p, .int .i64 C.r, .int .i64 (C.s + 1), .slice (some ⟨gg, 0, none⟩) C.bs.length dc] 31)
  have hO5 := hO.below hBg
  have hB5 := bel_of hB3 hBg
  have HX5 := hide (And.intro hr5 (And.intro hO5 hB5))
  have HCB := hide (And.intro hch1 hcs4)
  have hsb : 0 ≤ C.s ∧ C.s ≤ 4 := by omega
  clear hBg hr5 hO5 hB5 hO hB3 hch1 hcs4
  go_wp2_with fail
  generalize W3.alloc (.cells #[.int .i64 C.p, .int .i64 C.r, .int .i64 (C.s + 1), .slice (some ⟨gg, 0, none⟩) C.bs.length dc] 31) = W5 at *
  generalize W3.heap.size = gd at *
  obtain ⟨hr5, hO5, hB5⟩ := HX5.out
  obtain ⟨hch1, hcs4, hcp⟩ := HCB.out
  obtain ⟨jb, hjt, hjb⟩ := modN (x := b0) (j := C.bs.length) hb0.1 (by omega)
  obtain ⟨ui, hbc, hIo⟩ := hO5.at jb hjb
  obtain ⟨ps, pa, ci, rfl, hps, hown, hargs⟩ := hIo.parts
  obtain ⟨kk, hkt, hkk⟩ := modN1 (x := k0) ps.length hk0.1
  obtain ⟨rr, hrt, hrr0, hrr⟩ := modZ (x := r0) (r := C.r) hr0.1 (by omega)
  have hpsl : ps.length ≤ 100 := by
    have h1 := HCH.out.2 _ (List.getElem_mem hjb)
    rw [← hps, List.length_map] at h1
    exact h1
  obtain ⟨g0, g1, g2, g3⟩ := box4 hr5
  have hc0 := hbc.c0
  have hjb5 : (jb : Int) < (C.bs.length : Int) := by omega
  have hlen1 : (1 : Int) ≤ (C.bs.length : Int) := by omega
  have hpl' : (ps.length : Int) ≤ 100 := by omega
  have HROW : Hid (∃ cs, W5.heap[gg]? = some (Obj.cells cs 60 (0, 0))) := hO5.row.2
  have HOWN := hide hown
  have HARGS := hide hargs
  have HPS := hide hps
  have HSL : Hid (∀ p ∈ ps, ∃ a n c, p.2 = .slice a n c) := fun p hp => by
    obtain ⟨q1, q2, q3⟩ := (hargs p hp).v.slice
    exact ⟨_, _, _, q3⟩
  have HJB := hide hjb
  have HKN := hide hkk
  have HRR := hide (And.intro hrr0 hrr)
  have HC0 := hide hc0
  clear hbc hIo hps hown hargs hkk hr5 hO5 hB5 hch1
  go_wp2_with fail
  go_region
  go_wp2_with fail
  go_region
  clear hjt hkt hrt hrr0 hrr g0 g1 hc0 hjb5 hlen1 hpl' g3
  go_wp2_with fail
  have hbp2 : Below W5.heap.size W5 (W5.alloc (.cells (rowI2 (spI C.s rr) (flI C.s rr)) 65)).drew.drew := (bel1' W5 (.cells (rowI2 (spI C.s rr) (flI C.s rr)) 65)).drew.drew
  have hpr : ((W5.alloc (.cells (rowI2 (spI C.s rr) (flI C.s rr)) 65)).drew.drew).heap[W5.heap.size]? = some (Obj.cells (rowI2 (spI C.s rr) (flI C.s rr)) 65 (0, 0)) := heap_alloc_new W5 _
  have hdr : (W5.alloc (.cells #[.int .u8 7, .int .u8 0, .int .i64 C.s, .int .i64 rr, .int .i64 0, .int .i64 0, .slice none 0 0, .int .u8 8, .int .u8 0, .int .i64 rr, .int .i64 C.s, .int .i64 0, .int .i64 0, .slice none 0 0] 65)).drew.drew = (W5.alloc (.cells (rowI2 (spI C.s rr) (flI C.s rr)) 65)).drew.drew := rfl
  rw [hdr]
  clear hdr
  generalize (W5.alloc (.cells (rowI2 (spI C.s rr) (flI C.s rr)) 65)).drew.drew = W6 at *
  obtain ⟨csg, hcsg⟩ := HROW.out
  refine s9_ok (wd := W6) (B := A2.heap.size) (g := gg) (jb := jb) (n := ps.length) (ci := ci) (ua := pa) (kk := kk) (gp := W5.heap.size) (X := spI C.s rr) (Y := flI C.s rr) (ps := ps) rfl rfl rfl hpr rfl (cell_below hbp2 HC0.out) ⟨csg, row_bel hcsg hbp2⟩ (owns_below HOWN.out hbp2) (by omega) HKN.out HSL.out ?_
  intro q9 W8 v8 hb8 hv8
  simp [overlay, dstsOf, ops_s9]
  obtain ⟨hOG, hB9, hK9⟩ := put_sp HX5.out.2.1 HJB.out HPS.out HARGS.out HX5.out.2.2.size (bel_of hbp2 hb8) (owns_mono hv8 hbp2.size)
  generalize W8.setCell ⟨gg, jb * 5, none⟩ v8 = W9 at hOG hB9 hK9 ⊢
  have hB29 := HX5.out.2.2.trans hB9
  have hrd : W9.heap[gd]? = _ := hK9 _ _ _ _ rfl HX5.out.1
  have hrc := row_bel HRC.out hB29
  obtain ⟨c0, c1, c2, c3⟩ := box4 hrc
  obtain ⟨i0, i1, i2, i3⟩ := HIC.out
  have i0 := cell_below hB29 i0
  have i1 := cell_below hB29 i1
  have i2 := cell_below hB29 i2
  have i3 := cell_below hB29 i3
  have HMK : Hid (mchk (spC rr jb kk C) = (0, 0, 0)) := mchk_spC HCH.out.1 HJB.out (by omega) (by
    have e : C.bs.getD jb Blk.zero = C.bs[jb]'HJB.out := by simp [HJB.out]
    rw [e, ← HPS.out, List.length_map]
    omega) HRR.out
  have HV9 := hide (HV.out.below hB29)
  have HG9 := hide hOG.v
  have HB9 := hide (bel_of HB2.out hB29)
  have hI9 := HI2.out.below hB29
  have HIN : Hid (Calls Try.prog 9 #[.agg #[.slice aa I.args.length ac, .slice ba I.mem.length bc, .slice ca I.ans.length cc, .int .i64 I.fuel], .int .i64 C.p] W9 fun e w' => ∃ x, e = .returned x ∧ InpV w' x (inpOf I pn) ∧ Below W9.heap.size W9 w') := by
    rw [hcp]
    exact input_any _ I pn W9 hI9 hpl
  have HRD := hide hrd
  have HRC9 := hide hrc
  clear hbp2 hpr csg hcsg hb8 hv8 hOG hB9 hK9 hB29 hrd hrc hI9 HX5 HV HI2 HIC HB2 HROW HOWN HARGS HPS HSL HC0 HKN g2 hcs4 hcp hpsl HRC hsb
  clear W8
  go_wp2_with fail
  refine HIN.out.mono ?_
  clear HIN i0 i1 i2 i3 c0 c1 c2 c3
  rintro e W3 ⟨x, rfl, hX, hB3⟩
  have hX' := hX
  obtain ⟨x0, x1, x2, rfl, hx0, hx1, hx2⟩ := hX'
  obtain ⟨xa, xac, rfl⟩ := hx0.slice
  obtain ⟨xb, xbc, rfl⟩ := hx1.slice
  obtain ⟨xc, xcc, rfl⟩ := hx2.slice
  have hfu : 0 ≤ (inpOf I pn).fuel ∧ (inpOf I pn).fuel < 400 := by rw [show (inpOf I pn).fuel = (I.fuel % 18446744073709551616) % 400 from rfl]; omega
  have hxl : Hid ((inpOf I pn).args.length = pn) := argsOf_len _ _
  generalize inpOf I pn = X at *
  have hbb := bel1' W3 (.cells #[.slice xa X.args.length xac, .slice xb X.mem.length xbc, .slice xc X.ans.length xcc, .int .i64 X.fuel] 27)
  have hxr := heap_alloc_new W3 (.cells #[.slice xa X.args.length xac, .slice xb X.mem.length xbc, .slice xc X.ans.length xcc, .int .i64 X.fuel] 27)
  have hb3 := bel_of hB3 hbb
  have hcr := row_bel HRC9.out hb3
  have hdr := row_bel HRD.out hb3
  have HX := hide (hX.below hbb)
  have hCA : CodV (W3.alloc (.cells #[.slice xa X.args.length xac, .slice xb X.mem.length xbc, .slice xc X.ans.length xcc, .int .i64 X.fuel] 27)) (.agg #[.int .i64 C.p, .int .i64 C.r, .int .i64 C.s, .slice fa C.bs.length fc]) C := ⟨_, rfl, HV9.out.below hb3⟩
  have HDA : Hid (CodV (W3.alloc (.cells #[.slice xa X.args.length xac, .slice xb X.mem.length xbc, .slice xc X.ans.length xcc, .int .i64 X.fuel] 27)) (.agg #[.int .i64 C.p, .int .i64 C.r, .int .i64 (C.s + 1), .slice (some ⟨gg, 0, none⟩) C.bs.length dc]) (spC rr jb kk C)) := ⟨_, rfl, HG9.out.below hb3⟩
  have hrx : execF C X = 0 := execF_of (by rw [HCH.out.1]) (by rw [hxl.out, HCB.out.2.2]) (by omega)
  have hry : execF (spC rr jb kk C) X = 0 := execF_of (by rw [HMK.out]) (by rw [hxl.out]; exact HCB.out.2.2.symm) (by omega)
  have HRX := hide (And.intro hrx (And.intro hry (exec_slot HCH.out.1 HRR.out hrx hry)))
  have HC := hide (exec_any C X _ _ _ hCA HX.out)
  have HB4 := hide (bel_of HB9.out hb3)
  obtain ⟨c0, c1, c2, c3⟩ := box4 hcr
  have HDR := hide hdr
  have HXR := hide hxr
  obtain ⟨Z, hz, hzs⟩ := z37
  have HZ := hide (And.intro hz hzs)
  clear hz hzs hX hx0 hx1 hx2 hB3 hbb hxr hb3 hcr hdr hCA hrx hry HRC9 HRD HV9 HG9 HB9 HMK HRR HJB HCC HCB
  go_wp2_with fail
  refine HC.out.mono ?_
  clear HC c0 c1 c2 c3
  generalize W3.alloc (.cells #[.slice xa X.args.length xac, .slice xb X.mem.length xbc, .slice xc X.ans.length xcc, .int .i64 X.fuel] 27) = A3 at *
  generalize W3.heap.size = gx at *
  rintro e W4 ⟨x, rfl, hOut, hB4⟩
  rw [HRX.out.1]
  obtain ⟨OA, cva, rfl, hOA, hla, hoa, hca, hma⟩ := out_var hOut
  obtain ⟨ka, kac, rfl⟩ := hca.v.slice
  obtain ⟨d0, d1, d2, d3⟩ := box4 (row_bel HDR.out hB4)
  obtain ⟨x0, x1, x2, x3⟩ := box4 (row_bel HXR.out hB4)
  have HDX := hide (HDA.out.below hB4)
  have HXA := hide (HX.out.below hB4)
  have HB5 := hide (bel_of HB4.out hB4)
  have HOA := hide (And.intro hOA (And.intro hla (And.intro hoa (And.intro hca hma))))
  generalize execO C X = oa at *
  clear hOA hla hoa hca hma hB4 hOut HX HDA HB4 HDR HXR
  go_wp2_with (refine wpList_var 37 20 rfl rfl rfl rfl (.tmp 98) rfl rfl Z OA.toArray HZ.out.1 (by simp) rfl (by simp only [List.size_toArray, HOA.out.2.1]; exact size37) (by simp only [List.size_toArray, HOA.out.2.1]; exact HZ.out.2) HOA.out.2.2.1 ?_; intro ga W5 hga; have hB5 := hga.out.2.2; rw [hga.out.1] at hB5; have x0 := cell_below hB5 x0; have x1 := cell_below hB5 x1; have x2 := cell_below hB5 x2; have x3 := cell_below hB5 x3; have d0 := cell_below hB5 d0; have d1 := cell_below hB5 d1; have d2 := cell_below hB5 d2; have d3 := cell_below hB5 d3)
  refine (exec_any (spC rr jb kk C) X _ _ W5 (HDX.out.below hB5) (HXA.out.below hB5)).mono ?_
  rintro e W12 ⟨x, rfl, hOut, hB12⟩
  rw [HRX.out.2.1]
  rw [HRX.out.2.2] at hOut
  obtain ⟨OB, cvb, rfl, hOB, hlb, hob, hcb, hmb⟩ := out_var hOut
  obtain ⟨kb, kbc, rfl⟩ := hcb.v.slice
  have hra : W12.heap[ga]? = some (Obj.cells OA.toArray 37 (0, 0)) := (hB12.block ga (Array.getElem?_eq_some_iff.1 hga.out.2.1).1).trans hga.out.2.1
  have hcax := (HOA.out.2.2.2.1.below hB5).below hB12
  have HBW := hide (bel_of HB5.out (bel_of hB5 hB12))
  have HOB := hide (And.intro hOB (And.intro hlb (And.intro hob (And.intro hcb hmb))))
  have HA6 := hide (And.intro hra hcax)
  clear hOB hlb hob hcb hmb hra hcax hB12 hOut d0 d1 d2 d3 x0 x1 x2 x3
  go_wp2_with (first | (refine wpList_var 37 22 rfl rfl rfl rfl (.tmp 104) rfl rfl Z OB.toArray HZ.out.1 (by simp) rfl (by simp only [List.size_toArray, HOB.out.2.1]; exact size37) (by simp only [List.size_toArray, HOB.out.2.1]; exact HZ.out.2) HOB.out.2.2.1 ?_; intro gb W13 hgb; obtain ⟨za, zb, hcs⟩ := two_outs HOA.out HOB.out HA6.out hgb; clear za zb) | (refine wpList_load_rowG rfl (.tmp 20) rfl ga rfl OA.toArray hcs.out.2.2.1 (by simp only [List.size_toArray, HOA.out.2.1]; exact size37) ?_) | (refine wpList_load_rowG rfl (.tmp 22) rfl gb rfl OB.toArray hcs.out.2.2.2.1 (by simp only [List.size_toArray, HOB.out.2.1]; exact size37) ?_))
  refine (same_any oa (.agg OA.toArray) (.agg OB.toArray) _ ⟨.slice ka oa.calls.length kac, by rw [HOA.out.1], hcs.out.1.v, HOA.out.2.2.2.2⟩ ⟨.slice kb oa.calls.length kbc, by rw [HOB.out.1], hcs.out.2.1.v, HOB.out.2.2.2.2⟩).mono ?_
  rintro e W14 ⟨rfl, hB14⟩
  have HB14 := hide (bel_of HBW.out (bel_of hcs.out.2.2.2.2 hB14))
  clear hB14 hcs
  go_wp2_with fail
  go_ret
  exact ⟨rfl, HB14.out⟩
end Go.Proofs.Ytepmbkiojpffpaa
