/- The walk of RunFuel. -/
import Derived.Test.YtljnngblhfhhaaaOi
import Derived.Test.YtljnngblhfhhaaaSo
import Derived.Test.YtljnngblhfhhaaaPf
import Derived.Test.YtljnngblhfhhaaaMade
namespace Go.Proofs.Ytljnngblhfhhaaa
open Go.RowKit Ir

/-- A spec's box and an input's, behind. -/
theorem law_box (w : World) (a b c d e f g h : Value) : ∀ W, Below ((w.alloc (.cells #[a, b, c, d] 24)).alloc (.cells #[e, f, g, h] 27)).heap.size ((w.alloc (.cells #[a, b, c, d] 24)).alloc (.cells #[e, f, g, h] 27)) W →
    W.cell? ⟨w.heap.size, 0, none⟩ = some a ∧ W.cell? ⟨w.heap.size, 1, none⟩ = some b ∧ W.cell? ⟨w.heap.size, 2, none⟩ = some c ∧ W.cell? ⟨w.heap.size, 3, none⟩ = some d ∧ W.cell? ⟨w.heap.size + 1, 0, none⟩ = some e ∧ W.cell? ⟨w.heap.size + 1, 1, none⟩ = some f ∧ W.cell? ⟨w.heap.size + 1, 2, none⟩ = some g ∧ W.cell? ⟨w.heap.size + 1, 3, none⟩ = some h ∧ Below w.heap.size w W := by
  intro W hB
  have h1 : (w.alloc (.cells #[a, b, c, d] 24)).heap.size = w.heap.size + 1 := by simp
  have hB1 := bel1' (w.alloc (.cells #[a, b, c, d] 24)) (.cells #[e, f, g, h] 27)
  have hr1 := heap_alloc_new w (.cells #[a, b, c, d] 24)
  have hr2 := heap_alloc_new (w.alloc (.cells #[a, b, c, d] 24)) (.cells #[e, f, g, h] 27)
  rw [h1] at hr2
  refine ⟨?_, ?_, ?_, ?_, ?_, ?_, ?_, ?_, bel_of (bel1' w _) (bel_of hB1 hB)⟩
  all_goals refine cell_below hB ?_
  iterate 4 (refine cell_below hB1 ?_; rw [cell_of_row _ _ _ _ _ _ hr1]; rfl)
  all_goals (rw [cell_of_row _ _ _ _ _ _ hr2]; rfl)
theorem SpecV.below {w w' : World} {v : Value} {a b c : Int} {bs : List Int} (h : SpecV w v a b c bs) (hB : Below w.heap.size w w') : SpecV w' v a b c bs := by
  obtain ⟨u, h1, h2, h3, h4, h5⟩ := h
  exact ⟨u, h1, h2, h3, h4, h5.below hB⟩
theorem made_p (a b c : Int) (bs : List Int) : ∃ pn : Nat, (made a b c bs).p = (pn : Int) ∧ pn ≤ 4 := by
  have h : (made a b c bs).p = a % 5 := rfl
  exact ⟨(a % 5).toNat, by rw [h]; omega, by omega⟩
theorem runF_zero {F : Fun} {I : Inp} {pn : Nat} (hF : chk F = (0, 0, 0)) (hp : F.p = (pn : Int)) (hl : I.args.length = pn) (hf : 0 ≤ I.fuel ∧ I.fuel ≤ 1048576) : runF F I = 0 := by
  unfold runF
  rw [hF]
  unfold inpF
  rw [hp, hl]
  simp
  omega
theorem runO_play {F : Fun} {I : Inp} (h : runF F I = 0) : runO F I = play F.v F.bs 0 (st0 F.v.toNat 0 I) := by unfold runO; rw [if_pos h]
theorem st0_more (n : Nat) (first : Int) (I : Inp) (m : Int) (hf : 0 ≤ I.fuel ∧ I.fuel ≤ 1000) (hm : 0 ≤ m ∧ m ≤ 1000) : st0 n first { I with fuel := I.fuel + m } = more m.toNat (st0 n first I) := by
  unfold st0 more
  simp only [St.mk.injEq, true_and, and_true]
  unfold fuelOf
  omega
/-- Calls that a call of ours has laid. -/
def CallsX (W : World) (v : Value) (cs : List Cl) : Prop := ∃ B gp, CallsO B gp W v cs
theorem CallsX.v {W : World} {v : Value} {cs : List Cl} (h : CallsX W v cs) : CallsV W v cs := by
  obtain ⟨_, _, h⟩ := h
  exact h.v
theorem CallsX.below {W W' : World} {v : Value} {cs : List Cl} (h : CallsX W v cs) (hB : Below W.heap.size W W') : CallsX W' v cs := by
  obtain ⟨B, gp, h⟩ := h
  exact ⟨B, gp, h.kept fun k cs t _ hk => (hB.block k (Array.getElem?_eq_some_iff.1 hk).1).trans hk⟩
/-- A store into a variable of an output leaves them. -/
theorem CallsX.set {W : World} {v : Value} {cs : List Cl} {g off : Nat} {A : Array Value} (h : CallsX W v cs) (hg : W.heap[g]? = some (Obj.cells A 37 (0, 0))) (u : Value) : CallsX (W.setCell ⟨g, off, none⟩ u) v cs := by
  obtain ⟨B, gp, h⟩ := h
  refine ⟨B, gp, h.kept fun k cs t ht hk => ?_⟩
  rw [Below.heap_setCell _ _ _ _ (fun e => ?_)]
  · exact hk
  · simp only at e
    subst e
    rw [hg] at hk
    simp only [Option.some.injEq, Obj.cells.injEq] at hk
    rcases ht with rfl | rfl
    · exact absurd hk.2.1 (by decide)
    · exact absurd hk.2.1 (by decide)
/-- What a variable of an output has, of a run's result. -/
theorem out_var {B : Nat} {W : World} {v : Value} {o : Out} (h : OutO B W v o) : ∃ (OL : List Value) (cv : Value), v = .agg OL.toArray ∧ OL = outL o.how o.val cv o.mem o.left ∧ OL.length = 68 ∧ (∀ u ∈ OL.toArray.toList, u.oneCell' = true) ∧ CallsX W cv o.calls ∧ o.mem.length = 64 := by
  obtain ⟨cv, gp, h1, h2, h3⟩ := h
  refine ⟨_, cv, h1, rfl, outL_len h3, ?_, ⟨_, _, h2⟩, h3⟩
  obtain ⟨ao, cap, rfl⟩ := h2.v.slice
  simpa using outL_one (how := o.how) (val := o.val) (mem := o.mem) (left := o.left) (cv := .slice ao o.calls.length cap) rfl

/-- Two variables of outputs, behind. -/
theorem two_outs {W6 W7 : World} {ga gb : Nat} {oa ob : Out} {cva cvb : Value} {OA OB : List Value} {P : Prop} (hA : OA = outL oa.how oa.val cva oa.mem oa.left ∧ OA.length = 68 ∧ (∀ u ∈ OA.toArray.toList, u.oneCell' = true) ∧ P ∧ oa.mem.length = 64) (hB : OB = outL ob.how ob.val cvb ob.mem ob.left ∧ OB.length = 68 ∧ (∀ u ∈ OB.toArray.toList, u.oneCell' = true) ∧ CallsX W6 cvb ob.calls ∧ ob.mem.length = 64) (ha : W6.heap[ga]? = some (Obj.cells OA.toArray 37 (0, 0)) ∧ CallsX W6 cva oa.calls)
    (hb : Hid (gb = W6.heap.size ∧ W7.heap[gb]? = some (Obj.cells OB.toArray 37 (0, 0)) ∧ Below gb W6 W7)) :
    (W7.cell? ⟨ga, 0, none⟩ = some (.int .i64 oa.how) ∧ W7.cell? ⟨ga, 1, none⟩ = some (.int .i64 oa.val) ∧ W7.cell? ⟨ga, 2, none⟩ = some cva ∧ W7.cell? ⟨ga, 67, none⟩ = some (.int .i64 oa.left)) ∧ (W7.cell? ⟨gb, 0, none⟩ = some (.int .i64 ob.how) ∧ W7.cell? ⟨gb, 1, none⟩ = some (.int .i64 ob.val) ∧ W7.cell? ⟨gb, 2, none⟩ = some cvb ∧ W7.cell? ⟨gb, 67, none⟩ = some (.int .i64 ob.left)) ∧ Hid (CallsX W7 cva oa.calls ∧ CallsX W7 cvb ob.calls ∧ W7.heap[ga]? = some (Obj.cells OA.toArray 37 (0, 0)) ∧ W7.heap[gb]? = some (Obj.cells OB.toArray 37 (0, 0)) ∧ Below W6.heap.size W6 W7) := by
  obtain ⟨eA, _, _, _, mA⟩ := hA
  obtain ⟨eB, _, _, cB, mB⟩ := hB
  obtain ⟨hg, hr, hB'⟩ := hb.out
  rw [hg] at hB'
  have hra : W7.heap[ga]? = some (Obj.cells OA.toArray 37 (0, 0)) := (hB'.block ga (Array.getElem?_eq_some_iff.1 ha.1).1).trans ha.1
  have hra' := hra
  rw [eA] at hra'
  have hr' := hr
  rw [eB] at hr
  exact ⟨out_cells mA hra', out_cells mB hr, ha.2.below hB', cB.below hB', hra, hr', hB'⟩
/-- More is left. -/
theorem left_more {W7 : World} {ga gb : Nat} {oa ob : Out} {cva cvb : Value} {OA OB : List Value} {m : Int} (hm : 0 ≤ m) (hob : ob = { oa with left := oa.left + m.toNat }) (eA : OA = outL oa.how oa.val cva oa.mem oa.left) (mA : oa.mem.length = 64) (eB : OB = outL ob.how ob.val cvb ob.mem ob.left) (h : CallsX W7 cva oa.calls ∧ CallsX W7 cvb ob.calls ∧ W7.heap[ga]? = some (Obj.cells OA.toArray 37 (0, 0)) ∧ W7.heap[gb]? = some (Obj.cells OB.toArray 37 (0, 0))) (hne : ga ≠ gb) :
    ∃ OC : List Value, (W7.setCell ⟨ga, 67, none⟩ (.int .i64 ((oa.left : Int) + m))).heap[ga]? = some (Obj.cells OC.toArray 37 (0, 0)) ∧ (W7.setCell ⟨ga, 67, none⟩ (.int .i64 ((oa.left : Int) + m))).heap[gb]? = some (Obj.cells OB.toArray 37 (0, 0)) ∧ OutV (W7.setCell ⟨ga, 67, none⟩ (.int .i64 ((oa.left : Int) + m))) (.agg OC.toArray) ob ∧ OutV (W7.setCell ⟨ga, 67, none⟩ (.int .i64 ((oa.left : Int) + m))) (.agg OB.toArray) ob ∧ OC.length = 68 := by
  obtain ⟨h1, h2, h3, h4⟩ := h
  have hl : ((oa.left : Int) + m) = ((oa.left + m.toNat : Nat) : Int) := by omega
  refine ⟨outL oa.how oa.val cva oa.mem ((oa.left : Int) + m), ?_, ?_, ?_, ?_, outL_len mA⟩
  · rw [heap_setCell_same W7 ga 67 _ _ _ h3, eA]
    simp [outL_set_left mA]
  · rw [Below.heap_setCell _ _ _ _ (by simpa using fun e => hne e.symm)]
    exact h4
  · rw [hob, hl]
    exact ⟨cva, rfl, (h1.set h3 _).v, mA⟩
  · rw [eB]
    exact ⟨cvb, rfl, (h2.set h3 _).v, by rw [hob]; exact mA⟩
set_option maxHeartbeats 4000000 in
set_option maxRecDepth 100000 in
theorem fuel_walk (v0 v1 : Value) (sa sb sc : Int) (bs : List Int) (I : Inp) (m : Int) (w : World) (hS : SpecV w v0 sa sb sc bs) (hI : InpV w v1 I) (hm0 : 0 ≤ m ∧ m < 256) : Calls Try.prog 6 #[v0, v1, .int .u8 m] w fun e w' => e = .returned (.bool true) ∧ Below w.heap.size w w' := by
  have hS' := hS
  obtain ⟨u, rfl, hsa, hsb, hsc, hu⟩ := hS'
  have hI' := hI
  obtain ⟨a, b, c, rfl, ha, hm, hc⟩ := hI'
  obtain ⟨ua, uc, rfl⟩ := hu.slice
  obtain ⟨aa, ac, rfl⟩ := ha.slice
  obtain ⟨ba, bc, rfl⟩ := hm.slice
  obtain ⟨ca, cc, rfl⟩ := hc.slice
  obtain ⟨pn, hpn, hpl⟩ := made_p sa sb sc bs
  have hbox := law_box w (.int .u8 sa) (.int .u8 sb) (.int .u8 sc) (.slice ua bs.length uc) (.slice aa I.args.length ac) (.slice ba I.mem.length bc) (.slice ca I.ans.length cc) (.int .i64 I.fuel)
  have HA := hide (awake_any ((w.alloc (.cells #[.int .u8 sa, .int .u8 sb, .int .u8 sc, .slice ua bs.length uc] 24)).alloc (.cells #[.slice aa I.args.length ac, .slice ba I.mem.length bc, .slice ca I.ans.length cc, .int .i64 I.fuel] 27)))
  have HBOX := hide hbox
  clear hbox ha hm hc hu hsa hsb hsc
  go_enter Try.func6, Try.ntmps6
  go_wp2_with fail
  refine HA.out.mono ?_
  rintro e W1 ⟨rfl, hB1⟩
  obtain ⟨s0, s1, s2, s3, i0, i1, i2, i3, hBw⟩ := HBOX.out W1 hB1
  clear HBOX HA hB1
  have HM := hide (made_any _ sa sb sc bs W1 (hS.below hBw))
  have HI1 := hide (hI.below hBw)
  have HB1 := hide hBw
  clear hS hI hBw
  go_wp2_with fail
  refine HM.out.mono ?_
  rintro e W2 ⟨ub, rfl, hO, hB2⟩
  have HF := made_right sa sb sc bs
  generalize made sa sb sc bs = F at *
  obtain ⟨fa, fc, rfl⟩ := hO.v.slice
  have j0 := cell_below hB2 i0
  have j1 := cell_below hB2 i1
  have j2 := cell_below hB2 i2
  have j3 := cell_below hB2 i3
  clear HM s0 s1 s2 s3 i0 i1 i2 i3
  have hBf := bel1' W2 (.cells #[.int .i64 F.p, .int .i64 F.v, .slice fa F.bs.length fc] 31)
  have HV := hide (hO.v.below hBf)
  have HB3 := hide (bel_of HB1.out (bel_of hB2 hBf))
  have hIf := (HI1.out.below hB2).below hBf
  rw [hpn] at HV HB3 hIf hBf ⊢
  have HIN := hide (input_any _ I pn _ hIf hpl)
  have j0 := cell_below hBf j0
  have j1 := cell_below hBf j1
  have j2 := cell_below hBf j2
  have j3 := cell_below hBf j3
  have hrf : (W2.alloc (.cells #[.int .i64 (pn : Int), .int .i64 F.v, .slice fa F.bs.length fc] 31)).heap[W2.heap.size]? = some (Obj.cells #[.int .i64 (pn : Int), .int .i64 F.v, .slice fa F.bs.length fc] 31 (0, 0)) := heap_alloc_new W2 _
  have HRF := hide hrf
  clear hO hB2 hBf hIf HI1 HB1 hrf
  go_wp2_with fail
  refine HIN.out.mono ?_
  clear HIN j0 j1 j2 j3
  generalize W2.alloc (.cells #[.int .i64 (pn : Int), .int .i64 F.v, .slice fa F.bs.length fc] 31) = A2 at *
  generalize W2.heap.size = gf at *
  rintro e W3 ⟨x, rfl, hX, hB3⟩
  have hX' := hX
  obtain ⟨x0, x1, x2, rfl, hx0, hx1, hx2⟩ := hX'
  obtain ⟨xa, xac, rfl⟩ := hx0.slice
  obtain ⟨xb, xbc, rfl⟩ := hx1.slice
  obtain ⟨xc, xcc, rfl⟩ := hx2.slice
  have hfr : W3.heap[gf]? = _ := (hB3.block gf (Array.getElem?_eq_some_iff.1 HRF.out).1).trans HRF.out
  have f0 : W3.cell? ⟨gf, 0, none⟩ = some (.int .i64 (pn : Int)) := by rw [cell_of_row _ _ _ _ _ _ hfr]; rfl
  have f1 : W3.cell? ⟨gf, 1, none⟩ = some (.int .i64 F.v) := by rw [cell_of_row _ _ _ _ _ _ hfr]; rfl
  have f2 : W3.cell? ⟨gf, 2, none⟩ = some (.slice fa F.bs.length fc) := by rw [cell_of_row _ _ _ _ _ _ hfr]; rfl
  have f0b := fun o o' => cell_below (bel2' W3 o o') f0
  have f1b := fun o o' => cell_below (bel2' W3 o o') f1
  have f2b := fun o o' => cell_below (bel2' W3 o o') f2
  have HV3 := hide (HV.out.below hB3)
  have HB4 := hide (bel_of HB3.out hB3)
  have hfu : 0 ≤ (inpOf I pn).fuel ∧ (inpOf I pn).fuel < 400 := by rw [show (inpOf I pn).fuel = (I.fuel % 18446744073709551616) % 400 from rfl]; omega
  have hxl : Hid ((inpOf I pn).args.length = pn) := argsOf_len _ _
  generalize inpOf I pn = X at *
  have HX := hide hX
  clear hX hx0 hx1 hx2 hB3 hfr HRF HV HB3
  obtain ⟨Z, hz, hzs⟩ := z37
  have HZ := hide (And.intro hz hzs)
  clear hz hzs
  go_wp2_with fail
  have hbb := bel2' W3 (.cells #[.slice xa X.args.length xac, .slice xb X.mem.length xbc, .slice xc X.ans.length xcc, .int .i64 X.fuel] 27) (.cells #[.slice xa X.args.length xac, .slice xb X.mem.length xbc, .slice xc X.ans.length xcc, .int .i64 (X.fuel + m)] 27)
  have hy := heap_alloc_new (W3.alloc (.cells #[.slice xa X.args.length xac, .slice xb X.mem.length xbc, .slice xc X.ans.length xcc, .int .i64 X.fuel] 27)) (.cells #[.slice xa X.args.length xac, .slice xb X.mem.length xbc, .slice xc X.ans.length xcc, .int .i64 (X.fuel + m)] 27)
  rw [show (W3.alloc (.cells #[.slice xa X.args.length xac, .slice xb X.mem.length xbc, .slice xc X.ans.length xcc, .int .i64 X.fuel] 27)).heap.size = W3.heap.size + 1 by simp] at hy
  have g0 := f0b (.cells #[.slice xa X.args.length xac, .slice xb X.mem.length xbc, .slice xc X.ans.length xcc, .int .i64 X.fuel] 27) (.cells #[.slice xa X.args.length xac, .slice xb X.mem.length xbc, .slice xc X.ans.length xcc, .int .i64 (X.fuel + m)] 27)
  have g1 := f1b (.cells #[.slice xa X.args.length xac, .slice xb X.mem.length xbc, .slice xc X.ans.length xcc, .int .i64 X.fuel] 27) (.cells #[.slice xa X.args.length xac, .slice xb X.mem.length xbc, .slice xc X.ans.length xcc, .int .i64 (X.fuel + m)] 27)
  have g2 := f2b (.cells #[.slice xa X.args.length xac, .slice xb X.mem.length xbc, .slice xc X.ans.length xcc, .int .i64 X.fuel] 27) (.cells #[.slice xa X.args.length xac, .slice xb X.mem.length xbc, .slice xc X.ans.length xcc, .int .i64 (X.fuel + m)] 27)
  clear f0 f1 f2 f0b f1b f2b
  generalize (W3.alloc (.cells #[.slice xa X.args.length xac, .slice xb X.mem.length xbc, .slice xc X.ans.length xcc, .int .i64 X.fuel] 27)).alloc (.cells #[.slice xa X.args.length xac, .slice xb X.mem.length xbc, .slice xc X.ans.length xcc, .int .i64 (X.fuel + m)] 27) = A3 at *
  generalize W3.heap.size + 1 = gy at *
  have hFA : FunV A3 (.agg #[.int .i64 (pn : Int), .int .i64 F.v, .slice fa F.bs.length fc]) F := ⟨_, by rw [hpn], HV3.out.below hbb⟩
  have hXA := HX.out.below hbb
  have hYA : InpV A3 (.agg #[.slice xa X.args.length xac, .slice xb X.mem.length xbc, .slice xc X.ans.length xcc, .int .i64 (X.fuel + m)]) { X with fuel := X.fuel + m } := by
    obtain ⟨q0, q1, q2, e, h0, h1, h2⟩ := hXA
    simp only [Value.agg.injEq, Array.mk.injEq, List.cons.injEq, and_true] at e
    obtain ⟨rfl, rfl, rfl⟩ := e
    exact ⟨_, _, _, rfl, h0, h1, h2⟩
  have hrx : runF F X = 0 := runF_zero HF hpn hxl.out (by omega)
  have hry : runF F { X with fuel := X.fuel + m } = 0 := runF_zero HF hpn hxl.out (by simp only; omega)
  have hmore := play_more m.toNat F.v F.bs 0 (st0 F.v.toNat 0 X)
  rw [← st0_more _ _ _ _ (by omega) (by omega), ← runO_play hrx, ← runO_play hry] at hmore
  have hsp := play_spend F.v F.bs 0 (st0 F.v.toNat 0 X)
  rw [← runO_play hrx] at hsp
  have hoal : ((runO F X).left : Int) ≤ 1000 := by
    have h1 : (st0 F.v.toNat 0 X).left = fuelOf X.fuel := rfl
    have h2 : (st0 F.v.toNat 0 X).calls.length = 0 := rfl
    have h3 : fuelOf X.fuel ≤ 400 := by unfold fuelOf; omega
    omega
  clear hsp
  refine (run_any F X _ _ A3 hFA hXA).mono ?_
  rintro e W4 ⟨x, rfl, hOut, hB4⟩
  rw [hrx]
  obtain ⟨OA, cva, rfl, hOA, hla, hoa, hca, hma⟩ := out_var hOut
  obtain ⟨ka, kac, rfl⟩ := hca.v.slice
  have g0 := cell_below hB4 g0
  have g1 := cell_below hB4 g1
  have g2 := cell_below hB4 g2
  have hyr : W4.heap[gy]? = _ := (hB4.block gy (Array.getElem?_eq_some_iff.1 hy).1).trans hy
  have y0 : W4.cell? ⟨gy, 0, none⟩ = some (.slice xa X.args.length xac) := by rw [cell_of_row _ _ _ _ _ _ hyr]; rfl
  have y1 : W4.cell? ⟨gy, 1, none⟩ = some (.slice xb X.mem.length xbc) := by rw [cell_of_row _ _ _ _ _ _ hyr]; rfl
  have y2 : W4.cell? ⟨gy, 2, none⟩ = some (.slice xc X.ans.length xcc) := by rw [cell_of_row _ _ _ _ _ _ hyr]; rfl
  have y3 : W4.cell? ⟨gy, 3, none⟩ = some (.int .i64 (X.fuel + m)) := by rw [cell_of_row _ _ _ _ _ _ hyr]; rfl
  have HFA := hide (hFA.below hB4)
  have HYA := hide (hYA.below hB4)
  have HB5 := hide (bel_of HB4.out (bel_of hbb hB4))
  have HOA := hide (And.intro hOA (And.intro hla (And.intro hoa (And.intro hca hma))))
  have HMORE := hide hmore
  have HRY := hide hry
  generalize runO F X = oa at *
  clear hOA hla hoa hca hma hFA hXA hYA hB4 hbb hy hyr hmore hrx hry hOut HX HV3 HB4
  go_wp2_with (refine wpList_var 37 10 rfl rfl rfl rfl (.tmp 35) rfl rfl Z OA.toArray HZ.out.1 (by simp) rfl (by simp only [List.size_toArray, HOA.out.2.1]; exact size37) (by simp only [List.size_toArray, HOA.out.2.1]; exact HZ.out.2) HOA.out.2.2.1 ?_; intro ga W5 hga; have hB5 := hga.out.2.2; rw [hga.out.1] at hB5; have g0 := cell_below hB5 g0; have g1 := cell_below hB5 g1; have g2 := cell_below hB5 g2; have y0 := cell_below hB5 y0; have y1 := cell_below hB5 y1; have y2 := cell_below hB5 y2; have y3 := cell_below hB5 y3)
  refine (run_any F { X with fuel := X.fuel + m } _ _ W5 (HFA.out.below hB5) (HYA.out.below hB5)).mono ?_
  rintro e W6 ⟨x, rfl, hOut, hB6⟩
  rw [HRY.out]
  obtain ⟨OB, cvb, rfl, hOB, hlb, hob, hcb, hmb⟩ := out_var hOut
  obtain ⟨kb, kbc, rfl⟩ := hcb.v.slice
  have hra6 : W6.heap[ga]? = some (Obj.cells OA.toArray 37 (0, 0)) := (hB6.block ga (Array.getElem?_eq_some_iff.1 hga.out.2.1).1).trans hga.out.2.1
  have hca6 := (HOA.out.2.2.2.1.below hB5).below hB6
  have HB6 := hide (bel_of HB5.out (bel_of hB5 hB6))
  have HOB := hide (And.intro hOB (And.intro hlb (And.intro hob (And.intro hcb hmb))))
  have HA6 := hide (And.intro hra6 hca6)
  have HGA : Hid (w.heap.size ≤ ga) := by show _ ≤ _; rw [hga.out.1]; exact HB5.out.size
  generalize runO F { X with fuel := X.fuel + m } = ob at *
  clear hOB hlb hob hcb hmb hra6 hca6 hB6 hB5 hOut g0 g1 g2 y0 y1 y2 y3 HFA HYA HB5 HRY hga
  have hwr := HMORE.out
  have hlen : (oa.calls.length : Int) ≤ (ob.calls.length : Int) := by
    by_cases h3 : oa.how = 3
    · have := List.IsPrefix.length_le (hwr.2 h3).2.2
      omega
    · rw [hwr.1 h3]
      simp
  clear hwr
  by_cases h3 : oa.how = 3
  · obtain ⟨hl0, hv0, hpre⟩ := HMORE.out.2 h3
    have HPRE := hide hpre
    clear hpre
    go_wp2_with (first | (refine wpList_var 37 12 rfl rfl rfl rfl (.tmp 41) rfl rfl Z OB.toArray HZ.out.1 (by simp) rfl (by simp only [List.size_toArray, HOB.out.2.1]; exact size37) (by simp only [List.size_toArray, HOB.out.2.1]; exact HZ.out.2) HOB.out.2.2.1 ?_; intro gb W7 hgb; obtain ⟨za, zb, hcs⟩ := two_outs HOA.out HOB.out HA6.out hgb; obtain ⟨a0, a1, a2, a67⟩ := za; obtain ⟨b0, b1, b2, b67⟩ := zb; have fa67 : W7.frozen? ⟨ga, 67, none⟩ = false := frozen_of_row _ _ _ _ _ hcs.out.2.2.1))
    clear b0 b1 b67 fa67
    rw [hl0] at a67
    rw [hv0] at a1
    have hBw7 : Below w.heap.size w W7 := bel_of HB6.out hcs.out.2.2.2.2
    have HBW7 := hide hBw7
    have HCA := hide hcs.out.1.v
    have HCB := hide hcs.out.2.1.v
    have hlm := SlV.len_le hcs.out.1.v
    have hlm2 : (oa.calls.length : Int) ≤ 9223372036854775807 := by unfold maxLen at hlm; omega
    clear hcs hgb HA6 HB6 HOA HOB HMORE hBw7 hlm
    go_loopw [73] (fun iv wr => ∃ j : Nat, j ≤ oa.calls.length ∧ iv = .int .i64 j ∧ Below W7.heap.size W7 wr) (fun iv _ => oa.calls.length - (intOf iv).toNat)
    case atStart => exact ⟨0, by omega, rfl, Below.refl _ _⟩
    case round =>
      obtain ⟨j, hj, rfl, hBr⟩ := hrel
      have y2 := cell_below hBr b2
      by_cases hlt : j < oa.calls.length
      · have hltb : j < ob.calls.length := by omega
        obtain ⟨xb, xo, rfl, ux, c0, c1, hux⟩ := SlV.at (HCA.out.below hBr) j hlt
        obtain ⟨yb, yo, rfl, uy, d0, d1, huy⟩ := SlV.at (HCB.out.below hBr) j hltb
        have hsame : ob.calls.getD j Cl.zero = oa.calls.getD j Cl.zero := by
          obtain ⟨r, hr⟩ := HPRE.out
          rw [← hr]
          simp [List.getElem?_append_left hlt]
        rw [hsame] at d0 huy
        generalize oa.calls.getD j Cl.zero = c at *
        obtain ⟨nn, args⟩ := c
        simp only at c0 c1 hux d0 d1 huy
        obtain ⟨xa1, xc1, rfl⟩ := hux.slice
        obtain ⟨ya1, yc1, rfl⟩ := huy.slice
        have hlt' : (j : Int) < (oa.calls.length : Int) := by omega
        have hltb' : (j : Int) < (ob.calls.length : Int) := by omega
        have HBN := hide ((hBr.alloc hBr.size (.cells #[.int .i64 nn, .slice xa1 args.length xc1] 58)).drew)
        have y2a := cell_below (bel1' wr (.cells #[.int .i64 nn, .slice xa1 args.length xc1] 58)) y2
        have d0a := cell_below (bel1' wr (.cells #[.int .i64 nn, .slice xa1 args.length xc1] 58)) d0
        have d1a := cell_below (bel1' wr (.cells #[.int .i64 nn, .slice xa1 args.length xc1] 58)) d1
        clear hux huy hBr hsame a0 a1 a2 a67 b2
        go_wp2_with fail
        go_region
        all_goals
          go_wp2_with fail
          go_roundw
          case rel => exact ⟨j + 1, by omega, by go_num, HBN.out⟩
          case measure => simp [intOf]; omega
      · obtain rfl : j = oa.calls.length := by omega
        have p67 := cell_below hBr a67
        have p1 := cell_below hBr a1
        have HBF := hide (bel_of HBW7.out hBr)
        clear hBr
        go_wp2_with fail
        go_ret
        exact ⟨rfl, HBF.out⟩
  · have h3b : (oa.how == 3) = false := by simpa using h3
    have HOE := hide (HMORE.out.1 h3)
    clear HMORE h3
    go_wp2_with (first | (refine wpList_var 37 12 rfl rfl rfl rfl (.tmp 41) rfl rfl Z OB.toArray HZ.out.1 (by simp) rfl (by simp only [List.size_toArray, HOB.out.2.1]; exact size37) (by simp only [List.size_toArray, HOB.out.2.1]; exact HZ.out.2) HOB.out.2.2.1 ?_; intro gb W7 hgb; obtain ⟨za, zb, hcs⟩ := two_outs HOA.out HOB.out HA6.out hgb; obtain ⟨a0, a1, a2, a67⟩ := za; obtain ⟨b0, b1, b2, b67⟩ := zb; have fa67 : W7.frozen? ⟨ga, 67, none⟩ = false := frozen_of_row _ _ _ _ _ hcs.out.2.2.1; have hOC := left_more hm0.1 HOE.out HOA.out.1 HOA.out.2.2.2.2 HOB.out.1 ⟨hcs.out.1, hcs.out.2.1, hcs.out.2.2.1, hcs.out.2.2.2.1⟩ (fun e => by have := (Array.getElem?_eq_some_iff.1 HA6.out.1).1; have := hgb.out.1; omega); obtain ⟨OC, hOC⟩ := hOC; have HOC := hide hOC; clear hOC) | (refine wpList_load_row rfl 37 (.tmp 10) rfl ga rfl 37 OC.toArray (0, 0) _ HOC.out.1 Try.underlying37 rfl (by simp only [List.size_toArray, HOC.out.2.2.2.2]; exact size37) ?_) | (refine wpList_load_row rfl 37 (.tmp 12) rfl gb rfl 37 OB.toArray (0, 0) _ HOC.out.2.1 Try.underlying37 rfl (by simp only [List.size_toArray, HOB.out.2.1]; exact size37) ?_))
    refine (same_any ob _ _ _ HOC.out.2.2.1 HOC.out.2.2.2.1).mono ?_
    rintro e W9 ⟨rfl, hB9⟩
    have hB8 : Below w.heap.size w (W7.setCell ⟨ga, 67, none⟩ (.int .i64 ((oa.left : Int) + m))) := (bel_of HB6.out hcs.out.2.2.2.2).setCell HGA.out _
    have HB9 := hide (bel_of hB8 hB9)
    clear HOC hB8 hB9
    go_wp2_with fail
    go_ret
    exact ⟨rfl, HB9.out⟩
end Go.Proofs.Ytljnngblhfhhaaa
