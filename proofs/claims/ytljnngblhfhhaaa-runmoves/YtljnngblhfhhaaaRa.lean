/- The walk of RunAnswers. -/
import Derived.Test.YtljnngblhfhhaaaRf
import Derived.Test.YtljnngblhfhhaaaPn
import Derived.Laws.OwnMore
namespace Go.Proofs.Ytljnngblhfhhaaa
open Go.RowKit Ir

/-- 'append(xs, ys...)' of numbers, xs the call's own. -/
theorem run_app25 {B : Nat} (w : World) {ua : Value} {xs ys : List Int} (hO : NumsO B w ua xs) {vb : Option Addr} {vc : Nat} (hy : IntsV w (.slice vb ys.length vc) ys) (hl : xs.length + ys.length ≤ 1000000) (hB : B ≤ w.heap.size) :
    ∃ va vn vc' w', (Builtin.append_ #[25, 25] 25 #[ua, .slice vb ys.length vc]).run Try.prog w = .ok (.slice va vn vc') w' ∧ NumsO B w' (.slice va vn vc') (xs ++ ys) ∧ w.grownBy w' ua.ownBlock := by
  obtain ⟨i, hi, hz, hsize, hby⟩ := info_parts info2
  obtain ⟨_, hc1, _, hc2⟩ := SlV.cap hy
  cases vb with
  | none =>
    have h0 := hc2 rfl
    subst h0
    have hl0 : ys.length = 0 := by omega
    have hy0 : ys = [] := List.eq_nil_of_length_eq_zero hl0
    subst hy0
    have hO' : w.ownsRow B 2 1 ua xs.length (nums xs) := hO
    have hr := run_append_owned_none (P := Try.prog) (w := w) B 25 25 2 i 1 Try.underlying25 hi ua xs.length (nums xs) hO'
    obtain ⟨ao, cap, rfl⟩ := hO.v.slice
    refine ⟨_, _, _, w, hr, ?_, grown_refl _ _⟩
    rw [List.append_nil]
    exact hO
  | some ad =>
    have hnews : ∀ j u, (nums ys)[j]? = some u → w.cell? (ad.add j) = some u := by
      intro j u hj
      have hjl : j < ys.length := by
        have := (List.getElem?_eq_some_iff.1 hj).1
        rwa [nums_len] at this
      obtain ⟨b, off, e, hc⟩ := IntsV.at hy j hjl
      simp only [Option.some.injEq] at e
      subst e
      rw [Addr.add_lit, hc]
      unfold nums at hj
      simp only [List.getElem?_map, List.getElem?_eq_getElem hjl, Option.map_some, Option.some.injEq] at hj
      rw [← hj]
      simp [List.getElem?_eq_getElem hjl]
    obtain ⟨v', w', hr, h2, h3, _⟩ := run_append_own (P := Try.prog) w B 25 25 2 i (.int .i64 0) 1 8 Try.underlying25 hi hz hsize hby rfl (by decide) ua _ _ hO ad ys.length vc (nums ys) (by simp [nums_len]) hnews (nums_one ys) (by unfold maxLen; omega) (by omega) hB
    have h2' : NumsO B w' v' (xs ++ ys) := owns_cast h2 (by simp) (by simp [nums])
    obtain ⟨ao, cap, rfl⟩ := h2'.v.slice
    exact ⟨_, _, _, w', hr, h2', h3⟩
theorem run_minN (n m : Nat) (ts : Array TypeId) (t : TypeId) (W : World) : (Builtin.min_ ts t #[.int .i64 (n : Nat), .int .i64 (m : Nat)]).run Try.prog W = .ok (.int .i64 ((min n m : Nat) : Int)) W := by
  rw [run_min_int2]
  congr 2
  split <;> omega
theorem st0_ans (n : Nat) (first : Int) (I : Inp) (b : List Int) : st0 n first { I with ans := b } = wa b (st0 n first I) := rfl

/-- A whole block is read, by a guarded operation. -/
theorem wpList_load_rowG {ops : Array Oper} {rest : List Oper} {o : Oper} {a : Act} {w : World} {Q : Exit → Act → World → Prop} (hw : Region.wanted o (yielded ops a.tmps) = true) (x : Operand) (ho : o.op = .load 37 x) (g : Nat) (hx : a.eval x = .pointer (some ⟨g, 0, none⟩)) (cs : Array Value) (hg : w.heap[g]? = some (.cells cs 37 (0, 0))) (hi : (Try.prog.info? 37).map (·.size) = some cs.size) (h : wpList Try.prog ops Q rest (a.put o.dst (.agg cs)) w) : wpList Try.prog ops Q (o :: rest) a w := by
  refine wpList_step fun K hK => ?_
  rw [if_pos hw]
  exact wp_load_row 37 x ho g hx 37 cs (0, 0) _ hg Try.underlying37 rfl hi (hK _ _ h)
/-- y's box, and the answers that it gets. -/
def AnsAt (W5 : World) (v0 v1 v3 u V : Value) (W : World) (ys : List Int) : Prop := W.heap[W5.heap.size]? = some (Obj.cells #[v0, v1, u, v3] 27 (0, 0)) ∧ NumsO (W5.heap.size + 1) W V ys ∧ Below W5.heap.size W5 W
theorem AnsAt.app {W5 W : World} {v0 v1 v3 u V : Value} {ys xs : List Int} (h : AnsAt W5 v0 v1 v3 u V W ys) {da : Option Addr} {dc : Nat} (hx : IntsV W (.slice da xs.length dc) xs) (hl : ys.length + xs.length ≤ 1000000) :
    ∃ va vn vc W', (Builtin.append_ #[25, 25] 25 #[V, .slice da xs.length dc]).run Try.prog W = .ok (.slice va vn vc) W' ∧ AnsAt W5 v0 v1 v3 u (.slice va vn vc) W' (ys ++ xs) := by
  obtain ⟨h1, h2, h3⟩ := h
  have hlt := (Array.getElem?_eq_some_iff.1 h1).1
  obtain ⟨va, vn, vc, W', hr, hO, hg⟩ := run_app25 W h2 hx hl hlt
  refine ⟨va, vn, vc, W', hr, ?_, hO, h3.grown hg (by omega) fun k e => by have := (h2.own k e).1; omega⟩
  rw [hg.block _ hlt (fun e => by have := (h2.own _ e.symm).1; omega)]
  exact h1
theorem AnsAt.first {W5 : World} {v0 v1 v3 : Value} {xc : Option Addr} {xcc nc : Nat} {ans : List Int} (hx : IntsV W5 (.slice xc ans.length xcc) ans) (hn : nc ≤ ans.length) (hl : ans.length ≤ 100) :
    ∃ va vn vc W', (Builtin.append_ #[25, 25] 25 #[.slice (some ⟨W5.heap.size + 1, 0, none⟩) 0 0, .slice xc nc xcc]).run Try.prog ((W5.alloc (.cells #[v0, v1, .slice xc ans.length xcc, v3] 27)).alloc (.cells #[] 2)) = .ok (.slice va vn vc) W' ∧ AnsAt W5 v0 v1 v3 (.slice xc ans.length xcc) (.slice va vn vc) W' (ans.take nc) := by
  have hB := bel2' W5 (.cells #[v0, v1, .slice xc ans.length xcc, v3] 27) (.cells #[] 2)
  have hs : (W5.alloc (.cells #[v0, v1, .slice xc ans.length xcc, v3] 27)).heap.size = W5.heap.size + 1 := by simp
  have hr1 := heap_alloc_new W5 (.cells #[v0, v1, .slice xc ans.length xcc, v3] 27)
  have hr2 := heap_alloc_new (W5.alloc (.cells #[v0, v1, .slice xc ans.length xcc, v3] 27)) (.cells #[] 2)
  rw [hs] at hr2
  have h0 : AnsAt W5 v0 v1 v3 (.slice xc ans.length xcc) (.slice (some ⟨W5.heap.size + 1, 0, none⟩) 0 0) ((W5.alloc (.cells #[v0, v1, .slice xc ans.length xcc, v3] 27)).alloc (.cells #[] 2)) [] := by
    refine ⟨?_, ⟨rfl, .inr ⟨W5.heap.size + 1, 0, #[], rfl, Nat.le_refl _, hr2, Nat.le_refl _, Nat.zero_le _, rfl, rfl⟩⟩, hB⟩
    rw [heap_alloc_old (r := W5.heap.size) _ _ (by rw [hs]; omega)]
    exact hr1
  have ht := (hx.below hB).take nc
  have e : min nc ans.length = (ans.take nc).length := by rw [List.length_take]
  rw [e] at ht
  have e2 : (ans.take nc).length = nc := by rw [List.length_take]; omega
  obtain ⟨va, vn, vc, W', hr, h⟩ := h0.app ht (by simp; omega)
  rw [e2] at hr
  exact ⟨va, vn, vc, W', hr, h⟩
/-- What is stored into y's box. -/
theorem wpList_set2 {ops : Array Oper} {rest : List Oper} {o : Oper} {a : Act} {w : World} {Q : Exit → Act → World → Prop} (hgd : o.guard = none) (x y : Operand) (ho : o.op = .store 25 x y) (hd : o.dst = none) {W5 : World} {v0 v1 v3 u : Value} {va : Option Addr} {vn vc : Nat} {ys : List Int} (hx : a.eval x = .pointer (some ⟨W5.heap.size, 2, none⟩)) (hy : a.eval y = .slice va vn vc) (hN : AnsAt W5 v0 v1 v3 u (.slice va vn vc) w ys)
    (hK : ∀ w', Hid (AnsAt W5 v0 v1 v3 (.slice va vn vc) (.slice va vn vc) w' ys) → wpList Try.prog ops Q rest a w') : wpList Try.prog ops Q (o :: rest) a w := by
  obtain ⟨h1, h2, h3⟩ := hN
  have hc : w.cell? ⟨W5.heap.size, 2, none⟩ = some u := by rw [cell_of_row _ _ _ _ _ _ h1]; rfl
  have hf : w.frozen? ⟨W5.heap.size, 2, none⟩ = false := frozen_of_row _ _ _ _ _ h1
  have hn : AnsAt W5 v0 v1 v3 (.slice va vn vc) (.slice va vn vc) (w.setCell ⟨W5.heap.size, 2, none⟩ (.slice va vn vc)) ys := by
    refine ⟨?_, h2.kept fun k e => Below.heap_setCell _ _ _ _ ?_, h3.setCell (p := ⟨W5.heap.size, 2, none⟩) (Nat.le_refl _) _⟩
    · rw [heap_setCell_same w _ 2 _ _ _ h1]
      rfl
    · have := (h2.own k e).1
      simp only
      omega
  have hp : a.put o.dst undef = a := by rw [hd]; rfl
  refine wpList_does (w' := w.setCell ⟨W5.heap.size, 2, none⟩ (.slice va vn vc)) hgd ?_ (by rw [hp]; exact hK _ hn)
  unfold execOp
  simp only [ho, hx, hy]
  clear hn h1 h2 h3
  go_simp
theorem AnsAt.cells {W5 W : World} {v0 v1 v3 u V : Value} {ys : List Int} (h : AnsAt W5 v0 v1 v3 u V W ys) : W.cell? ⟨W5.heap.size, 0, none⟩ = some v0 ∧ W.cell? ⟨W5.heap.size, 1, none⟩ = some v1 ∧ W.cell? ⟨W5.heap.size, 2, none⟩ = some u ∧ W.cell? ⟨W5.heap.size, 3, none⟩ = some v3 := by
  refine ⟨?_, ?_, ?_, ?_⟩ <;> (rw [cell_of_row _ _ _ _ _ _ h.1]; rfl)
set_option maxHeartbeats 4000000 in
set_option maxRecDepth 100000 in
theorem answers_walk (v0 v1 v2 : Value) (sa sb sc : Int) (bs : List Int) (I : Inp) (xs : List Int) (w : World) (hS : SpecV w v0 sa sb sc bs) (hI : InpV w v1 I) (hxs : IntsV w v2 xs) : Calls Try.prog 8 #[v0, v1, v2] w fun e w' => e = .returned (.bool true) ∧ Below w.heap.size w w' := by
  have hS' := hS
  obtain ⟨u, rfl, hsa, hsb, hsc, hu⟩ := hS'
  have hI' := hI
  obtain ⟨a, b, c, rfl, ha, hm, hc⟩ := hI'
  obtain ⟨ua, uc, rfl⟩ := hu.slice
  obtain ⟨aa, ac, rfl⟩ := ha.slice
  obtain ⟨ba, bc, rfl⟩ := hm.slice
  obtain ⟨ca, cc, rfl⟩ := hc.slice
  obtain ⟨da, dc, rfl⟩ := hxs.slice
  obtain ⟨pn, hpn, hpl⟩ := made_p sa sb sc bs
  have hbox := law_box w (.int .u8 sa) (.int .u8 sb) (.int .u8 sc) (.slice ua bs.length uc) (.slice aa I.args.length ac) (.slice ba I.mem.length bc) (.slice ca I.ans.length cc) (.int .i64 I.fuel)
  have HA := hide (awake_any ((w.alloc (.cells #[.int .u8 sa, .int .u8 sb, .int .u8 sc, .slice ua bs.length uc] 24)).alloc (.cells #[.slice aa I.args.length ac, .slice ba I.mem.length bc, .slice ca I.ans.length cc, .int .i64 I.fuel] 27)))
  have HBOX := hide hbox
  have HXS := hide hxs
  clear hbox ha hm hc hu hsa hsb hsc hxs
  go_enter Try.func8, Try.ntmps8
  go_wp2_with fail
  refine HA.out.mono ?_
  rintro e W1 ⟨rfl, hB1⟩
  obtain ⟨s0, s1, s2, s3, i0, i1, i2, i3, hBw⟩ := HBOX.out W1 hB1
  clear HBOX HA hB1
  by_cases hlong : (50 : Int) < (xs.length : Int)
  · have HBW := hide hBw
    clear hBw
    go_wp2_with fail
    go_ret
    exact ⟨rfl, HBW.out⟩
  replace hlong : (xs.length : Int) ≤ 50 := by omega
  have HM := hide (made_any _ sa sb sc bs W1 (hS.below hBw))
  have HI1 := hide (hI.below hBw)
  have HB1 := hide hBw
  clear hS hI hBw
  go_wp2_with fail
  refine HM.out.mono ?_
  rintro e W2 ⟨ub, rfl, hO, hB2⟩
  have HF := made_right sa sb sc bs
  generalize made sa sb sc bs = F at *
  obtain ⟨fa, fc, rfl⟩ := hO.v.slice
  have j0 := cell_below hB2 i0
  have j1 := cell_below hB2 i1
  have j2 := cell_below hB2 i2
  have j3 := cell_below hB2 i3
  clear HM s0 s1 s2 s3 i0 i1 i2 i3
  have hBf := bel1' W2 (.cells #[.int .i64 F.p, .int .i64 F.v, .slice fa F.bs.length fc] 31)
  have HV := hide (hO.v.below hBf)
  have HB3 := hide (bel_of HB1.out (bel_of hB2 hBf))
  have hIf := (HI1.out.below hB2).below hBf
  rw [hpn] at HV HB3 hIf hBf ⊢
  have HIN := hide (input_any _ I pn _ hIf hpl)
  have j0 := cell_below hBf j0
  have j1 := cell_below hBf j1
  have j2 := cell_below hBf j2
  have j3 := cell_below hBf j3
  have hrf : (W2.alloc (.cells #[.int .i64 (pn : Int), .int .i64 F.v, .slice fa F.bs.length fc] 31)).heap[W2.heap.size]? = some (Obj.cells #[.int .i64 (pn : Int), .int .i64 F.v, .slice fa F.bs.length fc] 31 (0, 0)) := heap_alloc_new W2 _
  have HRF := hide hrf
  clear hO hB2 hBf hIf HI1 HB1 hrf
  go_wp2_with fail
  refine HIN.out.mono ?_
  clear HIN j0 j1 j2 j3
  generalize W2.alloc (.cells #[.int .i64 (pn : Int), .int .i64 F.v, .slice fa F.bs.length fc] 31) = A2 at *
  generalize W2.heap.size = gf at *
  rintro e W3 ⟨x, rfl, hX, hB3⟩
  have hX' := hX
  obtain ⟨x0, x1, x2, rfl, hx0, hx1, hx2⟩ := hX'
  obtain ⟨xa, xac, rfl⟩ := hx0.slice
  obtain ⟨xb, xbc, rfl⟩ := hx1.slice
  obtain ⟨xc, xcc, rfl⟩ := hx2.slice
  have hfr : W3.heap[gf]? = _ := (hB3.block gf (Array.getElem?_eq_some_iff.1 HRF.out).1).trans HRF.out
  have hbb := bel1' W3 (.cells #[.slice xa (inpOf I pn).args.length xac, .slice xb (inpOf I pn).mem.length xbc, .slice xc (inpOf I pn).ans.length xcc, .int .i64 (inpOf I pn).fuel] 27)
  have hxr := heap_alloc_new W3 (.cells #[.slice xa (inpOf I pn).args.length xac, .slice xb (inpOf I pn).mem.length xbc, .slice xc (inpOf I pn).ans.length xcc, .int .i64 (inpOf I pn).fuel] 27)
  have hfr0 := hfr
  have hfr := (hbb.block gf (Array.getElem?_eq_some_iff.1 hfr).1).trans hfr
  have HV3 := hide ((HV.out.below hB3).below hbb)
  have HB4 := hide (bel_of HB3.out (bel_of hB3 hbb))
  have hfu : 0 ≤ (inpOf I pn).fuel ∧ (inpOf I pn).fuel < 400 := by rw [show (inpOf I pn).fuel = (I.fuel % 18446744073709551616) % 400 from rfl]; omega
  have hxl : Hid ((inpOf I pn).args.length = pn) := argsOf_len _ _
  have hal : Hid ((inpOf I pn).ans.length ≤ 100) := by show (I.ans.take 100).length ≤ 100; rw [List.length_take]; omega
  generalize inpOf I pn = X at *
  have HX := hide (hX.below hbb)
  have f0 : ∀ o, (W3.alloc o).cell? ⟨gf, 0, none⟩ = some (.int .i64 (pn : Int)) := fun o => cell_below (bel1' W3 o) (by rw [cell_of_row _ _ _ _ _ _ hfr0]; rfl)
  have f1 : ∀ o, (W3.alloc o).cell? ⟨gf, 1, none⟩ = some (.int .i64 F.v) := fun o => cell_below (bel1' W3 o) (by rw [cell_of_row _ _ _ _ _ _ hfr0]; rfl)
  have f2 : ∀ o, (W3.alloc o).cell? ⟨gf, 2, none⟩ = some (.slice fa F.bs.length fc) := fun o => cell_below (bel1' W3 o) (by rw [cell_of_row _ _ _ _ _ _ hfr0]; rfl)
  have HXR := hide hxr
  have HFR := hide hfr
  clear hX hx0 hx1 hx2 hB3 hfr hfr0 HRF HV HB3 hbb hxr
  obtain ⟨Z, hz, hzs⟩ := z37
  have HZ := hide (And.intro hz hzs)
  clear hz hzs
  go_wp2_with fail
  clear f0 f1 f2
  generalize W3.alloc (.cells #[.slice xa X.args.length xac, .slice xb X.mem.length xbc, .slice xc X.ans.length xcc, .int .i64 X.fuel] 27) = A3 at *
  generalize W3.heap.size = gx at *
  have hfr := HFR.out
  have hxr := HXR.out
  have f0 : A3.cell? ⟨gf, 0, none⟩ = some (.int .i64 (pn : Int)) := by rw [cell_of_row _ _ _ _ _ _ hfr]; rfl
  have f1 : A3.cell? ⟨gf, 1, none⟩ = some (.int .i64 F.v) := by rw [cell_of_row _ _ _ _ _ _ hfr]; rfl
  have f2 : A3.cell? ⟨gf, 2, none⟩ = some (.slice fa F.bs.length fc) := by rw [cell_of_row _ _ _ _ _ _ hfr]; rfl
  have x0 : A3.cell? ⟨gx, 0, none⟩ = some (.slice xa X.args.length xac) := by rw [cell_of_row _ _ _ _ _ _ hxr]; rfl
  have x1 : A3.cell? ⟨gx, 1, none⟩ = some (.slice xb X.mem.length xbc) := by rw [cell_of_row _ _ _ _ _ _ hxr]; rfl
  have x2 : A3.cell? ⟨gx, 2, none⟩ = some (.slice xc X.ans.length xcc) := by rw [cell_of_row _ _ _ _ _ _ hxr]; rfl
  have x3 : A3.cell? ⟨gx, 3, none⟩ = some (.int .i64 X.fuel) := by rw [cell_of_row _ _ _ _ _ _ hxr]; rfl
  clear hfr hxr HFR HXR
  have hFA : FunV A3 (.agg #[.int .i64 (pn : Int), .int .i64 F.v, .slice fa F.bs.length fc]) F := ⟨_, by rw [hpn], HV3.out⟩
  have hrx : runF F X = 0 := runF_zero HF hpn hxl.out (by omega)
  have HRY := hide (fun b : List Int => runF_zero (I := { X with ans := b }) HF hpn hxl.out (by simp only; omega))
  have hsame := fun b hb => play_ans F.v F.bs 0 (st0 F.v.toNat 0 X) b hb
  have hsp := play_spend F.v F.bs 0 (st0 F.v.toNat 0 X)
  rw [← runO_play hrx] at hsp hsame
  have hcl : ((runO F X).calls.length : Int) ≤ 400 := by
    have h1 : (st0 F.v.toNat 0 X).left = fuelOf X.fuel := rfl
    have h2 : (st0 F.v.toNat 0 X).calls.length = 0 := rfl
    have h3 : fuelOf X.fuel ≤ 400 := by unfold fuelOf; omega
    omega
  have HSAME : Hid (∀ b, AG (runO F X).calls.length X.ans b → runO F { X with ans := b } = runO F X) := fun b hb => by
    rw [runO_play (HRY.out b), st0_ans]
    exact hsame b (by simpa [st0] using hb)
  clear hsp hsame
  refine (run_any F X _ _ A3 hFA HX.out).mono ?_
  rintro e W4 ⟨x, rfl, hOut, hB4⟩
  rw [hrx]
  obtain ⟨OA, cva, rfl, hOA, hla, hoa, hca, hma⟩ := out_var hOut
  obtain ⟨ka, kac, rfl⟩ := hca.v.slice
  have f0 := cell_below hB4 f0
  have f1 := cell_below hB4 f1
  have f2 := cell_below hB4 f2
  have x0 := cell_below hB4 x0
  have x1 := cell_below hB4 x1
  have x2 := cell_below hB4 x2
  have x3 := cell_below hB4 x3
  have HFA := hide (hFA.below hB4)
  have HXA := hide (HX.out.below hB4)
  have HB5 := hide (bel_of HB4.out hB4)
  have HOA := hide (And.intro hOA (And.intro hla (And.intro hoa (And.intro hca hma))))
  generalize runO F X = oa at *
  obtain ⟨nc, hnc⟩ : ∃ nc : Nat, nc = min oa.calls.length X.ans.length := ⟨_, rfl⟩
  have hmin := fun ts t W => run_minN oa.calls.length X.ans.length ts t W
  have hcut := fun W => run_upto (k := min oa.calls.length X.ans.length) (ao := xc) (n := X.ans.length) (cap := xcc) (Nat.min_le_right _ _) (by obtain ⟨_, _, _, e, _, _, h⟩ := HXA.out; simp only [Value.agg.injEq, Array.mk.injEq, List.cons.injEq, and_true] at e; obtain ⟨rfl, rfl, rfl⟩ := e; exact (SlV.cap h).2.1) W
  rw [← hnc] at hmin hcut
  have HNC := hide (And.intro hnc (And.intro (show nc ≤ X.ans.length by omega) (show nc ≤ oa.calls.length by omega)))
  have HXC : Hid (IntsV W4 (.slice xc X.ans.length xcc) X.ans) := by
    obtain ⟨q0, q1, q2, e, h0, h1, h2⟩ := HXA.out
    simp only [Value.agg.injEq, Array.mk.injEq, List.cons.injEq, and_true] at e
    obtain ⟨rfl, rfl, rfl⟩ := e
    exact h2
  have HXS9 := hide (HXS.out.below HB5.out)
  have HAG := hide (ag_cut oa.calls.length X.ans xs)
  rw [← hnc] at HAG
  clear hnc hOA hla hoa hca hma hFA hB4 hOut HX HV3 HB4 hrx
  by_cases hq : nc = oa.calls.length
  · have hqb : ((nc : Int) == (oa.calls.length : Int)) = true := by rw [hq]; simp
    have HLEN : Hid ((X.ans.take nc).length + xs.length ≤ 1000000) := by have := hal.out; have h2 := hlong; show _ ≤ _; rw [List.length_take]; omega
    have HAG2 : Hid (AG oa.calls.length X.ans (X.ans.take nc ++ xs)) := by have h := HAG.out; rw [if_pos hq] at h; exact h
    clear hq HAG
    go_wp2_with (first | (refine wpList_var 37 9 rfl rfl rfl rfl (.tmp 30) rfl rfl Z OA.toArray HZ.out.1 (by simp) rfl (by simp only [List.size_toArray, HOA.out.2.1]; exact size37) (by simp only [List.size_toArray, HOA.out.2.1]; exact HZ.out.2) HOA.out.2.2.1 ?_; intro ga W5 hga; have hB5 := hga.out.2.2; rw [hga.out.1] at hB5; have x0 := cell_below hB5 x0; have x1 := cell_below hB5 x1; have x2 := cell_below hB5 x2; have x3 := cell_below hB5 x3; have a2 : W5.cell? ⟨ga, 2, none⟩ = some (.slice ka oa.calls.length kac) := (out_cells HOA.out.2.2.2.2 (by rw [← HOA.out.1]; exact hga.out.2.1)).2.2.1; have a2b := fun o => cell_below (bel1' W5 o) a2; have x2b := fun o => cell_below (bel1' W5 o) x2; have x2c := fun o o' => cell_below (bel2' W5 o o') x2; obtain ⟨va, vn, vc, W8, hrun1, hn1⟩ := AnsAt.first (W5 := W5) (v0 := .slice xa X.args.length xac) (v1 := .slice xb X.mem.length xbc) (v3 := .int .i64 X.fuel) (nc := nc) (HXC.out.below hB5) HNC.out.2.1 hal.out; have HRUN1 := hide hrun1; have HN1 := hide hn1; have y2 := hn1.cells; clear hrun1 hn1) | (refine wpList_appR (ux := .slice (some ⟨W5.heap.size + 1, 0, none⟩) 0 0) (uy := .slice xc nc xcc) (V := .slice va vn vc) 25 rfl (.tmp 40) (.tmp 44) rfl rfl rfl rfl HRUN1.out ?_) | (refine wpList_set2 rfl (.tmp 46) (.tmp 45) rfl rfl rfl rfl HN1.out ?_; intro W9 HN9; have hB9 := HN9.out.2.2; have a2 := cell_below hB9 a2; obtain ⟨y0, y1, y2, y3⟩ := HN9.out.cells; obtain ⟨vd, vdn, vdc, W10, hrun2, hn2⟩ := HN9.out.app (HXS9.out.below (bel_of hB5 hB9)) HLEN.out; have HRUN2 := hide hrun2; have HN2 := hide hn2; clear hrun2 hn2) | (refine wpList_appR (ux := .slice va vn vc) (uy := .slice da xs.length dc) (V := .slice vd vdn vdc) 25 rfl (.tmp 53) (.tmp 54) rfl rfl rfl rfl HRUN2.out ?_) | (refine wpList_set2 rfl (.tmp 56) (.tmp 55) rfl rfl rfl rfl HN2.out ?_; intro W11 HN11; have hB11 := HN11.out.2.2; have f0 := cell_below hB11 (cell_below hB5 f0); have f1 := cell_below hB11 (cell_below hB5 f1); have f2 := cell_below hB11 (cell_below hB5 f2); obtain ⟨y0, y1, y2, y3⟩ := HN11.out.cells))
    have hYA : InpV W11 (.agg #[.slice xa X.args.length xac, .slice xb X.mem.length xbc, .slice vd vdn vdc, .int .i64 X.fuel]) { X with ans := X.ans.take nc ++ xs } := by
      obtain ⟨q0, q1, q2, e, h0, h1, h2⟩ := (HXA.out.below hB5).below HN11.out.2.2
      simp only [Value.agg.injEq, Array.mk.injEq, List.cons.injEq, and_true] at e
      obtain ⟨rfl, rfl, rfl⟩ := e
      exact ⟨_, _, _, rfl, h0, h1, HN11.out.2.1.v⟩
    refine (run_any F { X with ans := X.ans.take nc ++ xs } _ _ W11 ((HFA.out.below hB5).below HN11.out.2.2) hYA).mono ?_
    rintro e W12 ⟨x, rfl, hOut, hB12⟩
    rw [HRY.out]
    rw [HSAME.out _ HAG2.out] at hOut
    obtain ⟨OB, cvb, rfl, hOB, hlb, hob, hcb, hmb⟩ := out_var hOut
    obtain ⟨kb, kbc, rfl⟩ := hcb.v.slice
    have hra : W12.heap[ga]? = some (Obj.cells OA.toArray 37 (0, 0)) := (hB12.block ga (Nat.lt_of_lt_of_le (Array.getElem?_eq_some_iff.1 hga.out.2.1).1 HN11.out.2.2.size)).trans ((HN11.out.2.2.block ga (Array.getElem?_eq_some_iff.1 hga.out.2.1).1).trans hga.out.2.1)
    have hcax := ((HOA.out.2.2.2.1.below hB5).below HN11.out.2.2).below hB12
    have HBW := hide (bel_of HB5.out (bel_of hB5 (bel_of HN11.out.2.2 hB12)))
    have HOB := hide (And.intro hOB (And.intro hlb (And.intro hob (And.intro hcb hmb))))
    have HA6 := hide (And.intro hra hcax)
    clear hOB hlb hob hcb hmb hra hcax hB12 hOut hYA y0 y1 y2 y3 f0 f1 f2 x0 x1 x2 x3 a2
    go_wp2_with (first | (refine wpList_var 37 13 rfl rfl rfl rfl (.tmp 61) rfl rfl Z OB.toArray HZ.out.1 (by simp) rfl (by simp only [List.size_toArray, HOB.out.2.1]; exact size37) (by simp only [List.size_toArray, HOB.out.2.1]; exact HZ.out.2) HOB.out.2.2.1 ?_; intro gb W13 hgb; obtain ⟨za, zb, hcs⟩ := two_outs HOA.out HOB.out HA6.out hgb; clear za zb) | (refine wpList_load_rowG rfl (.tmp 9) rfl ga rfl OA.toArray hcs.out.2.2.1 (by simp only [List.size_toArray, HOA.out.2.1]; exact size37) ?_) | (refine wpList_load_rowG rfl (.tmp 13) rfl gb rfl OB.toArray hcs.out.2.2.2.1 (by simp only [List.size_toArray, HOB.out.2.1]; exact size37) ?_))
    refine (same_any oa (.agg OA.toArray) (.agg OB.toArray) _ ⟨.slice ka oa.calls.length kac, by rw [HOA.out.1], hcs.out.1.v, HOA.out.2.2.2.2⟩ ⟨.slice kb oa.calls.length kbc, by rw [HOB.out.1], hcs.out.2.1.v, HOB.out.2.2.2.2⟩).mono ?_
    rintro e W14 ⟨rfl, hB14⟩
    have HB14 := hide (bel_of HBW.out (bel_of hcs.out.2.2.2.2 hB14))
    clear hB14 hcs
    go_wp2_with fail
    go_ret
    exact ⟨rfl, HB14.out⟩
  · have hqb : ((nc : Int) == (oa.calls.length : Int)) = false := by simpa using fun h => hq (by exact_mod_cast h)
    have HAG2 : Hid (AG oa.calls.length X.ans (X.ans.take nc)) := by have h := HAG.out; rw [if_neg hq] at h; exact h
    clear hq HAG
    go_wp2_with (first | (refine wpList_var 37 9 rfl rfl rfl rfl (.tmp 30) rfl rfl Z OA.toArray HZ.out.1 (by simp) rfl (by simp only [List.size_toArray, HOA.out.2.1]; exact size37) (by simp only [List.size_toArray, HOA.out.2.1]; exact HZ.out.2) HOA.out.2.2.1 ?_; intro ga W5 hga; have hB5 := hga.out.2.2; rw [hga.out.1] at hB5; have x0 := cell_below hB5 x0; have x1 := cell_below hB5 x1; have x2 := cell_below hB5 x2; have x3 := cell_below hB5 x3; have a2 : W5.cell? ⟨ga, 2, none⟩ = some (.slice ka oa.calls.length kac) := (out_cells HOA.out.2.2.2.2 (by rw [← HOA.out.1]; exact hga.out.2.1)).2.2.1; have a2b := fun o => cell_below (bel1' W5 o) a2; have x2b := fun o => cell_below (bel1' W5 o) x2; have x2c := fun o o' => cell_below (bel2' W5 o o') x2; obtain ⟨va, vn, vc, W8, hrun1, hn1⟩ := AnsAt.first (W5 := W5) (v0 := .slice xa X.args.length xac) (v1 := .slice xb X.mem.length xbc) (v3 := .int .i64 X.fuel) (nc := nc) (HXC.out.below hB5) HNC.out.2.1 hal.out; have HRUN1 := hide hrun1; have HN1 := hide hn1; have y2 := hn1.cells; clear hrun1 hn1) | (refine wpList_appR (ux := .slice (some ⟨W5.heap.size + 1, 0, none⟩) 0 0) (uy := .slice xc nc xcc) (V := .slice va vn vc) 25 rfl (.tmp 40) (.tmp 44) rfl rfl rfl rfl HRUN1.out ?_) | (refine wpList_set2 rfl (.tmp 46) (.tmp 45) rfl rfl rfl rfl HN1.out ?_; intro W9 HN9; have hB9 := HN9.out.2.2; have a2 := cell_below hB9 a2; have f0 := cell_below hB9 (cell_below hB5 f0); have f1 := cell_below hB9 (cell_below hB5 f1); have f2 := cell_below hB9 (cell_below hB5 f2); obtain ⟨y0, y1, y2, y3⟩ := HN9.out.cells))
    have hYA : InpV W9 (.agg #[.slice xa X.args.length xac, .slice xb X.mem.length xbc, .slice va vn vc, .int .i64 X.fuel]) { X with ans := X.ans.take nc } := by
      obtain ⟨q0, q1, q2, e, h0, h1, h2⟩ := (HXA.out.below hB5).below HN9.out.2.2
      simp only [Value.agg.injEq, Array.mk.injEq, List.cons.injEq, and_true] at e
      obtain ⟨rfl, rfl, rfl⟩ := e
      exact ⟨_, _, _, rfl, h0, h1, HN9.out.2.1.v⟩
    refine (run_any F { X with ans := X.ans.take nc } _ _ W9 ((HFA.out.below hB5).below HN9.out.2.2) hYA).mono ?_
    rintro e W12 ⟨x, rfl, hOut, hB12⟩
    rw [HRY.out]
    rw [HSAME.out _ HAG2.out] at hOut
    obtain ⟨OB, cvb, rfl, hOB, hlb, hob, hcb, hmb⟩ := out_var hOut
    obtain ⟨kb, kbc, rfl⟩ := hcb.v.slice
    have hra : W12.heap[ga]? = some (Obj.cells OA.toArray 37 (0, 0)) := (hB12.block ga (Nat.lt_of_lt_of_le (Array.getElem?_eq_some_iff.1 hga.out.2.1).1 HN9.out.2.2.size)).trans ((HN9.out.2.2.block ga (Array.getElem?_eq_some_iff.1 hga.out.2.1).1).trans hga.out.2.1)
    have hcax := ((HOA.out.2.2.2.1.below hB5).below HN9.out.2.2).below hB12
    have HBW := hide (bel_of HB5.out (bel_of hB5 (bel_of HN9.out.2.2 hB12)))
    have HOB := hide (And.intro hOB (And.intro hlb (And.intro hob (And.intro hcb hmb))))
    have HA6 := hide (And.intro hra hcax)
    clear hOB hlb hob hcb hmb hra hcax hB12 hOut hYA y0 y1 y2 y3 f0 f1 f2 x0 x1 x2 x3 a2
    go_wp2_with (first | (refine wpList_var 37 13 rfl rfl rfl rfl (.tmp 61) rfl rfl Z OB.toArray HZ.out.1 (by simp) rfl (by simp only [List.size_toArray, HOB.out.2.1]; exact size37) (by simp only [List.size_toArray, HOB.out.2.1]; exact HZ.out.2) HOB.out.2.2.1 ?_; intro gb W13 hgb; obtain ⟨za, zb, hcs⟩ := two_outs HOA.out HOB.out HA6.out hgb; clear za zb) | (refine wpList_load_rowG rfl (.tmp 9) rfl ga rfl OA.toArray hcs.out.2.2.1 (by simp only [List.size_toArray, HOA.out.2.1]; exact size37) ?_) | (refine wpList_load_rowG rfl (.tmp 13) rfl gb rfl OB.toArray hcs.out.2.2.2.1 (by simp only [List.size_toArray, HOB.out.2.1]; exact size37) ?_))
    refine (same_any oa (.agg OA.toArray) (.agg OB.toArray) _ ⟨.slice ka oa.calls.length kac, by rw [HOA.out.1], hcs.out.1.v, HOA.out.2.2.2.2⟩ ⟨.slice kb oa.calls.length kbc, by rw [HOB.out.1], hcs.out.2.1.v, HOB.out.2.2.2.2⟩).mono ?_
    rintro e W14 ⟨rfl, hB14⟩
    have HB14 := hide (bel_of HBW.out (bel_of hcs.out.2.2.2.2 hB14))
    clear hB14 hcs
    go_wp2_with fail
    go_ret
    exact ⟨rfl, HB14.out⟩
end Go.Proofs.Ytljnngblhfhhaaa
