/- The walk of RunCalls. -/
import Derived.Test.YtljnngblhfhhaabRf
namespace Go.Proofs.Ytljnngblhfhhaab
open Go.RowKit Ir

namespace Ir
/-- An instruction that a call may be. -/
def hit (c : Cl) (i : Ins) : Bool := decide (i.k = 6 ∧ i.n = c.n ∧ i.args.length = c.args.length)
theorem take_any {α : Type} (xs : List α) (f : α → Bool) (q : Nat) (z : α) (h : q < xs.length) : (xs.take (q + 1)).any f = ((xs.take q).any f || f (xs.getD q z)) := by
  rw [List.take_add_one, List.any_append]
  simp [List.getElem?_eq_getElem h]
end Ir
set_option maxHeartbeats 4000000 in
set_option maxRecDepth 100000 in
theorem calls_walk (v0 v1 : Value) (sa sb sc : Int) (bs : List Int) (I : Inp) (w : World) (hS : SpecV w v0 sa sb sc bs) (hI : InpV w v1 I) : Calls Try.prog 3 #[v0, v1] w fun e w' => e = .returned (.bool true) ∧ Below w.heap.size w w' := by
  have hS' := hS
  obtain ⟨u, rfl, hsa, hsb, hsc, hu⟩ := hS'
  have hI' := hI
  obtain ⟨a, b, c, rfl, ha, hm, hc⟩ := hI'
  obtain ⟨ua, uc, rfl⟩ := hu.slice
  obtain ⟨aa, ac, rfl⟩ := ha.slice
  obtain ⟨ba, bc, rfl⟩ := hm.slice
  obtain ⟨ca, cc, rfl⟩ := hc.slice
  obtain ⟨pn, hpn, hpl⟩ := made_p sa sb sc bs
  have hbox := law_box w (.int .u8 sa) (.int .u8 sb) (.int .u8 sc) (.slice ua bs.length uc) (.slice aa I.args.length ac) (.slice ba I.mem.length bc) (.slice ca I.ans.length cc) (.int .i64 I.fuel)
  have HA := hide (awake_any ((w.alloc (.cells #[.int .u8 sa, .int .u8 sb, .int .u8 sc, .slice ua bs.length uc] 24)).alloc (.cells #[.slice aa I.args.length ac, .slice ba I.mem.length bc, .slice ca I.ans.length cc, .int .i64 I.fuel] 27)))
  have HBOX := hide hbox
  clear hbox ha hm hc hu hsa hsb hsc
  go_enter Try.func3, Try.ntmps3
  go_wp2_with fail
  refine HA.out.mono ?_
  rintro e W1 ⟨rfl, hB1⟩
  obtain ⟨s0, s1, s2, s3, i0, i1, i2, i3, hBw⟩ := HBOX.out W1 hB1
  clear HBOX HA hB1
  have HM := hide (made_any _ sa sb sc bs W1 (hS.below hBw))
  have HI1 := hide (hI.below hBw)
  have HB1 := hide hBw
  clear hS hI hBw
  go_wp2_with fail
  refine HM.out.mono ?_
  rintro e W2 ⟨ub, rfl, hO, hB2⟩
  have HF := made_right sa sb sc bs
  generalize made sa sb sc bs = F at *
  obtain ⟨fa, fc, rfl⟩ := hO.v.slice
  have j0 := cell_below hB2 i0
  have j1 := cell_below hB2 i1
  have j2 := cell_below hB2 i2
  have j3 := cell_below hB2 i3
  clear HM s0 s1 s2 s3 i0 i1 i2 i3
  have hBf := bel1' W2 (.cells #[.int .i64 F.p, .int .i64 F.v, .slice fa F.bs.length fc] 31)
  have HV := hide (hO.v.below hBf)
  have HB3 := hide (bel_of HB1.out (bel_of hB2 hBf))
  have hIf := (HI1.out.below hB2).below hBf
  rw [hpn] at HV HB3 hIf hBf ⊢
  have HIN := hide (input_any _ I pn _ hIf hpl)
  have j0 := cell_below hBf j0
  have j1 := cell_below hBf j1
  have j2 := cell_below hBf j2
  have j3 := cell_below hBf j3
  have hrf : (W2.alloc (.cells #[.int .i64 (pn : Int), .int .i64 F.v, .slice fa F.bs.length fc] 31)).heap[W2.heap.size]? = some (Obj.cells #[.int .i64 (pn : Int), .int .i64 F.v, .slice fa F.bs.length fc] 31 (0, 0)) := heap_alloc_new W2 _
  have HRF := hide hrf
  clear hO hB2 hBf hIf HI1 HB1 hrf
  go_wp2_with fail
  refine HIN.out.mono ?_
  clear HIN j0 j1 j2 j3
  generalize W2.alloc (.cells #[.int .i64 (pn : Int), .int .i64 F.v, .slice fa F.bs.length fc] 31) = A2 at *
  generalize W2.heap.size = gf at *
  rintro e W3 ⟨x, rfl, hX, hB3⟩
  have hX' := hX
  obtain ⟨x0, x1, x2, rfl, hx0, hx1, hx2⟩ := hX'
  obtain ⟨xa, xac, rfl⟩ := hx0.slice
  obtain ⟨xb, xbc, rfl⟩ := hx1.slice
  obtain ⟨xc, xcc, rfl⟩ := hx2.slice
  have hfr : W3.heap[gf]? = _ := (hB3.block gf (Array.getElem?_eq_some_iff.1 HRF.out).1).trans HRF.out
  have hbb := bel1' W3 (.cells #[.slice xa (inpOf I pn).args.length xac, .slice xb (inpOf I pn).mem.length xbc, .slice xc (inpOf I pn).ans.length xcc, .int .i64 (inpOf I pn).fuel] 27)
  have hxr := heap_alloc_new W3 (.cells #[.slice xa (inpOf I pn).args.length xac, .slice xb (inpOf I pn).mem.length xbc, .slice xc (inpOf I pn).ans.length xcc, .int .i64 (inpOf I pn).fuel] 27)
  have hfr0 := hfr
  have hfr := (hbb.block gf (Array.getElem?_eq_some_iff.1 hfr).1).trans hfr
  have HV3 := hide ((HV.out.below hB3).below hbb)
  have HB4 := hide (bel_of HB3.out (bel_of hB3 hbb))
  have hfu : 0 ≤ (inpOf I pn).fuel ∧ (inpOf I pn).fuel < 400 := by rw [show (inpOf I pn).fuel = (I.fuel % 18446744073709551616) % 400 from rfl]; omega
  have hxl : Hid ((inpOf I pn).args.length = pn) := argsOf_len _ _
  generalize inpOf I pn = X at *
  have HX := hide (hX.below hbb)
  have f0 : ∀ o, (W3.alloc o).cell? ⟨gf, 0, none⟩ = some (.int .i64 (pn : Int)) := fun o => cell_below (bel1' W3 o) (by rw [cell_of_row _ _ _ _ _ _ hfr0]; rfl)
  have f1 : ∀ o, (W3.alloc o).cell? ⟨gf, 1, none⟩ = some (.int .i64 F.v) := fun o => cell_below (bel1' W3 o) (by rw [cell_of_row _ _ _ _ _ _ hfr0]; rfl)
  have f2 : ∀ o, (W3.alloc o).cell? ⟨gf, 2, none⟩ = some (.slice fa F.bs.length fc) := fun o => cell_below (bel1' W3 o) (by rw [cell_of_row _ _ _ _ _ _ hfr0]; rfl)
  have HXR := hide hxr
  have HFR := hide hfr
  clear hX hx0 hx1 hx2 hB3 hfr hfr0 HRF HV HB3 hbb hxr
  obtain ⟨Z, hz, hzs⟩ := z37
  have HZ := hide (And.intro hz hzs)
  clear hz hzs
  go_wp2_with fail
  clear f0 f1 f2
  generalize W3.alloc (.cells #[.slice xa X.args.length xac, .slice xb X.mem.length xbc, .slice xc X.ans.length xcc, .int .i64 X.fuel] 27) = A3 at *
  generalize W3.heap.size = gx at *
  have hfr := HFR.out
  have hxr := HXR.out
  have f0 : A3.cell? ⟨gf, 0, none⟩ = some (.int .i64 (pn : Int)) := by rw [cell_of_row _ _ _ _ _ _ hfr]; rfl
  have f1 : A3.cell? ⟨gf, 1, none⟩ = some (.int .i64 F.v) := by rw [cell_of_row _ _ _ _ _ _ hfr]; rfl
  have f2 : A3.cell? ⟨gf, 2, none⟩ = some (.slice fa F.bs.length fc) := by rw [cell_of_row _ _ _ _ _ _ hfr]; rfl
  have x0 : A3.cell? ⟨gx, 0, none⟩ = some (.slice xa X.args.length xac) := by rw [cell_of_row _ _ _ _ _ _ hxr]; rfl
  have x1 : A3.cell? ⟨gx, 1, none⟩ = some (.slice xb X.mem.length xbc) := by rw [cell_of_row _ _ _ _ _ _ hxr]; rfl
  have x2 : A3.cell? ⟨gx, 2, none⟩ = some (.slice xc X.ans.length xcc) := by rw [cell_of_row _ _ _ _ _ _ hxr]; rfl
  have x3 : A3.cell? ⟨gx, 3, none⟩ = some (.int .i64 X.fuel) := by rw [cell_of_row _ _ _ _ _ _ hxr]; rfl
  clear hfr hxr HFR HXR
  have hFA : FunV A3 (.agg #[.int .i64 (pn : Int), .int .i64 F.v, .slice fa F.bs.length fc]) F := ⟨_, by rw [hpn], HV3.out⟩
  have hrx : runF F X = 0 := runF_zero HF hpn hxl.out (by omega)
  have hends := play_ends F.v F.bs 0 (st0 F.v.toNat 0 X) (fun c hc => by cases hc)
  have hsp := play_spend F.v F.bs 0 (st0 F.v.toNat 0 X)
  rw [← runO_play hrx] at hsp hends
  have hcl : ((runO F X).calls.length : Int) + ((runO F X).left : Int) ≤ X.fuel := by
    have h1 : (st0 F.v.toNat 0 X).left = fuelOf X.fuel := rfl
    have h2 : (st0 F.v.toNat 0 X).calls.length = 0 := rfl
    have h3 : (fuelOf X.fuel : Int) = X.fuel := by unfold fuelOf; omega
    omega
  have HENDS := hide hends
  clear hsp hends
  refine (run_any F X _ _ A3 hFA HX.out).mono ?_
  rintro e W4 ⟨x, rfl, hOut, hB4⟩
  rw [hrx]
  obtain ⟨OA, cva, rfl, hOA, hla, hoa, hca, hma⟩ := out_var hOut
  obtain ⟨ka, kac, rfl⟩ := hca.v.slice
  have f0 := cell_below hB4 f0
  have f1 := cell_below hB4 f1
  have f2 := cell_below hB4 f2
  have x0 := cell_below hB4 x0
  have x1 := cell_below hB4 x1
  have x2 := cell_below hB4 x2
  have x3 := cell_below hB4 x3
  have HFA := hide (hFA.below hB4)
  have HXA := hide (HX.out.below hB4)
  have HB5 := hide (bel_of HB4.out hB4)
  have HOA := hide (And.intro hOA (And.intro hla (And.intro hoa (And.intro hca hma))))
  generalize runO F X = oa at *
  have HBLK := hide HV3.out
  have HBB := hide hB4
  clear hOA hla hoa hca hma hFA hB4 hOut HX HB4 hrx HXA HV3
  go_wp2_with (refine wpList_var 37 7 rfl rfl rfl rfl (.tmp 28) rfl rfl Z OA.toArray HZ.out.1 (by simp) rfl (by simp only [List.size_toArray, HOA.out.2.1]; exact size37) (by simp only [List.size_toArray, HOA.out.2.1]; exact HZ.out.2) HOA.out.2.2.1 ?_; intro ga W5 hga; have hB5 := hga.out.2.2; rw [hga.out.1] at hB5; have f2 := cell_below hB5 f2; have x3 := cell_below hB5 x3; obtain ⟨a0, a1, a2, a67⟩ := out_cells HOA.out.2.2.2.2 (by rw [← HOA.out.1]; exact hga.out.2.1))
  have HBL5 := hide ((HBLK.out.below HBB.out).below hB5)
  have HCA := hide (HOA.out.2.2.2.1.below hB5).v
  have HB6 := hide (bel_of HB5.out hB5)
  have hlm : (oa.calls.length : Int) ≤ 9223372036854775807 := by omega
  have hnbm := SlV.len_le HBL5.out
  have hnb : (F.bs.length : Int) ≤ 9223372036854775807 := by unfold maxLen at hnbm; omega
  clear hB5 hga f0 f1 x0 x1 x2 HBLK HBB HB5 HFA hnbm HF hpn hpl hxl HZ HOA
  go_loopw [11, 33] (fun _ iv wr => ∃ j : Nat, j ≤ oa.calls.length ∧ iv = .int .i64 j ∧ Below W5.heap.size W5 wr) (fun _ iv _ => oa.calls.length - (intOf iv).toNat)
  case atStart => exact ⟨0, by omega, rfl, Below.refl _ _⟩
  case round =>
    obtain ⟨j, hj, rfl, hBr⟩ := hrel
    have f2r := cell_below hBr f2
    by_cases hlt : j < oa.calls.length
    · obtain ⟨cb, co, rfl, uc1, c0, c1, huc⟩ := SlV.at (HCA.out.below hBr) j hlt
      have hfrom : FromI F.bs (oa.calls.getD j Cl.zero) := HENDS.out.1 _ (by simp [List.getElem?_eq_getElem hlt])
      generalize oa.calls.getD j Cl.zero = c at *
      obtain ⟨nn, args⟩ := c
      simp only at c0 c1 huc
      obtain ⟨ua1, uca, rfl⟩ := huc.slice
      have hlt' : (j : Int) < (oa.calls.length : Int) := by omega
      have f2b := fun o => cell_below (bel1' wr o) f2r
      have HBN := hide (bel_of hBr (bel1' wr (.cells #[.int .i64 nn, .slice ua1 args.length uca] 42)))
      have HCR := hide (heap_alloc_new wr (.cells #[.int .i64 nn, .slice ua1 args.length uca] 42))
      have HFROM := hide hfrom
      clear huc hBr hfrom a0 a1 a67 x3
      go_wp2_with fail
      generalize wr.alloc (.cells #[.int .i64 nn, .slice ua1 args.length uca] 42) = w8 at *
      generalize wr.heap.size = gc at *
      have k0 : w8.cell? ⟨gc, 0, none⟩ = some (.int .i64 nn) := by rw [cell_of_row _ _ _ _ _ _ HCR.out]; rfl
      have k1 : w8.cell? ⟨gc, 1, none⟩ = some (.slice ua1 args.length uca) := by rw [cell_of_row _ _ _ _ _ _ HCR.out]; rfl
      have HBK8 := hide (HBL5.out.below HBN.out)
      clear f2b c0 c1 f2r HCR
      go_loopw [11, 40] (fun fv iv wq => ∃ q : Nat, q ≤ F.bs.length ∧ iv = .int .i64 q ∧ fv = .bool ((F.bs.take q).any (fun b => b.ins.any (hit ⟨nn, args⟩))) ∧ Below w8.heap.size w8 wq) (fun _ iv _ => F.bs.length - (intOf iv).toNat)
      case atStart => exact ⟨0, by omega, rfl, rfl, Below.refl _ _⟩
      case round =>
        rename World => wq
        obtain ⟨q, hq, rfl, rfl, hBq⟩ := hrel
        by_cases hqlt : q < F.bs.length
        · obtain ⟨bb, bo, rfl, ub, hbc, hbi⟩ := SlV.at (HBK8.out.below hBq) q hqlt
          have htk : (F.bs.take (q + 1)).any (fun b => b.ins.any (hit ⟨nn, args⟩)) = ((F.bs.take q).any (fun b => b.ins.any (hit ⟨nn, args⟩)) || (F.bs.getD q Blk.zero).ins.any (hit ⟨nn, args⟩)) := take_any _ _ _ _ hqlt
          have HTK := hide htk
          clear htk
          generalize (F.bs.take q).any (fun b => b.ins.any (hit ⟨nn, args⟩)) = fq at *
          generalize F.bs.getD q Blk.zero = B at *
          obtain ⟨is, e⟩ := B
          simp only at hbc hbi
          obtain ⟨d0, d1, d2, d3, d4⟩ := hbc
          obtain ⟨ia, ic, rfl⟩ := hbi.slice
          have hqlt' : (q : Int) < (F.bs.length : Int) := by omega
          have HBN2 := hide (bel_of hBq (bel1' wq (.cells #[.slice ia is.length ic, .int .u8 e.k, .int .i64 e.a, .int .i64 e.to, .int .i64 e.el] 48)))
          have HBI := hide (hbi.below (bel1' wq (.cells #[.slice ia is.length ic, .int .u8 e.k, .int .i64 e.a, .int .i64 e.to, .int .i64 e.el] 48)))
          have hilm := SlV.len_le hbi
          have hil : (is.length : Int) ≤ 9223372036854775807 := by unfold maxLen at hilm; omega
          clear hbi hBq hilm
          go_wp2_with fail
          generalize wq.alloc (.cells #[.slice ia is.length ic, .int .u8 e.k, .int .i64 e.a, .int .i64 e.to, .int .i64 e.el] 48) = w9 at *
          clear d0 d1 d2 d3 d4
          have k0 := cell_below HBN2.out k0
          have k1 := cell_below HBN2.out k1
          go_loopw [11, 47] (fun fv iv wk => ∃ k : Nat, k ≤ is.length ∧ iv = .int .i64 k ∧ fv = .bool (fq || (is.take k).any (hit ⟨nn, args⟩)) ∧ Below w9.heap.size w9 wk) (fun _ iv _ => is.length - (intOf iv).toNat)
          case atStart => exact ⟨0, by omega, rfl, by simp, Below.refl _ _⟩
          case round =>
            rename World => wk
            obtain ⟨k, hk, rfl, rfl, hBk⟩ := hrel
            by_cases hklt : k < is.length
            · obtain ⟨ib, io, rfl, ui, hic, hia⟩ := SlV.at (HBI.out.below hBk) k hklt
              have htk : (is.take (k + 1)).any (hit ⟨nn, args⟩) = ((is.take k).any (hit ⟨nn, args⟩) || hit ⟨nn, args⟩ (is.getD k Ins.zero)) := take_any _ _ _ _ hklt
              have HTI : Hid ((fq || (is.take (k + 1)).any (hit ⟨nn, args⟩)) = ((fq || (is.take k).any (hit ⟨nn, args⟩)) || hit ⟨nn, args⟩ (is.getD k Ins.zero))) := by show _ = _; rw [htk, Bool.or_assoc]
              clear htk
              generalize (fq || (is.take k).any (hit ⟨nn, args⟩)) = fk at *
              generalize is.getD k Ins.zero = I1 at *
              obtain ⟨ik, iop, id1, ia1, ib1, in1, iargs⟩ := I1
              simp only at hic hia
              obtain ⟨d0, d1, d2, d3, d4, d5, d6⟩ := hic
              obtain ⟨ja, jc, rfl⟩ := hia.slice
              have hklt' : (k : Int) < (is.length : Int) := by omega
              have hBi := bel1' wk (.cells #[.int .u8 ik, .int .u8 iop, .int .i64 id1, .int .i64 ia1, .int .i64 ib1, .int .i64 in1, .slice ja iargs.length jc] 53)
              have HBM := hide (bel_of hBk hBi)
              have k0 := fun o => cell_below (bel1' wk o) (cell_below hBk k0)
              have k1 := fun o => cell_below (bel1' wk o) (cell_below hBk k1)
              clear hia hBk hBi
              cases fk with
              | true =>
                go_wp2_with fail
                go_roundw
                case rel => exact ⟨k + 1, by omega, by go_num, by rw [HTI.out]; simp [hit], HBM.out⟩
                case measure => simp [intOf]; omega
              | false =>
                by_cases e6 : ik = 6
                · subst e6
                  by_cases en : in1 = nn
                  · subst en
                    by_cases ea : iargs.length = args.length
                    · have HEA := hide ea
                      clear ea
                      go_wp2_with fail
                      go_roundw
                      case rel => exact ⟨k + 1, by omega, by go_num, by rw [HTI.out]; simp [hit, HEA.out], HBM.out⟩
                      case measure => simp [intOf]; omega
                    · have ea1 : ((iargs.length : Int) == (args.length : Int)) = false := by simpa using fun h => ea (by exact_mod_cast h)
                      go_wp2_with fail
                      go_roundw
                      case rel => exact ⟨k + 1, by omega, by go_num, by rw [HTI.out]; simp [hit, ea], HBM.out⟩
                      case measure => simp [intOf]; omega
                  · have en1 : (in1 == nn) = false := by simpa using en
                    go_wp2_with fail
                    go_roundw
                    case rel => exact ⟨k + 1, by omega, by go_num, by rw [HTI.out]; simp [hit, en], HBM.out⟩
                    case measure => simp [intOf]; omega
                · have e61 : (ik == 6) = false := by simpa using e6
                  go_wp2_with fail
                  go_roundw
                  case rel => exact ⟨k + 1, by omega, by go_num, by rw [HTI.out]; simp [hit, e6], HBM.out⟩
                  case measure => simp [intOf]; omega
            · obtain rfl : k = is.length := by omega
              have hall : (fq || (is.take is.length).any (hit ⟨nn, args⟩)) = (F.bs.take (q + 1)).any (fun b => b.ins.any (hit ⟨nn, args⟩)) := by rw [List.take_length, HTK.out]
              rw [hall]
              have HBO := hide (bel_of HBN2.out hBk)
              clear hBk hall
              go_wp2_with fail
              go_roundw
              case rel => exact ⟨q + 1, by omega, by go_num, rfl, HBO.out⟩
              case measure => simp [intOf]; omega
        · obtain rfl : q = F.bs.length := by omega
          have hall : (F.bs.take F.bs.length).any (fun b => b.ins.any (hit ⟨nn, args⟩)) = true := by
            rw [List.take_length]
            obtain ⟨b, hb, i, hi, h6, hn, ha⟩ := HFROM.out
            exact List.any_eq_true.2 ⟨b, hb, List.any_eq_true.2 ⟨i, hi, by simp [hit, h6, hn, ha]⟩⟩
          rw [hall]
          have HBO := hide (bel_of HBN.out hBq)
          clear hBq hall
          go_wp2_with fail
          go_roundw
          case rel => exact ⟨j + 1, by omega, by go_num, HBO.out⟩
          case measure => simp [intOf]; omega
    · obtain rfl : j = oa.calls.length := by omega
      have y0 := cell_below hBr a0
      have y1 := cell_below hBr a1
      have y2 := cell_below hBr a2
      have y67 := cell_below hBr a67
      have yx := cell_below hBr x3
      have HBF := hide (bel_of HB6.out hBr)
      have hl0 : (0 : Int) ≤ (oa.left : Int) := by omega
      have hsub : (oa.calls.length : Int) ≤ X.fuel - (oa.left : Int) := by omega
      clear hBr a0 a1 a2 a67 x3 f2 f2r
      rcases HENDS.out.2 with h1 | ⟨h2, hv⟩ | ⟨h3, hv, hle⟩
      · rw [h1] at y0
        by_cases hz0 : oa.left = 0
        · rw [hz0] at y67 hsub
          go_wp2_with fail
          go_ret
          exact ⟨rfl, HBF.out⟩
        · have hz1 : (((oa.left : Nat) : Int) == 0) = false := by simpa using hz0
          go_wp2_with fail
          go_ret
          exact ⟨rfl, HBF.out⟩
      · rw [h2] at y0
        rw [hv] at y1
        by_cases hz0 : oa.left = 0
        · rw [hz0] at y67 hsub
          go_wp2_with fail
          go_ret
          exact ⟨rfl, HBF.out⟩
        · have hz1 : (((oa.left : Nat) : Int) == 0) = false := by simpa using hz0
          go_wp2_with fail
          go_ret
          exact ⟨rfl, HBF.out⟩
      · rw [h3] at y0
        rw [hv] at y1
        rw [hle] at y67 hsub
        go_wp2_with fail
        go_ret
        exact ⟨rfl, HBF.out⟩
end Go.Proofs.Ytljnngblhfhhaab
