/- One round of the document's Play. -/
import Derived.Test.YtepmbkiojpffpaaPx
import Derived.Test.YtepmbkiojpffpaaLb
namespace Go.Proofs.Ytepmbkiojpffpaa
open Go Go.RowKit Ir

set_option maxHeartbeats 2000000 in
set_option maxRecDepth 100000 in
theorem body_6 {Q : Exit → Act → World → Prop} {a : Act} {w wr : World} {ub : Option Addr} {cb : Nat} {bs : List Blk} {r : Int} {n gi gr go gp : Nat} {ca : Option Addr} {cc : Nat} {ans : List Int} {s : St} {cv : Value} {tn kn qn : Nat} {i : Ins} (hA : ActP (.slice ub bs.length cb) (.int .i64 r) (P0 gi) (P0 gr) (.slice (some ⟨gp, 0, none⟩) n n) (P0 go) (.int .i64 (tn : Nat)) (.int .i64 (kn : Nat)) (.int .i64 (qn : Nat)) a) (hS : Stand w n gi gr go gp ca cc ans wr s cv qn) (hu : BlksV w (.slice ub bs.length cb) bs) (ht : tn < bs.length) (hk : kn < (bs.getD tn Blk.zero).ins.length) (hkl : (bs.getD tn Blk.zero).ins.length ≤ 1000) (hi : (bs.getD tn Blk.zero).ins.getD kn Ins.zero = i) (hok : OkI r n i) (hkind : i.k = 6) (h0 : s.left ≠ 0) (hans : IntsV w (.slice ca ans.length cc) ans)
    (hgo : ∀ (a' : Act) (W : World) (s' : St) (cv' : Value) (qn' : Nat), one r i s = .inl s' → ActP (.slice ub bs.length cb) (.int .i64 r) (P0 gi) (P0 gr) (.slice (some ⟨gp, 0, none⟩) n n) (P0 go) (.int .i64 (tn : Nat)) (.int .i64 (kn + 1 : Nat)) (.int .i64 (qn' : Nat)) a' → Stand w n gi gr go gp ca cc ans W s' cv' qn' → Q .normal a' W) (hret : ∀ (a' : Act) (W : World) (o : Out), one r i s = .inr o → FinP w gr a' W o → Q .ret a' W) : body14.wp Try.prog Q a wr := by
  obtain ⟨ρ, rfl⟩ := hA.lit
  obtain ⟨gb, off, ib, ioff, icap, ua, an, ac, rfl, hc0, hci, hua⟩ := next_ins hu hS.below ht hk
  rw [hi] at hci hua
  obtain ⟨k, op, d, x, b, nn, args⟩ := i
  obtain ⟨c0, c1, c2, c3, c4, c5, c6⟩ := hci
  simp only at c0 c1 c2 c3 c4 c5 c6 hua hkind
  subst hkind
  obtain ⟨dn, hd, hd2⟩ := nat_of (hok.d (by simp) (by simp))
  simp only at hd
  subst hd
  obtain ⟨il, hil⟩ : ∃ il, (bs.getD tn Blk.zero).ins.length = il := ⟨_, rfl⟩
  rw [hil] at hk hkl hc0
  have htl : (tn : Int) < (bs.length : Int) := by omega
  have hkl2 : (kn : Int) < (il : Int) := by omega
  have hkl3 : (kn : Int) < 1000 := by omega
  have HGO := hide hgo
  have HRET := hide hret
  have HS := hide hS
  have HUA := hide hua
  obtain ⟨hal3, hargs⟩ := hok.args (by simp)
  simp only at hal3 hargs
  have han : an = args.length := by obtain ⟨ao, cap, e⟩ := hua.slice; simp only [Value.slice.injEq] at e; exact e.2.1
  subst han
  have hBx := bel1' wr (.cells #[.int .u8 6, .int .u8 op, .int .i64 dn, .int .i64 x, .int .i64 b, .int .i64 nn, .slice ua args.length ac] 65)
  have hbox : (wr.alloc (.cells #[.int .u8 6, .int .u8 op, .int .i64 dn, .int .i64 x, .int .i64 b, .int .i64 nn, .slice ua args.length ac] 65)).heap[wr.heap.size]? = some (Obj.cells (rowI ⟨6, op, dn, x, b, nn, args⟩ (.slice ua args.length ac)) 65 (0, 0)) := heap_alloc_new wr _
  obtain ⟨b0, b1, b2, b3, b4, b5, b6⟩ := rowI_cells hbox
  simp only [Nat.zero_add] at b0 b1 b2 b3 b4 b5 b6
  have hR1 := hS.run.of hBx
  have hM1 : Mp w.heap.size go gp wr (wr.alloc (.cells #[.int .u8 6, .int .u8 op, .int .i64 dn, .int .i64 x, .int .i64 b, .int .i64 nn, .slice ua args.length ac] 65)) := Mp.of hBx hS.run.size.1
  have c67 := hR1.c67
  have f67 := hR1.fr 67
  obtain ⟨hRp, hMp⟩ := hR1.spend h0
  have hboxp := hMp.keeps _ _ _ _ rfl hbox
  obtain ⟨p0, p1, p2, p3, p4, p5, p6⟩ := rowI_cells hboxp
  simp only [Nat.zero_add] at p0 p1 p2 p3 p4 p5 p6
  have hl0 : 0 < (s.left : Int) := by omega
  have hl1 : (s.left : Int) ≤ 1048576 := by have := hS.sum; omega
  have hlz : ((s.left : Int) == 0) = false := by rw [beq_eq_false_iff_ne]; omega
  have hone : one r ⟨6, op, dn, x, b, nn, args⟩ s = act r ⟨6, op, dn, x, b, nn, args⟩ { s with left := s.left - 1 } := by rw [one_paid (by simp [free])]; unfold paid; rw [if_neg h0]; rfl
  have HONE := hide hone
  clear hone
  have HAL := hide (And.intro hal3 hargs)
  have hal4 : (args.length : Int) ≤ 3 := by omega
  have HAN := hide hans
  have HBX := hide hboxp
  have hsz1 : ((wr.alloc (.cells #[.int .u8 6, .int .u8 op, .int .i64 dn, .int .i64 x, .int .i64 b, .int .i64 nn, .slice ua args.length ac] 65)).setCell ⟨go, 67, none⟩ (.int .i64 ((s.left : Int) - 1))).heap.size = wr.heap.size + 1 := by simp
  clear hal3 hargs hans
  clear hgo hret hS hA hu hua hi hok hil hBx hbox hboxp h0
  unfold body14
  simp only [P0]
  go_wp2_with fail
  clear c0 c1 c2 c3 c4 c5 c6 hc0 b0 b1 b2 b3 b4 b5 b6 c67 f67
  generalize (wr.alloc (.cells #[.int .u8 6, .int .u8 op, .int .i64 dn, .int .i64 x, .int .i64 b, .int .i64 nn, .slice ua args.length ac] 65)).setCell ⟨go, 67, none⟩ (.int .i64 ((s.left : Int) - 1)) = W1 at *
  generalize wr.alloc (.cells #[.int .u8 6, .int .u8 op, .int .i64 dn, .int .i64 x, .int .i64 b, .int .i64 nn, .slice ua args.length ac] 65) = W0 at *
  rw [← hsz1]
  have hM2 := hM1.trans hMp
  have hgb1 : wr.heap.size < W1.heap.size := by omega
  generalize wr.heap.size = gb1 at *
  have HM2 := hide hM2
  have HBW : Hid (Below w.heap.size w W1) := HS.out.below.trans hM2.below
  have HRP := hide hRp
  obtain ⟨gc, hgc⟩ : ∃ gc, W1.heap.size = gc := ⟨_, rfl⟩
  have hr0 : (W1.alloc (.cells #[.int .i64 nn, .slice none 0 0] 75)).heap[gc]? = some (Obj.cells #[.int .i64 nn, .slice none 0 0] 75 (0, 0)) := by rw [← hgc]; exact heap_alloc_new W1 _
  have hA0 : Below gc W1 (W1.alloc (.cells #[.int .i64 nn, .slice none 0 0] 75)) := by rw [← hgc]; exact bel1' W1 _
  rw [hgc] at hgb1 ⊢
  have hgpc : gp < gc := by have := hRp.size; omega
  have hBgc : w.heap.size ≤ gc := by have := hRp.size; omega
  have hlen := HS.out.len
  have HGC := hide hgc
  have HREL := hide (And.intro hr0 hA0)
  have HP := hide (And.intro p2 p6)
  clear hr0 hA0 hgc hsz1 p0 p1 p2 p3 p4 p5 p6 hM1 hMp hM2 hRp hR1
  go_loopw [22] (fun iv wr => ∃ (j : Nat) (ua : Value), j ≤ args.length ∧ iv = .int .i64 j ∧ wr.heap[gc]? = some (Obj.cells #[.int .i64 nn, ua] 75 (0, 0)) ∧ NumsO gc wr ua ((args.take j).map (pg s.p)) ∧ Below gc W1 wr) (fun iv _ => args.length - (intOf iv).toNat)
  case atStart => exact ⟨0, _, by omega, rfl, HREL.out.1, NumsO.nil _ _, HREL.out.2⟩
  case round =>
    rename World => wq
    obtain ⟨j, ua', hj, rfl, hr, hO, hBr⟩ := hrel
    have hBw : Below W1.heap.size W1 wq := by rw [HGC.out]; exact hBr
    have hgs : gc ≤ wq.heap.size := by rw [← HGC.out]; exact hBr.size
    have p6 : wq.cell? ⟨gb1, 6, none⟩ = some (.slice ua args.length ac) := (hBr.cell (p := ⟨gb1, 6, none⟩) hgb1).trans HP.out.2
    by_cases hlt : j < args.length
    · have hu1 := HUA.out.below (HBW.out.trans (hBw.mono (by rw [HGC.out]; exact hBgc)))
      obtain ⟨ab, aoff, rfl, hcell⟩ := IntsV.at hu1 j hlt
      obtain ⟨yn, hy, hy2⟩ := nat_of (HAL.out.2 (args.getD j 0) (by simp [List.getElem?_eq_getElem hlt]))
      have HT := hide (take_snoc s args j hlt)
      rw [hy] at hcell HT
      have hRr := HRP.out.of hBw
      obtain ⟨xv, hxv⟩ : ∃ xv, pg s.p (yn : Int) = xv := ⟨_, rfl⟩
      rw [hxv] at HT
      have hxl : ((args.take j).map (pg s.p)).length ≤ 1000000 := by simp; omega
      generalize (args.take j).map (pg s.p) = xs at *
      obtain ⟨ua1, uc1, rfl⟩ := hO.v.slice
      obtain ⟨WA, hWA⟩ : ∃ WA, (wq.alloc (.cells #[.int .i64 xv] 2)).drew = WA := ⟨_, rfl⟩
      have hBA : Below wq.heap.size wq WA := by rw [← hWA]; exact (bel1' wq _).drew
      have hrA : WA.heap[wq.heap.size]? = some (Obj.cells #[.int .i64 xv] 2 (0, 0)) := by rw [← hWA]; exact heap_alloc_new wq _
      have hOA : NumsO gc WA _ xs := hO.kept fun k e => hBA.block k (hO.own k e).2.1
      obtain ⟨va, vn, vc, W2, hrun, hO2, hg2⟩ := run_app2 WA hOA (h := wq.heap.size) (x := xv) (by rw [cell_of_row _ _ _ _ _ _ hrA]; rfl) hxl (Nat.le_trans hgs hBA.size)
      have hrow2 : W2.heap[gc]? = some (Obj.cells #[.int .i64 nn, .slice ua1 xs.length uc1] 75 (0, 0)) := by
        rw [hg2.block _ (Nat.lt_of_lt_of_le (Array.getElem?_eq_some_iff.1 hr).1 hBA.size) (fun e => ?_), hBA.block _ (Array.getElem?_eq_some_iff.1 hr).1]
        · exact hr
        · obtain ⟨_, _, cs, hcs⟩ := hO.own _ e.symm
          rw [hr] at hcs
          simp at hcs
      have hB2 : Below gc W1 W2 := (bel_to hBr hBA hgs).grown hg2 (Nat.le_trans hgs hBA.size) fun k e => (hO.own k e).1
      have hc1 : wq.cell? ⟨gc, 1, none⟩ = some (.slice ua1 xs.length uc1) := by rw [cell_of_row _ _ _ _ _ _ hr]; rfl
      have hcA : WA.cell? ⟨gc, 1, none⟩ = some (.slice ua1 xs.length uc1) := cell_below hBA hc1
      have hc2 : W2.cell? ⟨gc, 1, none⟩ = some (.slice ua1 xs.length uc1) := by rw [cell_of_row _ _ _ _ _ _ hrow2]; rfl
      have hf2 : W2.frozen? ⟨gc, 1, none⟩ = false := frozen_of_row _ _ _ _ _ hrow2
      have hrow3 : (W2.setCell ⟨gc, 1, none⟩ (.slice va vn vc)).heap[gc]? = some (Obj.cells #[.int .i64 nn, .slice va vn vc] 75 (0, 0)) := by
        rw [heap_setCell_same W2 _ 1 _ _ _ hrow2]
        rfl
      have hO3 : NumsO gc (W2.setCell ⟨gc, 1, none⟩ (.slice va vn vc)) (.slice va vn vc) (xs ++ [xv]) := hO2.kept fun k e => Below.heap_setCell _ _ _ _ (fun e2 => by
        simp only at e2
        subst e2
        obtain ⟨_, _, cs, hcs⟩ := hO2.own _ e
        rw [hrow2] at hcs
        simp at hcs)
      have hB3 : Below gc W1 (W2.setCell ⟨gc, 1, none⟩ (.slice va vn vc)) := hB2.setCell (Nat.le_refl _) _
      have HREL3 := hide (And.intro hrow3 (And.intro hO3 hB3))
      have HF := hide (And.intro hc1 (And.intro hcA (And.intro hc2 hf2)))
      have hyl : (yn : Int) < (n : Int) := by omega
      have HRUN := hide (And.intro (hRr.pp (j := yn) (by simp only [hlen]; exact hy2) hxv) hrun)
      have hlt' : (j : Int) < (args.length : Int) := by omega
      clear hBw hgs hrow3 hO3 hB3 hB2 hrow2 hg2 hO2 hOA hrA hBA hO hr hBr hu1 hRr hc1 hcA hc2 hf2 hrun hxl hxv hlen
      go_wp2_with fail
      refine py43_ok (gb := gb1) (gp := gp) (gc := gc) (n := n) rfl rfl rfl rfl rfl HF.out.1 HF.out.2.1 HF.out.2.2.1 p6 hcell HRUN.out.1 HF.out.2.2.2 rfl hWA hyl hlt' HRUN.out.2 rfl ?_
      intro q
      simp [overlay, dstsOf, ops_py43_ok]
      go_wp2_with fail
      go_roundw
      case rel => exact ⟨j + 1, _, by omega, by go_num, HREL3.out.1, by rw [HT.out]; exact HREL3.out.2.1, HREL3.out.2.2⟩
      case measure => simp [intOf]; omega
    · obtain rfl : j = args.length := by omega
      rw [List.take_length] at hO
      have hRr := HRP.out.of hBw
      obtain ⟨ua1, uc1, rfl⟩ := hO.v.slice
      generalize (args.map (pg s.p)).length = un at *
      obtain ⟨ps, q1, q2, q3⟩ := hRr.calls
      have hpl : ps.length ≤ 2000000 := by
        have := congrArg List.length q1
        have := HS.out.sum
        simp at *
        omega
      obtain ⟨WA, hWA⟩ : ∃ WA, wq.alloc (.cells #[.int .i64 nn, .slice ua1 un uc1] 75) = WA := ⟨_, rfl⟩
      have hBA : Below wq.heap.size wq WA := by rw [← hWA]; exact bel1' wq _
      have hrA : WA.heap[wq.heap.size]? = some (Obj.cells #[.int .i64 nn, .slice ua1 un uc1] 75 (0, 0)) := by rw [← hWA]; exact heap_alloc_new wq _
      have hcA : WA.ownsRow w.heap.size 75 2 cv ps.length (cellsC ps) := owns_below q2 hBA
      have hOA : NumsO gc WA (.slice ua1 un uc1) (args.map (pg s.p)) := hO.kept fun k e => hBA.block k (hO.own k e).2.1
      obtain ⟨va, vn, vc, W2, hrun, hO2, hg2⟩ := run_app58 WA hcA hrA hpl (Nat.le_trans hRr.size.1 hBA.size)
      obtain ⟨⟨hR3, hM3⟩, hg1⟩ := hRr.called (c := ⟨nn, args.map (pg s.p)⟩) hBA q1 q3 hcA hO2 hg2 hOA hgpc hBgc
      have hk0 : wq.cell? ⟨gc, 0, none⟩ = some (.int .i64 nn) := by rw [cell_of_row _ _ _ _ _ _ hr]; rfl
      have hk1 : wq.cell? ⟨gc, 1, none⟩ = some (.slice ua1 un uc1) := by rw [cell_of_row _ _ _ _ _ _ hr]; rfl
      have hk2 := hRr.c2
      have hM4 : Mp w.heap.size go gp W1 (W2.setCell ⟨go, 2, none⟩ (.slice va vn vc)) := (Mp.of hBw HRP.out.size.1).trans hM3
      have hg11 := hg1.1
      have hg12 := hg1.2
      rw [← hWA] at hrun
      have HRUN := hide hrun
      clear hrun
      have p2q : (W2.setCell ⟨go, 2, none⟩ (.slice va vn vc)).cell? ⟨gb1, 2, none⟩ = some (.int .i64 (dn : Nat)) := by
        have h1 := hM4.keeps _ _ _ _ rfl HBX.out
        obtain ⟨_, _, e2, _⟩ := rowI_cells h1
        exact e2
      obtain ⟨hR5, hM5⟩ := hR3.place dn 0
      have r0 := hR3.pc (j := dn) (by simp only [hlen]; exact hd2)
      have r1 := hR3.pf dn
      have hdl : (dn : Int) < (n : Int) := by omega
      have hM6 := (HM2.out.trans hM4).trans hM5
      have hS5 : PlayAt w.heap.size go gp ((W2.setCell ⟨go, 2, none⟩ (.slice va vn vc)).setCell ⟨gp, dn, none⟩ (.int .i64 0)) 0 0 _ _ := hR5
      have hqn := HS.out.asked
      have hsum := HS.out.sum
      have hq1 : (qn : Int) ≤ 1048576 := by omega
      have i2 : ((W2.setCell ⟨go, 2, none⟩ (.slice va vn vc)).setCell ⟨gp, dn, none⟩ (.int .i64 0)).cell? ⟨gi, 2, none⟩ = some (.slice ca ans.length cc) := by
        obtain ⟨cs, hb, hb2⟩ := HS.out.box
        rw [cell_of_row _ _ _ _ _ _ (hM6.keeps _ _ _ _ rfl hb), hb2]
      have p25 : ((W2.setCell ⟨go, 2, none⟩ (.slice va vn vc)).setCell ⟨gp, dn, none⟩ (.int .i64 0)).cell? ⟨gb1, 2, none⟩ = some (.int .i64 (dn : Nat)) := by
        have h1 := (hM4.trans hM5).keeps _ _ _ _ rfl HBX.out
        obtain ⟨_, _, e2, _⟩ := rowI_cells h1
        exact e2
      have hBA5 : Below w.heap.size w ((W2.setCell ⟨go, 2, none⟩ (.slice va vn vc)).setCell ⟨gp, dn, none⟩ (.int .i64 0)) := HS.out.below.trans hM6.below
      have HM6 := hide hM6
      have HR5 := hide hR5
      have HB5 := hide hBA5
      clear hM6 hM5 hM4 hM3 hR5 hS5 hR3 hBA5 hBA hrA hcA hOA hO2 hg2 hRr q1 q2 q3 hpl hO hr hBw hgs hBr hlt HREL hWA hg1 hqn hsum hlen
      by_cases hq : qn < ans.length
      · have hq2 : (qn : Int) < (ans.length : Int) := by omega
        have hA := HAN.out.below HB5.out
        obtain ⟨ab, aoff, rfl, hx0⟩ := IntsV.at hA qn hq
        obtain ⟨x0, hx00⟩ : ∃ x0, ans.getD qn 0 = x0 := ⟨_, rfl⟩
        rw [hx00] at hx0
        have HX0 := hide hx0
        have HXE : Hid (ans[qn]?.getD 0 = x0) := by show _ = _; rw [← hx00]; simp
        clear hA hx0 hx00
        go_wp2_with (refine wpList_appR (ux := cv) (uy := .slice (some ⟨wq.heap.size, 0, none⟩) 1 1) (V := .slice va vn vc) 34 rfl (.tmp 232) (.tmp 234) rfl rfl rfl rfl HRUN.out ?_)
        clear hk0 hk1 hk2 hg11 hg12 p2q r0 r1 p6
        generalize (W2.setCell ⟨go, 2, none⟩ (.slice va vn vc)).setCell ⟨gp, dn, none⟩ (.int .i64 0) = W5 at *
        have hdr : Below W5.heap.size W5 W5.drew := (Below.refl _ _).drew
        have hlen := HS.out.len
        obtain ⟨hR7, hM7⟩ := (HR5.out.of hdr).place dn x0
        have hR8 := hR7
        simp only [List.set_set] at hR8
        refine py47_ok (gi := gi) (gp := gp) (gb := gb1) (n := n) (j := qn) rfl rfl rfl rfl rfl p25 i2 HX0.out (HR5.out.pc (by simp [hlen]; exact hd2)) (HR5.out.pf dn) hdl hq2 ?_
        intro q
        simp [overlay, dstsOf, ops_py47_ok]
        clear i2 p25
        go_wp2_with fail
        refine HGO.out _ _ { s with p := s.p.set dn x0, left := s.left - 1, calls := s.calls ++ [⟨nn, args.map (pg s.p)⟩], ans := s.ans.tail } _ (qn + 1) ?_ ⟨rfl, rfl, rfl, rfl, rfl, rfl, rfl, rfl, rfl, rfl, rfl⟩ (HS.out.move (hR8.ans _) ((HM6.out.trans (Mp.of hdr HR5.out.size.1)).trans hM7) (by simp [HS.out.ans]) (by have := HS.out.asked; simp; exact this) (by simp; exact HS.out.len) (by have := HS.out.sum; simp; omega))
        rw [HONE.out]
        simp [act, pst, HS.out.ans, HXE.out, List.headD_eq_head?_getD]
      · have hq2 : (ans.length : Int) ≤ (qn : Int) := by omega
        go_wp2_with (refine wpList_appR (ux := cv) (uy := .slice (some ⟨wq.heap.size, 0, none⟩) 1 1) (V := .slice va vn vc) 34 rfl (.tmp 232) (.tmp 234) rfl rfl rfl rfl HRUN.out ?_)
        clear hk0 hk1 hk2 hg11 hg12 p2q r0 r1 p6
        generalize (W2.setCell ⟨go, 2, none⟩ (.slice va vn vc)).setCell ⟨gp, dn, none⟩ (.int .i64 0) = W5 at *
        have hnil : ans.drop qn = [] := List.drop_eq_nil_of_le (by omega)
        refine HGO.out _ _ { s with p := s.p.set dn 0, left := s.left - 1, calls := s.calls ++ [⟨nn, args.map (pg s.p)⟩], ans := s.ans.tail } _ (qn + 1) ?_ ⟨rfl, rfl, rfl, rfl, rfl, rfl, rfl, rfl, rfl, rfl, rfl⟩ (HS.out.move (HR5.out.ans _) HM6.out (by simp [HS.out.ans]) (by have := HS.out.asked; simp; exact this) (by simp; exact HS.out.len) (by have := HS.out.sum; simp; omega))
        rw [HONE.out]
        simp [act, pst, HS.out.ans, hnil]
end Go.Proofs.Ytepmbkiojpffpaa
namespace Go.Proofs.Ytepmbkiojpffpaa
open Go Go.RowKit Ir

set_option maxHeartbeats 1000000 in
set_option maxRecDepth 100000 in
theorem body_e0 {Q : Exit → Act → World → Prop} {a : Act} {w wr : World} {ub : Option Addr} {cb : Nat} {bs : List Blk} {r : Int} {n gi gr go gp : Nat} {ca : Option Addr} {cc : Nat} {ans : List Int} {s : St} {cv : Value} {tn kn qn : Nat} {e : En} (hA : ActP (.slice ub bs.length cb) (.int .i64 r) (P0 gi) (P0 gr) (.slice (some ⟨gp, 0, none⟩) n n) (P0 go) (.int .i64 (tn : Nat)) (.int .i64 (kn : Nat)) (.int .i64 (qn : Nat)) a) (hS : Stand w n gi gr go gp ca cc ans wr s cv qn) (hu : BlksV w (.slice ub bs.length cb) bs) (ht : tn < bs.length) (hk : kn = (bs.getD tn Blk.zero).ins.length) (hkl : (bs.getD tn Blk.zero).ins.length ≤ 1000) (hi : (bs.getD tn Blk.zero).e = e) (h0 : s.left = 0)
    (hgo : ∀ (a' : Act) (W : World) (s' : St) (t' : Nat), fini e s = .inl ((t' : Int), s') → ActP (.slice ub bs.length cb) (.int .i64 r) (P0 gi) (P0 gr) (.slice (some ⟨gp, 0, none⟩) n n) (P0 go) (.int .i64 (t' : Nat)) (.int .i64 (0 : Nat)) (.int .i64 (qn : Nat)) a' → Stand w n gi gr go gp ca cc ans W s' cv qn → Q .normal a' W) (hret : ∀ (a' : Act) (W : World) (o : Out), fini e s = .inr o → FinP w gr a' W o → Q .ret a' W) : body14.wp Try.prog Q a wr := by
  obtain ⟨ρ, rfl⟩ := hA.lit
  obtain ⟨gb, off, ia, icap, rfl, hce⟩ := next_end hu hS.below ht
  rw [hi] at hce
  obtain ⟨il, hil⟩ : ∃ il, (bs.getD tn Blk.zero).ins.length = il := ⟨_, rfl⟩
  rw [hil] at hk hkl hce
  subst hk
  have hc0 := hce.c0
  have htl : (tn : Int) < (bs.length : Int) := by omega
  have hkl3 : (kn : Int) ≤ 1000 := by omega
  have HGO := hide hgo
  have HRET := hide hret
  have HS := hide hS
  have c67 := hS.run.c67
  rw [h0] at c67
  have c00 := hS.run.c0
  have f00 := hS.run.fr 0
  obtain ⟨hRh, hMh⟩ := hS.run.halt 3
  obtain ⟨Z, hz, hzs⟩ := HS.out.res
  obtain ⟨OL, hOL, horow, hOLl, hOne⟩ := (hRh).out
  have hzW := (hMh).outs _ _ HS.out.ne.1 hz
  have HO := hide (And.intro horow (And.intro hOLl (And.intro hzW (And.intro hOne (And.intro hzs (And.intro (HS.out.below.trans (hMh).below) HS.out.ne.2))))))
  have HOL := hide hOL
  clear hz hzs hOL horow hOLl hzW hOne
  have hone : fini e s = .inr ⟨3, 0, s.calls, s.mem, s.left⟩ := by unfold fini paid; rw [if_pos h0, h0]; rfl
  have HONE := hide hone
  have HRH := hide hRh
  clear hone hRh hMh h0 hce hgo hret hS hA hu hi hil
  unfold body14
  simp only [P0]
  go_wp2_with (first | (refine wpList_load_row rfl 37 (.tmp 13) rfl go rfl 37 OL.toArray (0, 0) _ HO.out.1 Try.underlying37 rfl (by simp only [List.size_toArray, HO.out.2.1]; exact size37) ?_) | (refine wpList_store_whole rfl 37 (.tmp 10) (.tmp 261) rfl gr 37 Z OL.toArray rfl rfl HO.out.2.2.1 (by simp only [List.size_toArray, HO.out.2.1]; exact size37) (by simp only [List.size_toArray, HO.out.2.1]; exact HO.out.2.2.2.2.1) HO.out.2.2.2.1 w.heap.size w HO.out.2.2.2.2.2.1 HO.out.2.2.2.2.2.2 ?_; intro W7 hrow7 hgr7 hbel7))
  exact HRET.out _ _ _ HONE.out (HS.out.done HRH.out HO.out.2.2.1 HOL.out hrow7.out hgr7.out hbel7.out rfl rfl)
set_option maxHeartbeats 1000000 in
set_option maxRecDepth 100000 in
theorem body_e3 {Q : Exit → Act → World → Prop} {a : Act} {w wr : World} {ub : Option Addr} {cb : Nat} {bs : List Blk} {r : Int} {n gi gr go gp : Nat} {ca : Option Addr} {cc : Nat} {ans : List Int} {s : St} {cv : Value} {tn kn qn : Nat} {e : En} {nb : Nat} (hA : ActP (.slice ub bs.length cb) (.int .i64 r) (P0 gi) (P0 gr) (.slice (some ⟨gp, 0, none⟩) n n) (P0 go) (.int .i64 (tn : Nat)) (.int .i64 (kn : Nat)) (.int .i64 (qn : Nat)) a) (hS : Stand w n gi gr go gp ca cc ans wr s cv qn) (hu : BlksV w (.slice ub bs.length cb) bs) (ht : tn < bs.length) (hk : kn = (bs.getD tn Blk.zero).ins.length) (hkl : (bs.getD tn Blk.zero).ins.length ≤ 1000) (hi : (bs.getD tn Blk.zero).e = e) (hok : OkE n nb e) (h0 : s.left ≠ 0) (hkind : e.k = 3)
    (hgo : ∀ (a' : Act) (W : World) (s' : St) (t' : Nat), fini e s = .inl ((t' : Int), s') → ActP (.slice ub bs.length cb) (.int .i64 r) (P0 gi) (P0 gr) (.slice (some ⟨gp, 0, none⟩) n n) (P0 go) (.int .i64 (t' : Nat)) (.int .i64 (0 : Nat)) (.int .i64 (qn : Nat)) a' → Stand w n gi gr go gp ca cc ans W s' cv qn → Q .normal a' W) (hret : ∀ (a' : Act) (W : World) (o : Out), fini e s = .inr o → FinP w gr a' W o → Q .ret a' W) : body14.wp Try.prog Q a wr := by
  obtain ⟨ρ, rfl⟩ := hA.lit
  obtain ⟨gb, off, ia, icap, rfl, hce⟩ := next_end hu hS.below ht
  rw [hi] at hce
  obtain ⟨il, hil⟩ : ∃ il, (bs.getD tn Blk.zero).ins.length = il := ⟨_, rfl⟩
  rw [hil] at hk hkl hce
  subst hk
  have hc0 := hce.c0
  have htl : (tn : Int) < (bs.length : Int) := by omega
  have hkl3 : (kn : Int) ≤ 1000 := by omega
  have HGO := hide hgo
  have HRET := hide hret
  have HS := hide hS
  have c67 := hS.run.c67
  obtain ⟨k, x, to, el⟩ := e
  have f67 := hS.run.fr 67
  obtain ⟨hRp, hMp⟩ := hS.run.spend h0
  have hl0 : 0 < (s.left : Int) := by omega
  have hl1 : (s.left : Int) ≤ 1048576 := by have := hS.sum; omega
  have hlz : ((s.left : Int) == 0) = false := by rw [beq_eq_false_iff_ne]; omega
  have hce2 : BlkCells (wr.setCell ⟨go, 67, none⟩ (.int .i64 ((s.left : Int) - 1))) gb (off + tn * 5) (.slice ia kn icap) ⟨k, x, to, el⟩ := by
    obtain ⟨gb', off', ia', icap', e1, hce'⟩ := next_end hu (hS.below.trans hMp.below) ht
    simp only [Option.some.injEq, Addr.mk.injEq, and_true] at e1
    obtain ⟨rfl, rfl⟩ := e1
    rw [hi] at hce'
    have h1 := hce'.c0
    obtain ⟨_, d1, d2, d3, d4⟩ := hce'
    have hc := hce.c0
    have hb : gb < w.heap.size := by
      obtain ⟨gb2, off2, e2, ui, hcells, hui⟩ := SlV.at hu tn ht
      simp only [Option.some.injEq, Addr.mk.injEq, and_true] at e2
      rw [e2.1]
      exact World.block_lt_of_cell? w _ hcells.c0
    exact ⟨(World.cell?_of_block (a := ⟨gb, off + tn * 5, none⟩) (hMp.below.block gb hb)).trans hc, d1, d2, d3, d4⟩
  obtain ⟨_, e1, e2, e3, e4⟩ := hce2
  simp only at e1 e2 e3 e4 hkind
  subst hkind
  have hone : fini ⟨3, x, to, el⟩ s = leave ⟨3, x, to, el⟩ { s with left := s.left - 1 } := by unfold fini paid; rw [if_neg h0]; rfl
  have HONE := hide hone
  have hBx := bel1' (wr.setCell ⟨go, 67, none⟩ (.int .i64 ((s.left : Int) - 1))) (bxE ⟨3, x, to, el⟩)
  obtain ⟨b0, b1, b2, b3⟩ := bxE_cells (wr.setCell ⟨go, 67, none⟩ (.int .i64 ((s.left : Int) - 1))) ⟨3, x, to, el⟩
  have hR1 := hRp.of hBx
  have hM1 := hMp.trans (Mp.of hBx hRp.size.1)
  simp only [bxE] at b0 b1 b2 b3 hR1 hM1
  have hszz : (wr.setCell ⟨go, 67, none⟩ (.int .i64 ((s.left : Int) - 1))).heap.size = wr.heap.size := by simp
  rw [hszz] at b0 b1 b2 b3
  have hlen := hS.len
  obtain ⟨xn, hx, hx2⟩ := nat_of (hok.a (by simp))
  simp only at hx
  subst hx
  obtain ⟨xv, hxv⟩ : ∃ xv, pg s.p (xn : Int) = xv := ⟨_, rfl⟩
  have hxl : (xn : Int) < (n : Int) := by omega
  have hpp := hR1.pp (j := xn) (by simp only [hlen]; exact hx2) hxv
  have HPP := hide hpp
  have hbx := heap_alloc_new (wr.setCell ⟨go, 67, none⟩ (.int .i64 ((s.left : Int) - 1))) (bxE ⟨3, xn, to, el⟩)
  rw [hszz] at hbx
  simp only [bxE] at hbx
  have HBX := hide hbx
  clear hpp hbx
  clear hgo hret hS hA hu hi hok hil hBx hone h0 hce hRp hMp hszz
  unfold body14
  simp only [P0]
  go_wp2_with fail
  clear hc0 c67 f67 e1 e2 e3 e4
  generalize (wr.setCell ⟨go, 67, none⟩ (.int .i64 ((s.left : Int) - 1))).alloc (.cells #[.int .u8 3, .int .i64 (xn : Nat), .int .i64 to, .int .i64 el] 58) = W1 at *
  generalize wr.heap.size = ge at *
  have hdr : Below W1.heap.size W1 W1.drew := (Below.refl _ _).drew
  have hR2 := hR1.of hdr
  have hM2 := hM1.trans (Mp.of hdr hR1.size.1)
  obtain ⟨hR3, hM3⟩ := hR2.halt 1
  obtain ⟨hR4, hM4⟩ := hR3.gave xv
  have hM9 := (hM2.trans hM3).trans hM4
  have hb1 : (W1.drew.setCell ⟨go, 0, none⟩ (.int .i64 1)).cell? ⟨ge, 1, none⟩ = some (.int .i64 (xn : Nat)) := by
    rw [cell_of_row _ _ _ _ _ _ (hM3.keeps _ _ _ _ rfl HBX.out)]
    rfl
  refine py55_ok (go := go) (gp := gp) (ge := ge) (n := n) rfl rfl rfl rfl b1 hb1 HPP.out (hR3.pp (j := xn) (by simp only [hlen]; exact hx2) hxv) hR1.c0 hR3.c1 (hR1.fr 0) (hR3.fr 1) hxl rfl rfl ?_
  intro q
  simp [overlay, dstsOf, ops_py55_ok]
  obtain ⟨Z, hz, hzs⟩ := HS.out.res
  obtain ⟨OL, hOL, horow, hOLl, hOne⟩ := (hR4).out
  have hzW := (hM9).outs _ _ HS.out.ne.1 hz
  have HO := hide (And.intro horow (And.intro hOLl (And.intro hzW (And.intro hOne (And.intro hzs (And.intro (HS.out.below.trans (hM9).below) HS.out.ne.2))))))
  have HOL := hide hOL
  clear hz hzs hOL horow hOLl hzW hOne
  have HRH := hide hR4
  clear hR4 hM4 hR3 hM3 hM9 hR2 hM2 hR1 hM1 hdr b0 b1 b2 b3 hb1 HPP
  go_wp2_with (first | (refine wpList_load_row rfl 37 (.tmp 13) rfl go rfl 37 OL.toArray (0, 0) _ HO.out.1 Try.underlying37 rfl (by simp only [List.size_toArray, HO.out.2.1]; exact size37) ?_) | (refine wpList_store_whole rfl 37 (.tmp 10) (.tmp 281) rfl gr 37 Z OL.toArray rfl rfl HO.out.2.2.1 (by simp only [List.size_toArray, HO.out.2.1]; exact size37) (by simp only [List.size_toArray, HO.out.2.1]; exact HO.out.2.2.2.2.1) HO.out.2.2.2.1 w.heap.size w HO.out.2.2.2.2.2.1 HO.out.2.2.2.2.2.2 ?_; intro W7 hrow7 hgr7 hbel7))
  refine HRET.out _ _ ⟨1, xv, s.calls, s.mem, s.left - 1⟩ ?_ (HS.out.done HRH.out HO.out.2.2.1 HOL.out hrow7.out hgr7.out hbel7.out rfl rfl)
  rw [HONE.out]
  simp [leave, hxv]
set_option maxHeartbeats 1000000 in
set_option maxRecDepth 100000 in
theorem body_e1 {Q : Exit → Act → World → Prop} {a : Act} {w wr : World} {ub : Option Addr} {cb : Nat} {bs : List Blk} {r : Int} {n gi gr go gp : Nat} {ca : Option Addr} {cc : Nat} {ans : List Int} {s : St} {cv : Value} {tn kn qn : Nat} {e : En} {nb : Nat} (hA : ActP (.slice ub bs.length cb) (.int .i64 r) (P0 gi) (P0 gr) (.slice (some ⟨gp, 0, none⟩) n n) (P0 go) (.int .i64 (tn : Nat)) (.int .i64 (kn : Nat)) (.int .i64 (qn : Nat)) a) (hS : Stand w n gi gr go gp ca cc ans wr s cv qn) (hu : BlksV w (.slice ub bs.length cb) bs) (ht : tn < bs.length) (hk : kn = (bs.getD tn Blk.zero).ins.length) (hkl : (bs.getD tn Blk.zero).ins.length ≤ 1000) (hi : (bs.getD tn Blk.zero).e = e) (hok : OkE n nb e) (h0 : s.left ≠ 0) (hkind : e.k = 1)
    (hgo : ∀ (a' : Act) (W : World) (s' : St) (t' : Nat), fini e s = .inl ((t' : Int), s') → ActP (.slice ub bs.length cb) (.int .i64 r) (P0 gi) (P0 gr) (.slice (some ⟨gp, 0, none⟩) n n) (P0 go) (.int .i64 (t' : Nat)) (.int .i64 (0 : Nat)) (.int .i64 (qn : Nat)) a' → Stand w n gi gr go gp ca cc ans W s' cv qn → Q .normal a' W) (hret : ∀ (a' : Act) (W : World) (o : Out), fini e s = .inr o → FinP w gr a' W o → Q .ret a' W) : body14.wp Try.prog Q a wr := by
  obtain ⟨ρ, rfl⟩ := hA.lit
  obtain ⟨gb, off, ia, icap, rfl, hce⟩ := next_end hu hS.below ht
  rw [hi] at hce
  obtain ⟨il, hil⟩ : ∃ il, (bs.getD tn Blk.zero).ins.length = il := ⟨_, rfl⟩
  rw [hil] at hk hkl hce
  subst hk
  have hc0 := hce.c0
  have htl : (tn : Int) < (bs.length : Int) := by omega
  have hkl3 : (kn : Int) ≤ 1000 := by omega
  have HGO := hide hgo
  have HRET := hide hret
  have HS := hide hS
  have c67 := hS.run.c67
  obtain ⟨k, x, to, el⟩ := e
  have f67 := hS.run.fr 67
  obtain ⟨hRp, hMp⟩ := hS.run.spend h0
  have hl0 : 0 < (s.left : Int) := by omega
  have hl1 : (s.left : Int) ≤ 1048576 := by have := hS.sum; omega
  have hlz : ((s.left : Int) == 0) = false := by rw [beq_eq_false_iff_ne]; omega
  have hce2 : BlkCells (wr.setCell ⟨go, 67, none⟩ (.int .i64 ((s.left : Int) - 1))) gb (off + tn * 5) (.slice ia kn icap) ⟨k, x, to, el⟩ := by
    obtain ⟨gb', off', ia', icap', e1, hce'⟩ := next_end hu (hS.below.trans hMp.below) ht
    simp only [Option.some.injEq, Addr.mk.injEq, and_true] at e1
    obtain ⟨rfl, rfl⟩ := e1
    rw [hi] at hce'
    have h1 := hce'.c0
    obtain ⟨_, d1, d2, d3, d4⟩ := hce'
    have hc := hce.c0
    have hb : gb < w.heap.size := by
      obtain ⟨gb2, off2, e2, ui, hcells, hui⟩ := SlV.at hu tn ht
      simp only [Option.some.injEq, Addr.mk.injEq, and_true] at e2
      rw [e2.1]
      exact World.block_lt_of_cell? w _ hcells.c0
    exact ⟨(World.cell?_of_block (a := ⟨gb, off + tn * 5, none⟩) (hMp.below.block gb hb)).trans hc, d1, d2, d3, d4⟩
  obtain ⟨_, e1, e2, e3, e4⟩ := hce2
  simp only at e1 e2 e3 e4 hkind
  subst hkind
  have hone : fini ⟨1, x, to, el⟩ s = leave ⟨1, x, to, el⟩ { s with left := s.left - 1 } := by unfold fini paid; rw [if_neg h0]; rfl
  have HONE := hide hone
  have hBx := bel1' (wr.setCell ⟨go, 67, none⟩ (.int .i64 ((s.left : Int) - 1))) (bxE ⟨1, x, to, el⟩)
  obtain ⟨b0, b1, b2, b3⟩ := bxE_cells (wr.setCell ⟨go, 67, none⟩ (.int .i64 ((s.left : Int) - 1))) ⟨1, x, to, el⟩
  have hR1 := hRp.of hBx
  have hM1 := hMp.trans (Mp.of hBx hRp.size.1)
  simp only [bxE] at b0 b1 b2 b3 hR1 hM1
  have hszz : (wr.setCell ⟨go, 67, none⟩ (.int .i64 ((s.left : Int) - 1))).heap.size = wr.heap.size := by simp
  rw [hszz] at b0 b1 b2 b3
  have hlen := hS.len
  obtain ⟨tn', htn, htn2⟩ := nat_of (hok.to (by simp))
  simp only at htn
  subst htn
  have HR1 := hide hR1
  have HM1 := hide hM1
  clear hR1 hM1 hlen
  clear hgo hret hS hA hu hi hok hil hBx hone h0 hce hRp hMp hszz
  unfold body14
  simp only [P0]
  go_wp2_with fail
  refine HGO.out _ _ { s with left := s.left - 1 } tn' ?_ ⟨rfl, rfl, rfl, rfl, rfl, rfl, rfl, rfl, rfl, rfl, rfl⟩ (HS.out.move HR1.out HM1.out HS.out.ans HS.out.asked HS.out.len (by have := HS.out.sum; simp only; omega))
  rw [HONE.out]
  simp [leave]
set_option maxHeartbeats 1000000 in
set_option maxRecDepth 100000 in
theorem body_e2t {Q : Exit → Act → World → Prop} {a : Act} {w wr : World} {ub : Option Addr} {cb : Nat} {bs : List Blk} {r : Int} {n gi gr go gp : Nat} {ca : Option Addr} {cc : Nat} {ans : List Int} {s : St} {cv : Value} {tn kn qn : Nat} {e : En} {nb : Nat} (hA : ActP (.slice ub bs.length cb) (.int .i64 r) (P0 gi) (P0 gr) (.slice (some ⟨gp, 0, none⟩) n n) (P0 go) (.int .i64 (tn : Nat)) (.int .i64 (kn : Nat)) (.int .i64 (qn : Nat)) a) (hS : Stand w n gi gr go gp ca cc ans wr s cv qn) (hu : BlksV w (.slice ub bs.length cb) bs) (ht : tn < bs.length) (hk : kn = (bs.getD tn Blk.zero).ins.length) (hkl : (bs.getD tn Blk.zero).ins.length ≤ 1000) (hi : (bs.getD tn Blk.zero).e = e) (hok : OkE n nb e) (h0 : s.left ≠ 0) (hkind : e.k = 2) (hz0 : pg s.p e.a = 0)
    (hgo : ∀ (a' : Act) (W : World) (s' : St) (t' : Nat), fini e s = .inl ((t' : Int), s') → ActP (.slice ub bs.length cb) (.int .i64 r) (P0 gi) (P0 gr) (.slice (some ⟨gp, 0, none⟩) n n) (P0 go) (.int .i64 (t' : Nat)) (.int .i64 (0 : Nat)) (.int .i64 (qn : Nat)) a' → Stand w n gi gr go gp ca cc ans W s' cv qn → Q .normal a' W) (hret : ∀ (a' : Act) (W : World) (o : Out), fini e s = .inr o → FinP w gr a' W o → Q .ret a' W) : body14.wp Try.prog Q a wr := by
  obtain ⟨ρ, rfl⟩ := hA.lit
  obtain ⟨gb, off, ia, icap, rfl, hce⟩ := next_end hu hS.below ht
  rw [hi] at hce
  obtain ⟨il, hil⟩ : ∃ il, (bs.getD tn Blk.zero).ins.length = il := ⟨_, rfl⟩
  rw [hil] at hk hkl hce
  subst hk
  have hc0 := hce.c0
  have htl : (tn : Int) < (bs.length : Int) := by omega
  have hkl3 : (kn : Int) ≤ 1000 := by omega
  have HGO := hide hgo
  have HRET := hide hret
  have HS := hide hS
  have c67 := hS.run.c67
  obtain ⟨k, x, to, el⟩ := e
  have f67 := hS.run.fr 67
  obtain ⟨hRp, hMp⟩ := hS.run.spend h0
  have hl0 : 0 < (s.left : Int) := by omega
  have hl1 : (s.left : Int) ≤ 1048576 := by have := hS.sum; omega
  have hlz : ((s.left : Int) == 0) = false := by rw [beq_eq_false_iff_ne]; omega
  have hce2 : BlkCells (wr.setCell ⟨go, 67, none⟩ (.int .i64 ((s.left : Int) - 1))) gb (off + tn * 5) (.slice ia kn icap) ⟨k, x, to, el⟩ := by
    obtain ⟨gb', off', ia', icap', e1, hce'⟩ := next_end hu (hS.below.trans hMp.below) ht
    simp only [Option.some.injEq, Addr.mk.injEq, and_true] at e1
    obtain ⟨rfl, rfl⟩ := e1
    rw [hi] at hce'
    have h1 := hce'.c0
    obtain ⟨_, d1, d2, d3, d4⟩ := hce'
    have hc := hce.c0
    have hb : gb < w.heap.size := by
      obtain ⟨gb2, off2, e2, ui, hcells, hui⟩ := SlV.at hu tn ht
      simp only [Option.some.injEq, Addr.mk.injEq, and_true] at e2
      rw [e2.1]
      exact World.block_lt_of_cell? w _ hcells.c0
    exact ⟨(World.cell?_of_block (a := ⟨gb, off + tn * 5, none⟩) (hMp.below.block gb hb)).trans hc, d1, d2, d3, d4⟩
  obtain ⟨_, e1, e2, e3, e4⟩ := hce2
  simp only at e1 e2 e3 e4 hkind
  subst hkind
  have hone : fini ⟨2, x, to, el⟩ s = leave ⟨2, x, to, el⟩ { s with left := s.left - 1 } := by unfold fini paid; rw [if_neg h0]; rfl
  have HONE := hide hone
  have hBx := bel1' (wr.setCell ⟨go, 67, none⟩ (.int .i64 ((s.left : Int) - 1))) (bxE ⟨2, x, to, el⟩)
  obtain ⟨b0, b1, b2, b3⟩ := bxE_cells (wr.setCell ⟨go, 67, none⟩ (.int .i64 ((s.left : Int) - 1))) ⟨2, x, to, el⟩
  have hR1 := hRp.of hBx
  have hM1 := hMp.trans (Mp.of hBx hRp.size.1)
  simp only [bxE] at b0 b1 b2 b3 hR1 hM1
  have hszz : (wr.setCell ⟨go, 67, none⟩ (.int .i64 ((s.left : Int) - 1))).heap.size = wr.heap.size := by simp
  rw [hszz] at b0 b1 b2 b3
  have hlen := hS.len
  obtain ⟨xn, hx, hx2⟩ := nat_of (hok.a (by simp))
  simp only at hx
  subst hx
  obtain ⟨xv, hxv⟩ : ∃ xv, pg s.p (xn : Int) = xv := ⟨_, rfl⟩
  have hxl : (xn : Int) < (n : Int) := by omega
  obtain ⟨tn', htn, htn2⟩ := nat_of (hok.el (by simp))
  simp only at htn
  subst htn
  simp only at hz0
  rw [hxv] at hz0
  subst hz0
  have hpp := hR1.pp (j := xn) (by simp only [hlen]; exact hx2) hxv
  have HR1 := hide hR1
  have HM1 := hide hM1
  clear hR1 hM1 hlen
  have HXV := hide hxv
  clear hxv
  clear hgo hret hS hA hu hi hok hil hBx hone h0 hce hRp hMp hszz
  unfold body14
  simp only [P0]
  go_wp2_with fail
  refine HGO.out _ _ { s with left := s.left - 1 } tn' ?_ ⟨rfl, rfl, rfl, rfl, rfl, rfl, rfl, rfl, rfl, rfl, rfl⟩ (HS.out.move HR1.out HM1.out HS.out.ans HS.out.asked HS.out.len (by have := HS.out.sum; simp only; omega))
  rw [HONE.out]
  simp [leave, HXV.out]
set_option maxHeartbeats 1000000 in
set_option maxRecDepth 100000 in
theorem body_e2f {Q : Exit → Act → World → Prop} {a : Act} {w wr : World} {ub : Option Addr} {cb : Nat} {bs : List Blk} {r : Int} {n gi gr go gp : Nat} {ca : Option Addr} {cc : Nat} {ans : List Int} {s : St} {cv : Value} {tn kn qn : Nat} {e : En} {nb : Nat} (hA : ActP (.slice ub bs.length cb) (.int .i64 r) (P0 gi) (P0 gr) (.slice (some ⟨gp, 0, none⟩) n n) (P0 go) (.int .i64 (tn : Nat)) (.int .i64 (kn : Nat)) (.int .i64 (qn : Nat)) a) (hS : Stand w n gi gr go gp ca cc ans wr s cv qn) (hu : BlksV w (.slice ub bs.length cb) bs) (ht : tn < bs.length) (hk : kn = (bs.getD tn Blk.zero).ins.length) (hkl : (bs.getD tn Blk.zero).ins.length ≤ 1000) (hi : (bs.getD tn Blk.zero).e = e) (hok : OkE n nb e) (h0 : s.left ≠ 0) (hkind : e.k = 2) (hz0 : pg s.p e.a ≠ 0)
    (hgo : ∀ (a' : Act) (W : World) (s' : St) (t' : Nat), fini e s = .inl ((t' : Int), s') → ActP (.slice ub bs.length cb) (.int .i64 r) (P0 gi) (P0 gr) (.slice (some ⟨gp, 0, none⟩) n n) (P0 go) (.int .i64 (t' : Nat)) (.int .i64 (0 : Nat)) (.int .i64 (qn : Nat)) a' → Stand w n gi gr go gp ca cc ans W s' cv qn → Q .normal a' W) (hret : ∀ (a' : Act) (W : World) (o : Out), fini e s = .inr o → FinP w gr a' W o → Q .ret a' W) : body14.wp Try.prog Q a wr := by
  obtain ⟨ρ, rfl⟩ := hA.lit
  obtain ⟨gb, off, ia, icap, rfl, hce⟩ := next_end hu hS.below ht
  rw [hi] at hce
  obtain ⟨il, hil⟩ : ∃ il, (bs.getD tn Blk.zero).ins.length = il := ⟨_, rfl⟩
  rw [hil] at hk hkl hce
  subst hk
  have hc0 := hce.c0
  have htl : (tn : Int) < (bs.length : Int) := by omega
  have hkl3 : (kn : Int) ≤ 1000 := by omega
  have HGO := hide hgo
  have HRET := hide hret
  have HS := hide hS
  have c67 := hS.run.c67
  obtain ⟨k, x, to, el⟩ := e
  have f67 := hS.run.fr 67
  obtain ⟨hRp, hMp⟩ := hS.run.spend h0
  have hl0 : 0 < (s.left : Int) := by omega
  have hl1 : (s.left : Int) ≤ 1048576 := by have := hS.sum; omega
  have hlz : ((s.left : Int) == 0) = false := by rw [beq_eq_false_iff_ne]; omega
  have hce2 : BlkCells (wr.setCell ⟨go, 67, none⟩ (.int .i64 ((s.left : Int) - 1))) gb (off + tn * 5) (.slice ia kn icap) ⟨k, x, to, el⟩ := by
    obtain ⟨gb', off', ia', icap', e1, hce'⟩ := next_end hu (hS.below.trans hMp.below) ht
    simp only [Option.some.injEq, Addr.mk.injEq, and_true] at e1
    obtain ⟨rfl, rfl⟩ := e1
    rw [hi] at hce'
    have h1 := hce'.c0
    obtain ⟨_, d1, d2, d3, d4⟩ := hce'
    have hc := hce.c0
    have hb : gb < w.heap.size := by
      obtain ⟨gb2, off2, e2, ui, hcells, hui⟩ := SlV.at hu tn ht
      simp only [Option.some.injEq, Addr.mk.injEq, and_true] at e2
      rw [e2.1]
      exact World.block_lt_of_cell? w _ hcells.c0
    exact ⟨(World.cell?_of_block (a := ⟨gb, off + tn * 5, none⟩) (hMp.below.block gb hb)).trans hc, d1, d2, d3, d4⟩
  obtain ⟨_, e1, e2, e3, e4⟩ := hce2
  simp only at e1 e2 e3 e4 hkind
  subst hkind
  have hone : fini ⟨2, x, to, el⟩ s = leave ⟨2, x, to, el⟩ { s with left := s.left - 1 } := by unfold fini paid; rw [if_neg h0]; rfl
  have HONE := hide hone
  have hBx := bel1' (wr.setCell ⟨go, 67, none⟩ (.int .i64 ((s.left : Int) - 1))) (bxE ⟨2, x, to, el⟩)
  obtain ⟨b0, b1, b2, b3⟩ := bxE_cells (wr.setCell ⟨go, 67, none⟩ (.int .i64 ((s.left : Int) - 1))) ⟨2, x, to, el⟩
  have hR1 := hRp.of hBx
  have hM1 := hMp.trans (Mp.of hBx hRp.size.1)
  simp only [bxE] at b0 b1 b2 b3 hR1 hM1
  have hszz : (wr.setCell ⟨go, 67, none⟩ (.int .i64 ((s.left : Int) - 1))).heap.size = wr.heap.size := by simp
  rw [hszz] at b0 b1 b2 b3
  have hlen := hS.len
  obtain ⟨xn, hx, hx2⟩ := nat_of (hok.a (by simp))
  simp only at hx
  subst hx
  obtain ⟨xv, hxv⟩ : ∃ xv, pg s.p (xn : Int) = xv := ⟨_, rfl⟩
  have hxl : (xn : Int) < (n : Int) := by omega
  obtain ⟨tn', htn, htn2⟩ := nat_of (hok.to (by simp))
  simp only at htn
  subst htn
  simp only at hz0
  rw [hxv] at hz0
  have hzb : (xv == 0) = false := by rw [beq_eq_false_iff_ne]; exact hz0
  have hpp := hR1.pp (j := xn) (by simp only [hlen]; exact hx2) hxv
  have HR1 := hide hR1
  have HM1 := hide hM1
  clear hR1 hM1 hlen
  have HXV := hide (And.intro hxv hz0)
  clear hxv hz0
  clear hgo hret hS hA hu hi hok hil hBx hone h0 hce hRp hMp hszz
  unfold body14
  simp only [P0]
  go_wp2_with fail
  refine HGO.out _ _ { s with left := s.left - 1 } tn' ?_ ⟨rfl, rfl, rfl, rfl, rfl, rfl, rfl, rfl, rfl, rfl, rfl⟩ (HS.out.move HR1.out HM1.out HS.out.ans HS.out.asked HS.out.len (by have := HS.out.sum; simp only; omega))
  rw [HONE.out]
  simp [leave, HXV.out.1, HXV.out.2]
end Go.Proofs.Ytepmbkiojpffpaa
