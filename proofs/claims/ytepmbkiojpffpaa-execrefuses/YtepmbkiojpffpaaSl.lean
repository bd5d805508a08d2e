/- A run's leave: an end is done. -/
import Derived.Test.YtepmbkiojpffpaaSs
import Derived.Test.YtepmbkiojpffpaaIr
namespace Go.Proofs.Ytepmbkiojpffpaa
open Go.RowKit Ir

def bxE (e : En) : Obj := .cells #[.int .u8 e.k, .int .i64 e.a, .int .i64 e.to, .int .i64 e.el] 58
theorem bxE_cells (w : World) (e : En) : (w.alloc (bxE e)).cell? ⟨w.heap.size, 0, none⟩ = some (.int .u8 e.k) ∧ (w.alloc (bxE e)).cell? ⟨w.heap.size, 1, none⟩ = some (.int .i64 e.a) ∧ (w.alloc (bxE e)).cell? ⟨w.heap.size, 2, none⟩ = some (.int .i64 e.to) ∧ (w.alloc (bxE e)).cell? ⟨w.heap.size, 3, none⟩ = some (.int .i64 e.el) := by
  unfold bxE
  refine ⟨?_, ?_, ?_, ?_⟩
  all_goals (rw [cell_of_row _ _ _ _ _ _ (heap_alloc_new w _)]; rfl)
/-- The run stands as x says, and the block that is next was told. -/
def LeavePost (B g gp : Nat) (r : Int) (w : World) (x : Rs (Int × St)) (e : Ending) (w' : World) : Prop :=
  Mv B gp w w' ∧ match x with
  | .inl (t, s) => e = .returned (.int .i64 t) ∧ ∃ cv av, RunAt B g gp r w' 0 0 s cv av
  | .inr o => (∃ t, e = .returned (.int .i64 t)) ∧ Ended B g gp r w' o

set_option maxHeartbeats 1000000 in
set_option maxRecDepth 100000 in
theorem leave_any (B g gp : Nat) (r : Int) (w : World) (s : St) (cv av : Value) (e : En) (nb : Nat) (h : RunAt B g gp r w 0 0 s cv av) (he : OkE s.p.length nb e) :
    Calls Try.prog 43 #[.pointer (some ⟨g, 0, none⟩), endV e] w (LeavePost B g gp r w (leave e s)) := by
  obtain ⟨k, a, to, el⟩ := e
  have hBx := bel1' w (bxE ⟨k, a, to, el⟩)
  have hR1 := h.of hBx
  have hM1 : Mv B gp w _ := Mv.of hBx h.size.1
  obtain ⟨b0, b1, b2, b3⟩ := bxE_cells w ⟨k, a, to, el⟩
  simp only [bxE] at b0 b1 b2 b3 hR1 hM1
  have HR := hide hR1
  have HM := hide hM1
  have hk := he.k
  have hk3 : k = 1 ∨ k = 2 ∨ k = 3 := by simp only at hk; omega
  unfold endV
  simp only
  rcases hk3 with rfl | rfl | rfl
  · have hE : Hid (leave ⟨1, a, to, el⟩ s = .inl (to, s)) := by show _ = _; simp [leave]
    clear h hR1 hM1 hBx he hk
    go_enter Try.func43, Try.ntmps43
    go_wp2_with fail
    go_region
    all_goals
      go_wp2_with fail
      go_ret
      refine ⟨HM.out.trans (Mv.of (Below.refl _ _).drew HR.out.size.1), ?_⟩
      rw [hE.out]
      exact ⟨rfl, _, _, HR.out.of (Below.refl _ _).drew⟩
  · obtain ⟨an, ha, ha2⟩ := nat_of (he.a (by simp))
    simp only at ha
    subst ha
    obtain ⟨x, hx⟩ : ∃ x, pg s.p (an : Int) = x := ⟨_, rfl⟩
    have hal : (an : Int) < (s.p.length : Int) := by omega
    have c69 := hR1.c69
    have p1 := hR1.pp ha2 hx
    by_cases h0 : x = 0
    · have hE : Hid (leave ⟨2, an, to, el⟩ s = .inl (el, s)) := by show _ = _; simp [leave, hx, h0]
      subst h0
      clear h hR1 hM1 hBx he hk hx
      go_enter Try.func43, Try.ntmps43
      go_wp2_with fail
      go_region
      all_goals
        go_wp2_with fail
        go_ret
        refine ⟨HM.out.trans (Mv.of (Below.refl _ _).drew HR.out.size.1), ?_⟩
        rw [hE.out]
        exact ⟨rfl, _, _, HR.out.of (Below.refl _ _).drew⟩
    · have hE : Hid (leave ⟨2, an, to, el⟩ s = .inl (to, s)) := by show _ = _; simp [leave, hx, h0]
      have h1 : (x == 0) = false := by simpa using h0
      clear h hR1 hM1 hBx he hk hx h0
      go_enter Try.func43, Try.ntmps43
      go_wp2_with fail
      go_region
      all_goals
        go_wp2_with fail
        go_ret
        refine ⟨HM.out.trans (Mv.of (Below.refl _ _).drew HR.out.size.1), ?_⟩
        rw [hE.out]
        exact ⟨rfl, _, _, HR.out.of (Below.refl _ _).drew⟩
  · obtain ⟨an, ha, ha2⟩ := nat_of (he.a (by simp))
    simp only at ha
    subst ha
    obtain ⟨x, hx⟩ : ∃ x, pg s.p (an : Int) = x := ⟨_, rfl⟩
    have hE : Hid (leave ⟨3, an, to, el⟩ s = .inr ⟨1, x, s.calls, s.mem, s.left⟩) := by show _ = _; simp [leave, hx]
    have hal : (an : Int) < (s.p.length : Int) := by omega
    have HB := hide b1
    clear h hR1 hM1 hBx he hk b1 b2 b3
    go_enter Try.func43, Try.ntmps43
    go_wp2_with fail
    clear b0
    generalize w.alloc (.cells #[.int .u8 3, .int .i64 (an : Nat), .int .i64 to, .int .i64 el] 58) = W1 at *
    have hRd := HR.out.of (Below.refl _ _).drew
    obtain ⟨hR2, hM2⟩ := hRd.put (j := 0) (u := .int .i64 1) (how' := 1) (val' := 0) (mem' := s.mem) (left' := s.left) hRd.calls hRd.ans hRd.mem (rowL_set0 1)
    obtain ⟨hR3, hM3⟩ := hR2.put (j := 1) (u := .int .i64 x) (how' := 1) (val' := x) (mem' := s.mem) (left' := s.left) hR2.calls hR2.ans hR2.mem (rowL_set1 x)
    have HR3 := hide hR3
    have HM3 := hide (((HM.out.trans (Mv.of (Below.refl _ _).drew HR.out.size.1)).trans hM2).trans hM3)
    clear hR3 hM3 hR2 hM2 hRd
    refine lv2_ok (g := g) (gp := gp) (n := s.p.length) rfl rfl rfl HB.out HR.out.c69 (HR.out.pp ha2 hx) HR.out.c0 HR.out.c1 (HR.out.fr 0) (HR.out.fr 1) hal ?_
    intro q
    simp [overlay, dstsOf, ops_lv2_ok]
    clear HR HM
    go_wp2_with fail
    go_ret
    refine ⟨HM3.out, ?_⟩
    rw [hE.out]
    exact ⟨⟨0, rfl⟩, _, _, _, HR3.out, rfl, rfl, rfl⟩
end Go.Proofs.Ytepmbkiojpffpaa
namespace Go.Proofs.Ytepmbkiojpffpaa
open Go.RowKit Ir

def rowBk (u : Value) (e : En) : Array Value := #[u, .int .u8 e.k, .int .i64 e.a, .int .i64 e.to, .int .i64 e.el]
theorem rowBk_cells {w : World} {g : Nat} {u : Value} {e : En} (h : w.heap[g]? = some (Obj.cells (rowBk u e) 60 (0, 0))) : BlkCells w g 0 u e := by
  refine ⟨?_, ?_, ?_, ?_, ?_⟩
  all_goals (rw [cell_of_row _ _ _ _ _ _ h]; rfl)

set_option maxHeartbeats 4000000 in
set_option maxRecDepth 100000 in
theorem block_any (B g gp : Nat) (r : Int) (w0 w : World) (s : St) (cv av : Value) (b : Blk) (u : Value) (nb : Nat) (h : RunAt B g gp r w 0 0 s cv av) (hB : w0.heap.size = B) (hw : Below B w0 w) (hu : InssV w0 u b.ins) (hb : OkB r s.p.length nb b) (hr0 : 0 ≤ r) (hs : s.calls.length + s.left ≤ 1048576) :
    Calls Try.prog 32 #[.pointer (some ⟨g, 0, none⟩), blkV u b.e] w (LeavePost B g gp r w (blk r b s)) := by
  obtain ⟨is, e⟩ := b
  simp only at hu
  obtain ⟨hil, hio, heo⟩ := hb
  simp only at hil hio heo
  obtain ⟨ui, uc, rfl⟩ := hu.slice
  have hBx := bel1' w (.cells (rowBk (.slice ui is.length uc) e) 60)
  have hR1 := h.of hBx
  have hM1 : Mv B gp w _ := Mv.of hBx h.size.1
  have hbox : (w.alloc (.cells (rowBk (.slice ui is.length uc) e) 60)).heap[w.heap.size]? = some (Obj.cells (rowBk (.slice ui is.length uc) e) 60 (0, 0)) := heap_alloc_new w _
  have hw1 : Below B w0 (w.alloc (.cells (rowBk (.slice ui is.length uc) e) 60)) := hw.trans (hBx.mono h.size.1)
  obtain ⟨b0, b1, b2, b3, b4⟩ := rowBk_cells hbox
  simp only [rowBk, Nat.zero_add] at b0 b1 b2 b3 b4 hR1 hM1 hw1
  have HR := hide hR1
  have HM := hide hM1
  have HX := hide hbox
  have HW := hide hw1
  unfold blkV
  simp only
  clear h hR1 hM1 hBx hbox hw hw1 b1 b2 b3 b4
  go_enter Try.func32, Try.ntmps32
  go_wp2_with fail
  simp only [rowBk] at HX
  generalize w.alloc (.cells #[.slice ui is.length uc, .int .u8 e.k, .int .i64 e.a, .int .i64 e.to, .int .i64 e.el] 60) = W1 at *
  generalize w.heap.size = gb at *
  clear b0
  go_loopw [10] (fun iv wr => ∃ (j : Nat) (sj : St) (cj aj : Value), j ≤ is.length ∧ iv = .int .i64 j ∧ RunAt B g gp r wr 0 0 sj cj aj ∧ Mv B gp W1 wr ∧ Hid (blk r ⟨is, e⟩ s = (insts r (is.drop j) sj).bind (fini e)) ∧ sj.p.length = s.p.length ∧ sj.calls.length + sj.left ≤ 1048576) (fun iv _ => is.length - (intOf iv).toNat)
  case atStart => exact ⟨0, s, _, _, by omega, rfl, HR.out, Mv.refl _ _ _, rfl, rfl, hs⟩
  case round =>
    obtain ⟨j, sj, cj, aj, hj, rfl, hRj, hMj, hE, hpl, hsj⟩ := hrel
    by_cases hlt : j < is.length
    · have hwr : Below B w0 wr := HW.out.trans hMj.below
      have hwr' : Below w0.heap.size w0 wr := by rw [hB]; exact hwr
      obtain ⟨ab, aoff, rfl, ua, hcells0, hua0⟩ := SlV.at hu j hlt
      have hst := hide (insts_drop (r := r) hlt sj)
      have hok := hio _ (show is.getD j Ins.zero ∈ is by simp [List.getElem?_eq_getElem hlt])
      generalize is.getD j Ins.zero = i at *
      have hcells := hcells0.below hwr'
      have hua := hua0.below hwr'
      have HU0 := hide hua0
      obtain ⟨k, op, d, a, b, nn, args⟩ := i
      obtain ⟨c0, c1, c2, c3, c4, c5, c6⟩ := hcells
      simp only at c0 c1 c2 c3 c4 c5 c6 hua
      have hBy := bel1' wr (bxI ⟨k, op, d, a, b, nn, args⟩ ua)
      have hbi : (wr.alloc (bxI ⟨k, op, d, a, b, nn, args⟩ ua)).heap[wr.heap.size]? = some (Obj.cells (rowI ⟨k, op, d, a, b, nn, args⟩ ua) 65 (0, 0)) := heap_alloc_new wr _
      have hR2 := hRj.of hBy
      have hM2 : Mv B gp W1 _ := hMj.trans (Mv.of hBy hRj.size.1)
      have hu2 := hua.below hBy
      have hF := hide (free_any ⟨k, op, d, a, b, nn, args⟩ ua (wr.alloc (bxI ⟨k, op, d, a, b, nn, args⟩ ua)))
      have hlt' : (j : Int) < (is.length : Int) := by omega
      obtain ⟨ub, ucc, rfl⟩ := hua0.slice
      simp only [bxI] at hR2 hM2 hu2 hF hbi
      unfold insV at hF
      simp only at hF
      have HR2 := hide hR2
      have HM2 := hide hM2
      have HU2 := hide hu2
      have HBI := hide hbi
      clear hR2 hM2 hu2 hbi hRj hMj hBy hcells0 hua hua0 hwr hwr'
      go_wp2_with fail
      refine hF.out.mono ?_
      rintro x W2 ⟨rfl, hBf⟩
      have hR3 := HR2.out.of hBf
      have hM3 := HM2.out.trans (Mv.of hBf HR2.out.size.1)
      have hu3 := HU2.out.below hBf
      have hbi3 : W2.heap[wr.heap.size]? = some (Obj.cells (rowI ⟨k, op, d, a, b, nn, args⟩ (.slice ub args.length ucc)) 65 (0, 0)) := (hBf.block _ (Array.getElem?_eq_some_iff.1 HBI.out).1).trans HBI.out
      clear HR2 HM2 HU2 HBI hF hBf
      generalize wr.heap.size = gi at *
      cases hfr : free k with
      | true =>
        have hEx : blk r ⟨is, e⟩ s = ((act r ⟨k, op, d, a, b, nn, args⟩ sj).bind (insts r (is.drop (j + 1)))).bind (fini e) := by
          rw [hE.out, hst.out, one_free hfr]
        have hplx := hpl
        have hRx := hR3
        have hMx := hM3
        have hux := hu3
        have hbix := hbi3
        have hk6 : (if k = 6 then 1 else 0) = 0 := if_neg (fun e => by rw [e] at hfr; simp [free] at hfr)
        clear hE hst hR3 hM3 hu3 hbi3
        obtain ⟨d0, d1, d2, d3, d4, d5, d6⟩ := rowI_cells hbix
        simp only [Nat.zero_add] at d0 d1 d2 d3 d4 d5 d6
        have hC := hide (step_any B g gp r W2 sj _ _ ⟨k, op, d, a, b, nn, args⟩ _ hRx (by rw [hplx]; exact hok) hux (show sj.calls.length ≤ 1048576 by omega) hr0)
        unfold insV at hC
        simp only at hC
        have HMX := hide hMx
        clear hRx hMx hux hbix
        go_wp2_with fail
        refine hC.out.mono ?_
        rintro x W4 ⟨⟨v, rfl⟩, hcame, hmv⟩
        have HM4 := hide (HMX.out.trans hmv)
        clear hC HMX hmv d0 d1 d2 d3 d4 d5 d6
        cases hact : act r ⟨k, op, d, a, b, nn, args⟩ sj with
        | inl s' =>
          rw [hact] at hcame hEx
          obtain ⟨cn, an, hR4⟩ := hcame
          obtain ⟨k1, k2, k3⟩ := act_keeps hact
          have hz0 := hR4.c0
          have HR4 := hide hR4
          have HEX := hide hEx
          have HK := hide (And.intro k1 (And.intro k2 k3))
          clear hR4 hEx hact k1 k2 k3
          go_wp2_with fail
          go_roundw
          case rel => exact ⟨j + 1, s', _, _, by omega, by go_num, HR4.out, HM4.out, HEX.out, by rw [HK.out.1]; exact hplx, by have := HK.out.2.1; have := HK.out.2.2; simp only [hk6] at this; omega⟩
          case measure => simp [intOf]; omega
        | inr o =>
          rw [hact] at hcame hEx
          have hh := act_how hact
          obtain ⟨s', cn, an, hR4, e1, e2, e3⟩ := hcame
          have hz0 := hR4.c0
          rw [hh] at hz0
          have HR4 := hide (⟨s', cn, an, hR4, e1, e2, e3⟩ : Ended B g gp r W4 o)
          have HEX := hide hEx
          clear hR4 hEx hact hh e1 e2 e3
          go_wp2_with fail
          go_ret
          refine ⟨HM.out.trans HM4.out, ?_⟩
          rw [HEX.out]
          exact ⟨⟨0, rfl⟩, HR4.out⟩
      | false =>
        have hP := hide (paid_any B g gp r W2 sj _ _ hR3 (by omega))
        have HST := hide (And.intro hR3 (And.intro hM3 (And.intro hu3 hbi3)))
        clear hR3 hM3 hu3 hbi3
        go_wp2_with fail
        refine hP.out.mono ?_
        rintro x W3 ⟨⟨bb, rfl, hbb⟩, hcame, hmv⟩
        have HM3 := hide (HST.out.2.1.trans hmv)
        by_cases hl0 : sj.left = 0
        · have hbf : bb = false := by cases bb with | false => rfl | true => exact absurd hl0 (hbb.1 rfl)
          subst hbf
          cases hp : paid sj with
          | inl s' => exact absurd hl0 (paid_go hp).1
          | inr o =>
            rw [hp] at hcame
            have hEx : blk r ⟨is, e⟩ s = .inr o := by rw [hE.out, hst.out, one_paid hfr, hp]; rfl
            have HR4 := hide hcame
            have HEX := hide hEx
            clear hcame hEx hp hl0 hbb hmv hE hst HST hP
            go_wp2_with fail
            go_ret
            refine ⟨HM.out.trans HM3.out, ?_⟩
            rw [HEX.out]
            exact ⟨⟨0, rfl⟩, HR4.out⟩
        · have hbt : bb = true := hbb.2 hl0
          subst hbt
          cases hp : paid sj with
          | inr o => exact absurd (paid_how hp).2 hl0
          | inl s' =>
            obtain ⟨_, rfl⟩ := paid_go hp
            rw [hp] at hcame
            obtain ⟨c5', a5', hRx⟩ := hcame
            have hEx : blk r ⟨is, e⟩ s = ((act r ⟨k, op, d, a, b, nn, args⟩ { sj with left := sj.left - 1 }).bind (insts r (is.drop (j + 1)))).bind (fini e) := by rw [hE.out, hst.out, one_paid hfr, hp]; rfl
            have hplx : ({ sj with left := sj.left - 1 } : St).p.length = s.p.length := hpl
            have hMx := HM3.out
            have hux : IntsV W3 _ args := HU0.out.below (by rw [hB]; exact HW.out.trans HM3.out.below)
            have hbix : W3.heap[gi]? = some (Obj.cells (rowI ⟨k, op, d, a, b, nn, args⟩ (.slice ub args.length ucc)) 65 (0, 0)) := hmv.keeps _ _ _ _ rfl HST.out.2.2.2
            clear hE hst HST HM3 hP hp hmv hbb
            obtain ⟨d0, d1, d2, d3, d4, d5, d6⟩ := rowI_cells hbix
            simp only [Nat.zero_add] at d0 d1 d2 d3 d4 d5 d6
            have hC := hide (step_any B g gp r W3 { sj with left := sj.left - 1 } _ _ ⟨k, op, d, a, b, nn, args⟩ _ hRx (by rw [hplx]; exact hok) hux (show sj.calls.length ≤ 1048576 by omega) hr0)
            unfold insV at hC
            simp only at hC
            have HMX := hide hMx
            clear hRx hMx hux hbix
            go_wp2_with fail
            refine hC.out.mono ?_
            rintro x W4 ⟨⟨v, rfl⟩, hcame, hmv⟩
            have HM4 := hide (HMX.out.trans hmv)
            clear hC HMX hmv d0 d1 d2 d3 d4 d5 d6
            cases hact : act r ⟨k, op, d, a, b, nn, args⟩ { sj with left := sj.left - 1 } with
            | inl s' =>
              rw [hact] at hcame hEx
              obtain ⟨cn, an, hR4⟩ := hcame
              obtain ⟨k1, k2, k3⟩ := act_keeps hact
              have hz0 := hR4.c0
              have HR4 := hide hR4
              have HEX := hide hEx
              have HK := hide (And.intro k1 (And.intro k2 k3))
              clear hR4 hEx hact k1 k2 k3
              go_wp2_with fail
              go_roundw
              case rel => exact ⟨j + 1, s', _, _, by omega, by go_num, HR4.out, HM4.out, HEX.out, by rw [HK.out.1]; exact hplx, by have q1 : s'.left = sj.left - 1 := HK.out.2.1; have q2 : s'.calls.length ≤ sj.calls.length + (if k = 6 then 1 else 0) := HK.out.2.2; split at q2 <;> omega⟩
              case measure => simp [intOf]; omega
            | inr o =>
              rw [hact] at hcame hEx
              have hh := act_how hact
              obtain ⟨s', cn, an, hR4, e1, e2, e3⟩ := hcame
              have hz0 := hR4.c0
              rw [hh] at hz0
              have HR4 := hide (⟨s', cn, an, hR4, e1, e2, e3⟩ : Ended B g gp r W4 o)
              have HEX := hide hEx
              clear hR4 hEx hact hh e1 e2 e3
              go_wp2_with fail
              go_ret
              refine ⟨HM.out.trans HM4.out, ?_⟩
              rw [HEX.out]
              exact ⟨⟨0, rfl⟩, HR4.out⟩
    · obtain rfl : j = is.length := by omega
      have hE2 : Hid (blk r ⟨is, e⟩ s = fini e sj) := by
        show _ = _
        rw [hE.out]
        simp [insts, Rs.bind]
      have hP := hide (paid_any B g gp r wr sj _ _ hRj (by omega))
      have HMJ := hide hMj
      clear hE hRj hMj hlt
      go_wp2_with fail
      refine hP.out.mono ?_
      rintro x W3 ⟨⟨bb, rfl, hbb⟩, hcame, hmv⟩
      have HM3 := hide (HMJ.out.trans hmv)
      by_cases hl0 : sj.left = 0
      · have hbf : bb = false := by cases bb with | false => rfl | true => exact absurd hl0 (hbb.1 rfl)
        subst hbf
        cases hp : paid sj with
        | inl s' => exact absurd hl0 (paid_go hp).1
        | inr o =>
          rw [hp] at hcame
          have hEx : blk r ⟨is, e⟩ s = .inr o := by rw [hE2.out, fini, hp]; rfl
          have HR4 := hide hcame
          have HEX := hide hEx
          clear hcame hEx hp hl0 hbb hmv hE2 HMJ hP
          go_wp2_with fail
          go_ret
          refine ⟨HM.out.trans HM3.out, ?_⟩
          rw [HEX.out]
          exact ⟨⟨0, rfl⟩, HR4.out⟩
      · have hbt : bb = true := hbb.2 hl0
        subst hbt
        cases hp : paid sj with
        | inr o => exact absurd (paid_how hp).2 hl0
        | inl s' =>
          obtain ⟨_, rfl⟩ := paid_go hp
          rw [hp] at hcame
          obtain ⟨c5', a5', hRx⟩ := hcame
          have hEx : blk r ⟨is, e⟩ s = leave e { sj with left := sj.left - 1 } := by rw [hE2.out, fini, hp]; rfl
          have hbx : W3.heap[gb]? = some (Obj.cells (rowBk (.slice ui is.length uc) e) 60 (0, 0)) := HM3.out.keeps _ _ _ _ rfl HX.out
          obtain ⟨b0, b1, b2, b3, b4⟩ := rowBk_cells hbx
          simp only [Nat.zero_add] at b0 b1 b2 b3 b4
          have hC := hide (leave_any B g gp r W3 _ _ _ e nb hRx (by rw [show ({ sj with left := sj.left - 1 } : St).p.length = s.p.length from hpl]; exact heo))
          unfold endV at hC
          have HEX := hide hEx
          clear hE2 hEx HMJ hP hp hmv hbb hbx hRx
          go_wp2_with fail
          refine hC.out.mono ?_
          rintro x W4 ⟨hm4, hx⟩
          have HM4 := hide (HM.out.trans (HM3.out.trans hm4))
          have hx2 : ∃ t, x = .returned (.int .i64 t) := by
            cases hlv : leave e { sj with left := sj.left - 1 } with
            | inl y =>
              rw [hlv] at hx
              exact ⟨_, hx.1⟩
            | inr o =>
              rw [hlv] at hx
              exact hx.1
          obtain ⟨t, rfl⟩ := hx2
          have HXX := hide hx
          clear hx hm4 hC b0 b1 b2 b3 b4
          go_wp2_with fail
          go_ret
          refine ⟨HM4.out, ?_⟩
          rw [HEX.out]
          exact HXX.out
end Go.Proofs.Ytepmbkiojpffpaa
