/- ir.insFault: an instruction's fault. -/
import Derived.Test.YtbjnhicikkjadabEnds
import Derived.Test.YtbjnhicikkjadabInts
import Derived.Test.YtbjnhicikkjadabFormed
import Derived.Test.YtbjnhicikkjadabOps
namespace Go.Proofs.Ytbjnhicikkjadab
open Go.RowKit Ir

/-- An instruction in a box of the call's own, in a later world. -/
theorem boxI {w w1 : World} {i : Ins} {u : Value} (hB : Below (w.alloc (.cells #[.int .u8 i.k, .int .u8 i.op, .int .i64 i.d, .int .i64 i.a, .int .i64 i.b, .int .i64 i.n, u] 49)).heap.size (w.alloc (.cells #[.int .u8 i.k, .int .u8 i.op, .int .i64 i.d, .int .i64 i.a, .int .i64 i.b, .int .i64 i.n, u] 49)) w1) : InsCells w1 w.heap.size 0 i u :=
  ⟨box_cell hB 0 rfl, box_cell hB 1 rfl, box_cell hB 2 rfl, box_cell hB 3 rfl, box_cell hB 4 rfl, box_cell hB 5 rfl, box_cell hB 6 rfl⟩
/-- The same, its cells one by one. -/
theorem InsCells.zero {w : World} {b : Nat} {i : Ins} {u : Value} (h : InsCells w b 0 i u) : w.cell? ⟨b, 0, none⟩ = some (.int .u8 i.k) ∧ w.cell? ⟨b, 1, none⟩ = some (.int .u8 i.op) ∧ w.cell? ⟨b, 2, none⟩ = some (.int .i64 i.d) ∧ w.cell? ⟨b, 3, none⟩ = some (.int .i64 i.a) ∧ w.cell? ⟨b, 4, none⟩ = some (.int .i64 i.b) ∧ w.cell? ⟨b, 5, none⟩ = some (.int .i64 i.n) ∧ w.cell? ⟨b, 6, none⟩ = some u :=
  ⟨h.c0, h.c1, h.c2, h.c3, h.c4, h.c5, h.c6⟩
theorem uses_len {i : Ins} (h : i.args.length ≤ 3) : (uses i).length ≤ 3 := by
  unfold uses
  (repeat' split) <;> first | exact h | simp

set_option maxHeartbeats 1000000 in
set_option maxRecDepth 100000 in
theorem insFault_any (i : Ins) (u : Value) (v : Int) (w : World) (hu : IntsV w u i.args) : Calls Try.prog 20 #[insV i u, .int .i64 v] w fun e w' => e = .returned (.int .i64 (inF i v)) ∧ Below w.heap.size w w' := by
  obtain ⟨ua, ca, rfl⟩ := hu.slice
  have hB0 := bel1 w (.cells #[.int .u8 i.k, .int .u8 i.op, .int .i64 i.d, .int .i64 i.a, .int .i64 i.b, .int .i64 i.n, .slice ua i.args.length ca] 49)
  have hu0 := hu.below hB0
  have hF := hide (formed_any i _ _ hu0)
  have HU := hide hu0
  clear hu hu0
  unfold insV at hF ⊢
  go_enter Try.func20, Try.ntmps20
  go_wp2_with fail
  refine hF.out.mono ?_
  rintro r w1 ⟨rfl, hB1⟩
  have I1 := hide (boxI hB1)
  obtain ⟨c0, c1, c2, c3, c4, c5, c6⟩ := I1.out.zero
  have hBw1 := bel_of hB0 hB1
  have HU1 := hide (HU.out.below hB1)
  clear hF hB1 hB0 HU
  cases hf : formed i with
  | false =>
    have he : Hid (inF i v = 20) := by show _ = _; unfold inF; rw [if_pos hf]
    go_wp2_with fail
    go_ret
    exact ⟨by rw [he.out]; rfl, hBw1⟩
  | true =>
    by_cases h3 : 3 < i.args.length
    · have he : Hid (inF i v = 25) := by show _ = _; unfold inF; rw [if_neg (by simp [hf]), if_pos h3]
      have h3' : (3 : Int) < (i.args.length : Int) := by omega
      go_wp2_with fail
      go_ret
      exact ⟨by rw [he.out]; rfl, hBw1⟩
    · have he : Hid (inF i v = if (named i).all (inr · v) then 0 else 21) := by show _ = _; unfold inF; rw [if_neg (by simp [hf]), if_neg h3]
      have h3' : (i.args.length : Int) ≤ 3 := by omega
      have hlen := uses_len (i := i) (by omega)
      have hUs := hide (uses_any i _ w1 HU1.out (by omega))
      unfold insV at hUs
      clear hf h3
      go_wp2_with fail
      refine hUs.out.mono ?_
      rintro r w2 ⟨u2, rfl, hO, hB2⟩
      have I2 := hide (I1.out.below hB2)
      have hv2 := hide hO.v
      obtain ⟨a2, cc2, rfl⟩ := hv2.out.slice
      have HU2 := hide (HU1.out.below hB2)
      have hG := hide (gives_any i _ w2 HU2.out)
      unfold insV at hG
      have hBw2 := bel_of hBw1 hB2
      obtain ⟨d0, d1, d2, d3, d4, d5, d6⟩ := I2.out.zero
      have hnm : Hid ((named i).all (inr · v) = ((uses i).all (inr · v) && (!(gives i.k) || inr i.d v))) := by
        show _ = _
        unfold named
        rw [List.all_append]
        cases gives i.k <;> simp
      generalize uses i = us at *
      clear hUs I1 c0 c1 c2 c3 c4 c5 c6 hO hB2 HU1 hBw1
      go_wp2_with fail
      go_loop [6, 19] (fun _ iv => ∃ j : Nat, j ≤ us.length ∧ iv = .int .i64 j ∧ Hid (us.all (inr · v) = (us.drop j).all (inr · v))) (fun _ iv => us.length - (intOf iv).toNat)
      case atStart => exact ⟨0, by omega, rfl, rfl⟩
      case round =>
        obtain ⟨j, hj, rfl, hall⟩ := hrel
        by_cases hlt : j < us.length
        · obtain ⟨b, off, rfl, hc⟩ := hv2.out.at j hlt
          have hdr := hide (drop_getD hlt)
          generalize us.getD j 0 = x at *
          have hbl := hide (below_any x v w2)
          cases hx : inr x v with
          | true =>
            have hall2 : Hid (us.all (inr · v) = (us.drop (j + 1)).all (inr · v)) := by
              show _ = _
              rw [hall.out, hdr.out, List.all_cons, hx, Bool.true_and]
            clear hall hdr
            go_wp2_with fail
            refine hbl.out.mono ?_
            rintro r w5 ⟨rfl, rfl⟩
            rw [hx]
            go_wp2_with fail
            go_round
            case rel => exact ⟨j + 1, by omega, by go_num, hall2⟩
            case measure => simp [intOf]; omega
          | false =>
            have hall2 : Hid (us.all (inr · v) = false) := by
              show _ = _
              rw [hall.out, hdr.out, List.all_cons, hx, Bool.false_and]
            clear hall hdr
            go_wp2_with fail
            refine hbl.out.mono ?_
            rintro r w5 ⟨rfl, rfl⟩
            rw [hx]
            go_wp2_with fail
            go_ret
            exact ⟨by rw [he.out, hnm.out, hall2.out]; rfl, hBw2⟩
        · obtain rfl : j = us.length := by omega
          have hall2 : Hid (us.all (inr · v) = true) := by
            show _ = _
            rw [hall.out]
            simp
          clear hall
          go_wp2_with fail
          refine hG.out.mono ?_
          rintro r w3 ⟨rfl, hB3⟩
          have hBw3 := bel_of hBw2 hB3
          have hgv : Hid (gv i = if gives i.k = true then i.d else 0) := rfl
          have hbl := hide (below_any (gv i) v w3)
          clear hG hB3 d0 d1 d2 d3 d4 d5 d6 I2 HU2 hv2
          cases hg : gives i.k with
          | true =>
            have hgd : gv i = i.d := by rw [hgv.out, if_pos hg]
            cases hx : inr (gv i) v with
            | true =>
              have hr : Hid (inF i v = 0) := by
                show _ = _
                rw [hgd] at hx
                rw [he.out, hnm.out, hall2.out, hx]
                simp
              clear hgd he hnm hall2 hgv
              go_wp2_with fail
              refine hbl.out.mono ?_
              rintro r w5 ⟨rfl, rfl⟩
              rw [hx]
              go_wp2_with fail
              go_ret
              exact ⟨by rw [hr.out]; rfl, hBw3⟩
            | false =>
              have hr : Hid (inF i v = 21) := by
                show _ = _
                rw [hgd] at hx
                rw [he.out, hnm.out, hall2.out, hx, hg]
                simp
              clear hgd he hnm hall2 hgv
              go_wp2_with fail
              refine hbl.out.mono ?_
              rintro r w5 ⟨rfl, rfl⟩
              rw [hx]
              go_wp2_with fail
              go_ret
              exact ⟨by rw [hr.out]; rfl, hBw3⟩
          | false =>
            have hr : Hid (inF i v = 0) := by
              show _ = _
              rw [he.out, hnm.out, hall2.out, hg]
              simp
            clear he hnm hall2 hgv hbl
            go_wp2_with fail
            go_ret
            exact ⟨by rw [hr.out]; rfl, hBw3⟩
end Go.Proofs.Ytbjnhicikkjadab
namespace Go.Proofs.Ytbjnhicikkjadab
open Go.RowKit Ir

/-- What is known of each temporary that blockFault's last statement writes. -/
def Gbf (g : Nat) (v nb : Int) (e : En) (ua : Option Addr) (n ca : Nat) : Tmp → Value → World → Prop
  | 31, xx, _ => xx = .pointer (some ⟨g, 1, none⟩)
  | 32, xx, _ => xx = endV e
  | 33, xx, _ => xx = .int .i64 v
  | 34, xx, _ => xx = .int .i64 nb
  | 35, xx, _ => xx = .int .i64 (endF e v nb)
  | 36, xx, _ => xx = .pointer (some ⟨g, 0, none⟩)
  | 37, xx, _ => xx = .slice ua n ca
  | 38, xx, _ => xx = .int .i64 (n : Nat)
  | 6, xx, _ => xx = .int .i64 (endF e v nb)
  | 7, xx, _ => xx = .int .i64 (n : Nat)
  | _, _, _ => True

theorem boxB {w w1 : World} {u : Value} {e : En} (hB : Below (w.alloc (.cells #[u, .int .u8 e.k, .int .i64 e.a, .int .i64 e.to, .int .i64 e.el] 40)).heap.size (w.alloc (.cells #[u, .int .u8 e.k, .int .i64 e.a, .int .i64 e.to, .int .i64 e.el] 40)) w1) : BlkCells w1 w.heap.size 0 u e :=
  ⟨box_cell hB 0 rfl, box_cell hB 1 rfl, box_cell hB 2 rfl, box_cell hB 3 rfl, box_cell hB 4 rfl⟩
theorem BlkCells.zero {w : World} {b : Nat} {u : Value} {e : En} (h : BlkCells w b 0 u e) : w.cell? ⟨b, 0, none⟩ = some u ∧ w.cell? ⟨b, 1, none⟩ = some (.int .u8 e.k) ∧ w.cell? ⟨b, 2, none⟩ = some (.int .i64 e.a) ∧ w.cell? ⟨b, 3, none⟩ = some (.int .i64 e.to) ∧ w.cell? ⟨b, 4, none⟩ = some (.int .i64 e.el) :=
  ⟨h.c0, h.c1, h.c2, h.c3, h.c4⟩

set_option maxHeartbeats 2000000 in
set_option maxRecDepth 100000 in
theorem blockFault_any (b : Blk) (u : Value) (v nb : Int) (w : World) (hu : InssV w u b.ins) :
    Calls Try.prog 15 #[blkV u b.e, .int .i64 v, .int .i64 nb] w fun r w' => r = .returned (.tuple #[.int .i64 (blkF b v nb).1, .int .i64 (blkF b v nb).2]) ∧ Below w.heap.size w w' := by
  obtain ⟨is, e⟩ := b
  simp only at hu ⊢
  obtain ⟨ua, ca, rfl⟩ := hu.slice
  have hB0 := bel1 w (.cells #[.slice ua is.length ca, .int .u8 e.k, .int .i64 e.a, .int .i64 e.to, .int .i64 e.el] 40)
  have hbox := hide (boxB (Below.refl _ (w.alloc (.cells #[.slice ua is.length ca, .int .u8 e.k, .int .i64 e.a, .int .i64 e.to, .int .i64 e.el] 40))))
  have HU := hide (hu.below hB0)
  unfold blkV
  clear hu
  by_cases h32 : 32 < is.length
  · have he : Hid (blkF ⟨is, e⟩ v nb = (9, -1)) := by show _ = _; unfold blkF; rw [if_pos h32]
    have h32' : (32 : Int) < (is.length : Int) := by omega
    go_enter Try.func15, Try.ntmps15
    go_wp2_with fail
    go_ret2
    exact ⟨by rw [he.out]; rfl, hB0⟩
  · have he : Hid (blkF ⟨is, e⟩ v nb = if (insFs v is 0).1 = 0 then (endF e v nb, (is.length : Int)) else insFs v is 0) := by show _ = _; unfold blkF; rw [if_neg h32]
    have h32' : (is.length : Int) ≤ 32 := by omega
    go_enter Try.func15, Try.ntmps15
    go_wp2_with fail
    generalize hw0 : w.alloc (.cells #[.slice ua is.length ca, .int .u8 e.k, .int .i64 e.a, .int .i64 e.to, .int .i64 e.el] 40) = w0 at *
    clear hw0
    go_loopw [8, 9, 10, 18] (fun _ _ _ iv wr => ∃ j : Nat, j ≤ is.length ∧ iv = .int .i64 j ∧ Hid (insFs v is 0 = insFs v (is.drop j) j) ∧ Below w0.heap.size w0 wr) (fun _ _ _ iv _ => is.length - (intOf iv).toNat)
    case atStart => exact ⟨0, by omega, rfl, rfl, Below.refl _ _⟩
    case round =>
      obtain ⟨j, hj, rfl, hst, hBr⟩ := hrel
      by_cases hlt : j < is.length
      · obtain ⟨gb, off, rfl, ui, ⟨c0, c1, c2, c3, c4, c5, c6⟩, hui⟩ := SlV.at (HU.out.below hBr) j hlt
        have hstep := hide (insFs_step (v := v) hlt)
        generalize is.getD j Ins.zero = i at *
        obtain ⟨ai, ci, rfl⟩ := hui.slice
        have hBx := hBr.alloc hBr.size (.cells #[.int .u8 i.k, .int .u8 i.op, .int .i64 i.d, .int .i64 i.a, .int .i64 i.b, .int .i64 i.n, .slice ai i.args.length ci] 49)
        have hF := hide (insFault_any i _ v _ (hui.below (bel1 wr (.cells #[.int .u8 i.k, .int .u8 i.op, .int .i64 i.d, .int .i64 i.a, .int .i64 i.b, .int .i64 i.n, .slice ai i.args.length ci] 49))))
        unfold insV at hF
        clear hui
        go_wp2_with fail
        refine hF.out.mono ?_
        rintro x w1 ⟨rfl, hB1⟩
        have hBw := bel_of hBx hB1
        clear hF hB1 hBx hBr c0 c1 c2 c3 c4 c5 c6
        by_cases hz : inF i v = 0
        · rw [hz]
          have hst2 : Hid (insFs v is 0 = insFs v (is.drop (j + 1)) (j + 1)) := by
            show _ = _
            rw [hst.out, hstep.out, if_pos hz]
          clear hst hstep hz
          go_wp2_with fail
          go_roundw
          case rel => exact ⟨j + 1, by omega, by go_num, hst2, hBw⟩
          case measure => simp [intOf]; omega
        · have hst2 : Hid (insFs v is 0 = (inF i v, (j : Int))) := by
            show _ = _
            rw [hst.out, hstep.out, if_neg hz]
          have hnz : Hid (inF i v ≠ 0) := hz
          have hzb : (inF i v == 0) = false := by simpa using hz
          have hzb2 : (inF i v != 0) = true := by simpa using hz
          clear hst hstep hz
          go_wp2_with fail
          go_ret2
          exact ⟨by rw [he.out, hst2.out, if_neg hnz.out]; rfl, bel_of hB0 hBw⟩
      · obtain rfl : j = is.length := by omega
        have hst2 : Hid (blkF ⟨is, e⟩ v nb = (endF e v nb, (is.length : Int))) := by
          show _ = _
          rw [he.out, hst.out, insFs_end]
          rfl
        obtain ⟨c0, c1, c2, c3, c4⟩ := (hbox.out.below hBr).zero
        have hBwr := bel_of hB0 hBr
        clear he hst HU hbox
        go_wp2_with fail
        generalize hgz : w.heap.size = g at c0 c1 c2 c3 c4 ⊢
        clear hgz
        generalize is.length = n at *
        refine wp_region_each (by kernel_rfl) (fun d x _ => Gbf g v nb e ua n ca d x wr) (fun _ W => wr.heap.size ≤ W.heap.size ∧ Below wr.heap.size wr W) (by kernel_rfl) ⟨Nat.le_refl _, (Below.refl _ _).drew⟩ ?_ ?_
        · refine And.intro ?_ (And.intro ?_ (And.intro ?_ (And.intro ?_ (And.intro ?_ (And.intro ?_ (And.intro ?_ (And.intro ?_ (And.intro ?_ (And.intro ?_ trivial)))))))))
          · refine asked_pure rfl rfl (fun _ _ h => h) (fun _ _ _ => rfl) (fun l a W H => ?_)
            have e3 : a.eval (.tmp 3) = .pointer (some ⟨g, 0, none⟩) := H.base 3 rfl
            (simp only [execOp]; try simp only [Option.map]); (try simp only [List.map_toArray, List.map_cons, List.map_nil]); (simp only [e3]; go_simp)
          · refine asked_pure rfl rfl (fun _ _ h => h) (fun _ _ _ => rfl) (fun l a W H => ?_)
            have e31 : a.eval (.tmp 31) = .pointer (some ⟨g, 1, none⟩) := H.facts 31 rfl
            exact run_load39 rfl e31 (cell_below H.s.2 c1) (cell_below H.s.2 c2) (cell_below H.s.2 c3) (cell_below H.s.2 c4)
          · refine asked_pure rfl rfl (fun _ _ h => h) (fun _ _ _ => rfl) (fun l a W H => ?_)
            have e1 : a.eval (.tmp 1) = .int .i64 v := H.base 1 rfl
            exact run_move rfl e1
          · refine asked_pure rfl rfl (fun _ _ h => h) (fun _ _ _ => rfl) (fun l a W H => ?_)
            have e2 : a.eval (.tmp 2) = .int .i64 nb := H.base 2 rfl
            exact run_move rfl e2
          · refine asked_call rfl Try.func21 (by kernel_rfl) (by kernel_rfl) rfl rfl (fun l a W H => ?_)
            have e32 : a.eval (.tmp 32) = endV e := H.facts 32 rfl
            have e33 : a.eval (.tmp 33) = .int .i64 v := H.facts 33 rfl
            have e34 : a.eval (.tmp 34) = .int .i64 nb := H.facts 34 rfl
            have ea : (#[.tmp 32, .tmp 33, .tmp 34] : Array Operand).map a.eval = #[endV e, .int .i64 v, .int .i64 nb] := by
              simp only [List.map_toArray, List.map_cons, List.map_nil, e32, e33, e34]
            rw [ea]
            refine (ends_any e v nb W).mono ?_
            rintro x w' ⟨rfl, hB⟩
            exact ⟨_, rfl, rfl, ⟨Nat.le_trans H.s.1 hB.size, bel_of H.s.2 hB⟩, fun _ _ _ h => h⟩
          · refine asked_pure rfl rfl (fun _ _ h => h) (fun _ _ _ => rfl) (fun l a W H => ?_)
            have e3 : a.eval (.tmp 3) = .pointer (some ⟨g, 0, none⟩) := H.base 3 rfl
            (simp only [execOp]; try simp only [Option.map]); (try simp only [List.map_toArray, List.map_cons, List.map_nil]); (simp only [e3]; go_simp)
          · refine asked_pure rfl rfl (fun _ _ h => h) (fun _ _ _ => rfl) (fun l a W H => ?_)
            have e36 : a.eval (.tmp 36) = .pointer (some ⟨g, 0, none⟩) := H.facts 36 rfl
            have c0 := cell_below H.s.2 c0
            (simp only [execOp]; try simp only [Option.map]); (try simp only [List.map_toArray, List.map_cons, List.map_nil]); (simp only [e36]; go_simp)
          · refine asked_pure rfl rfl (fun _ _ h => h) (fun _ _ _ => rfl) (fun l a W H => ?_)
            have e37 : a.eval (.tmp 37) = .slice ua n ca := H.facts 37 rfl
            exact run_len rfl e37 Try.underlying38
          · refine asked_pure rfl rfl (fun _ _ h => h) (fun _ _ _ => rfl) (fun l a W H => ?_)
            have e35 : a.eval (.tmp 35) = .int .i64 (endF e v nb) := H.facts 35 rfl
            exact run_assign rfl e35
          · refine asked_pure rfl rfl (fun _ _ h => h) (fun _ _ _ => rfl) (fun l a W H => ?_)
            have e38 : a.eval (.tmp 38) = .int .i64 (n : Nat) := H.facts 38 rfl
            exact run_assign rfl e38
        · intro l s W _ hS hs
          have h6 : s 6 = .int .i64 (endF e v nb) := hs 6 rfl
          have h7 : s 7 = .int .i64 (n : Nat) := hs 7 rfl
          have hBf := bel_to hBwr hS.2 hBwr.size
          clear hs hS
          simp [overlay, dstsOf]
          go_wp2
          go_ret2
          rw [h6, h7]
          exact ⟨by rw [hst2.out]; rfl, hBf⟩
end Go.Proofs.Ytbjnhicikkjadab
namespace Go.Proofs.Ytbjnhicikkjadab
open Go.RowKit Ir

theorem sized_eq (F : Fun) : sized F = (decide (0 ≤ F.p) && (decide (F.p ≤ 4) && (decide (F.p ≤ F.v) && (decide (F.v ≤ 32) && (decide (1 ≤ (F.bs.length : Int)) && decide ((F.bs.length : Int) ≤ 16)))))) := by
  rw [Bool.eq_iff_iff]
  simp [sized]
  omega
set_option maxHeartbeats 1000000 in
set_option maxRecDepth 100000 in
theorem sized_any (F : Fun) (ub : Option Addr) (cb : Nat) (w : World) : Calls Try.prog 14 #[.agg #[.int .i64 F.p, .int .i64 F.v, .slice ub F.bs.length cb]] w fun r w' => r = .returned (.bool (sized F)) ∧ Below w.heap.size w w' := by
  have hE := hide (sized_eq F)
  go_enter Try.func14, Try.ntmps14
  go_wp2_with fail
  all_goals
    go_ret
    refine ⟨?_, bel1 _ _⟩
    rw [hE.out]
    simp_all <;> (intros; omega)

def faultV (c : Int × Int × Int) : Value := .agg #[.int .i64 c.1, .int .i64 c.2.1, .int .i64 c.2.2]
/-- Three cells of a result of the call's own, in a later world. -/
theorem box33 {w w1 : World} (hB : Below (w.alloc (.cells #[.int .i64 0, .int .i64 0, .int .i64 0] 52)).heap.size (w.alloc (.cells #[.int .i64 0, .int .i64 0, .int .i64 0] 52)) w1) :
    w1.cell? ⟨w.heap.size, 0, none⟩ = some (.int .i64 0) ∧ w1.cell? ⟨w.heap.size, 1, none⟩ = some (.int .i64 0) ∧ w1.cell? ⟨w.heap.size, 2, none⟩ = some (.int .i64 0) ∧
    w1.frozen? ⟨w.heap.size, 0, none⟩ = false ∧ w1.frozen? ⟨w.heap.size, 1, none⟩ = false ∧ w1.frozen? ⟨w.heap.size, 2, none⟩ = false := by
  have hn := heap_alloc_new w (.cells #[.int .i64 0, .int .i64 0, .int .i64 0] 52)
  have hb : w1.heap[w.heap.size]? = some (.cells #[.int .i64 0, .int .i64 0, .int .i64 0] 52) := by
    rw [hB.block _ (by simp)]
    exact hn
  exact ⟨box_cell hB 0 rfl, box_cell hB 1 rfl, box_cell hB 2 rfl, frozen_of_row _ _ _ _ _ hb, frozen_of_row _ _ _ _ _ hb, frozen_of_row _ _ _ _ _ hb⟩

/-- Three cells, stored one behind the other. -/
theorem set3 {w : World} {g : Nat} {x0 x1 x2 : Value} (a b c : Value) (r0 : w.cell? ⟨g, 0, none⟩ = some x0) (r1 : w.cell? ⟨g, 1, none⟩ = some x1) (r2 : w.cell? ⟨g, 2, none⟩ = some x2) :
    (w.setCell ⟨g, 0, none⟩ a).cell? ⟨g, 0, none⟩ = some a ∧ ((w.setCell ⟨g, 0, none⟩ a).setCell ⟨g, 1, none⟩ b).cell? ⟨g, 1, none⟩ = some b ∧ (((w.setCell ⟨g, 0, none⟩ a).setCell ⟨g, 1, none⟩ b).setCell ⟨g, 2, none⟩ c).cell? ⟨g, 2, none⟩ = some c := by
  have h1 : (w.setCell ⟨g, 0, none⟩ a).cell? ⟨g, 1, none⟩ = some x1 := (World.cell?_setCell_other (w := w) (a := ⟨g, 0, none⟩) (b := ⟨g, 1, none⟩) (v := a) (by simp)).trans r1
  have h2 : (w.setCell ⟨g, 0, none⟩ a).cell? ⟨g, 2, none⟩ = some x2 := (World.cell?_setCell_other (w := w) (a := ⟨g, 0, none⟩) (b := ⟨g, 2, none⟩) (v := a) (by simp)).trans r2
  have h3 : ((w.setCell ⟨g, 0, none⟩ a).setCell ⟨g, 1, none⟩ b).cell? ⟨g, 2, none⟩ = some x2 := (World.cell?_setCell_other (w := w.setCell ⟨g, 0, none⟩ a) (a := ⟨g, 1, none⟩) (b := ⟨g, 2, none⟩) (v := b) (by simp)).trans h2
  exact ⟨World.cell?_setCell_same (w := w) (a := ⟨g, 0, none⟩) (v := a) r0, World.cell?_setCell_same (w := w.setCell ⟨g, 0, none⟩ a) (a := ⟨g, 1, none⟩) (v := b) h1, World.cell?_setCell_same (w := (w.setCell ⟨g, 0, none⟩ a).setCell ⟨g, 1, none⟩ b) (a := ⟨g, 2, none⟩) (v := c) h3⟩
theorem bel_set3 {B : Nat} {w w1 : World} (h : Below B w w1) {g : Nat} (hg : B ≤ g) (a b c : Value) : Below B w (((w1.setCell ⟨g, 0, none⟩ a).setCell ⟨g, 1, none⟩ b).setCell ⟨g, 2, none⟩ c) :=
  ((h.setCell (p := ⟨g, 0, none⟩) hg a).setCell (p := ⟨g, 1, none⟩) hg b).setCell (p := ⟨g, 2, none⟩) hg c
set_option maxHeartbeats 1000000 in
set_option maxRecDepth 100000 in
theorem check_any (F : Fun) (v : Value) (w : World) (hv : FunV w v F) : Calls Try.prog 10 #[v] w fun r w' => r = .returned (faultV (chk F)) ∧ Below w.heap.size w w' := by
  obtain ⟨u, rfl, hu⟩ := hv
  obtain ⟨ub, cb, rfl⟩ := hu.slice
  have hB0 := bel1 w (.cells #[.int .i64 F.p, .int .i64 F.v, .slice ub F.bs.length cb] 28)
  have hz1 : (w.alloc (.cells #[.int .i64 F.p, .int .i64 F.v, .slice ub F.bs.length cb] 28)).heap.size = w.heap.size + 1 := by simp
  have hB1 := bel1 (w.alloc (.cells #[.int .i64 F.p, .int .i64 F.v, .slice ub F.bs.length cb] 28)) (.cells #[.int .i64 0, .int .i64 0, .int .i64 0] 52)
  have hs := hide (sized_any F ub cb ((w.alloc (.cells #[.int .i64 F.p, .int .i64 F.v, .slice ub F.bs.length cb] 28)).alloc (.cells #[.int .i64 0, .int .i64 0, .int .i64 0] 52)))
  have HU := hide ((hu.below hB0).below hB1)
  have hB01 := bel_of hB0 hB1
  clear hu
  go_enter Try.func10, Try.ntmps10
  go_wp2_with fail
  refine hs.out.mono ?_
  rintro r w1 ⟨rfl, hB2⟩
  have hbx := hide (box33 hB2)
  have hc0 := box_cell (bel_of hB1 hB2) 0 rfl
  have hc1 := box_cell (bel_of hB1 hB2) 1 rfl
  have hc2 := box_cell (bel_of hB1 hB2) 2 rfl
  rw [hz1] at hbx
  have HU1 := hide (HU.out.below hB2)
  have hBw1 := bel_of hB01 hB2
  clear hs HU hB2 hB0 hB1 hB01
  cases hsz : sized F with
  | false =>
    have he : Hid (chk F = (2, -1, -1)) := by show _ = _; unfold chk; rw [if_pos hsz]
    obtain ⟨r0, r1, r2, f0, f1, f2⟩ := hbx.out
    obtain ⟨q0, q1, q2⟩ := set3 (.int .i64 2) (.int .i64 (-1)) (.int .i64 (-1)) r0 r1 r2
    go_wp2_with fail
    refine bodyPost_ret (v := .agg #[.int .i64 2, .int .i64 (-1), .int .i64 (-1)]) (by simp [results, Try.results10, go_sem, q0, q1, q2]) rfl ?_
    exact ⟨by rw [he.out]; rfl, bel_set3 hBw1 (by omega) _ _ _⟩
  | true =>
    have he : Hid (chk F = blks F.v F.bs.length F.bs 0) := by show _ = _; unfold chk; rw [if_neg (by simp [hsz])]
    have hlen : F.bs.length ≤ 16 := by simp [sized] at hsz; omega
    have hBW := hide hBw1
    clear hsz hBw1
    go_wp2_with fail
    go_loopw [3, 4, 5, 6, 14] (fun _ _ _ _ iv wr => ∃ j : Nat, j ≤ F.bs.length ∧ iv = .int .i64 j ∧ Hid (blks F.v F.bs.length F.bs 0 = blks F.v F.bs.length (F.bs.drop j) j) ∧ Below w1.heap.size w1 wr) (fun _ _ _ _ iv _ => F.bs.length - (intOf iv).toNat)
    case atStart => exact ⟨0, by omega, rfl, rfl, Below.refl _ _⟩
    case round =>
      obtain ⟨j, hj, rfl, hst, hBr⟩ := hrel
      have hlt1 : w.heap.size + 1 < w1.heap.size := World.block_lt_of_cell? w1 _ hbx.out.1
      by_cases hlt : j < F.bs.length
      · obtain ⟨gb, off, rfl, ui, ⟨c0, c1, c2, c3, c4⟩, hui⟩ := SlV.at (HU1.out.below hBr) j hlt
        have hstep := hide (blks_step (v := F.v) (nb := F.bs.length) hlt)
        generalize F.bs.getD j Blk.zero = b at *
        obtain ⟨is, e⟩ := b
        simp only at c1 c2 c3 c4 hui
        obtain ⟨ai, ci, rfl⟩ := hui.slice
        have hBx := hBr.alloc hBr.size (.cells #[.slice ai is.length ci, .int .u8 e.k, .int .i64 e.a, .int .i64 e.to, .int .i64 e.el] 40)
        have hF := hide (blockFault_any ⟨is, e⟩ _ F.v F.bs.length _ (hui.below (bel1 wr (.cells #[.slice ai is.length ci, .int .u8 e.k, .int .i64 e.a, .int .i64 e.to, .int .i64 e.el] 40))))
        unfold blkV at hF
        simp only at hF
        have d0 := cell_below hBx hc0
        have d1 := cell_below hBx hc1
        have d2 := cell_below hBx hc2
        clear hui
        go_wp2_with fail
        refine hF.out.mono ?_
        rintro x w2 ⟨rfl, hB2⟩
        have hBw := bel_of hBx hB2
        clear hF hB2 hBx hBr c0 c1 c2 c3 c4 d0 d1 d2
        generalize blkF ⟨is, e⟩ F.v F.bs.length = f at *
        obtain ⟨f1, f2⟩ := f
        simp only at hstep ⊢
        by_cases hz : f1 = 0
        · subst hz
          have hst2 : Hid (blks F.v F.bs.length F.bs 0 = blks F.v F.bs.length (F.bs.drop (j + 1)) (j + 1)) := by
            show _ = _
            rw [hst.out, hstep.out, if_pos rfl]
          clear hst hstep
          go_wp2_with fail
          go_roundw
          case rel => exact ⟨j + 1, by omega, by go_num, hst2, hBw⟩
          case measure => simp [intOf]; omega
        · have hst2 : Hid (blks F.v F.bs.length F.bs 0 = (f1, (j : Int), f2)) := by
            show _ = _
            rw [hst.out, hstep.out, if_neg hz]
          have hzb : (f1 == 0) = false := by simpa using hz
          have hzb2 : (f1 != 0) = true := by simpa using hz
          obtain ⟨r0, r1, r2, g0, g1, g2⟩ := hbx.out
          have r0 := cell_below hBw r0
          have r1 := cell_below hBw r1
          have r2 := cell_below hBw r2
          have g0 := (hBw.frozen (p := ⟨w.heap.size + 1, 0, none⟩) hlt1).trans g0
          have g1 := (hBw.frozen (p := ⟨w.heap.size + 1, 1, none⟩) hlt1).trans g1
          have g2 := (hBw.frozen (p := ⟨w.heap.size + 1, 2, none⟩) hlt1).trans g2
          obtain ⟨q0, q1, q2⟩ := set3 (.int .i64 f1) (.int .i64 (j : Nat)) (.int .i64 f2) r0 r1 r2
          clear hst hstep hz
          go_wp2_with fail
          refine bodyPost_ret (v := .agg #[.int .i64 f1, .int .i64 (j : Nat), .int .i64 f2]) (by simp [results, Try.results10, go_sem, q0, q1, q2]) rfl ?_
          exact ⟨by rw [he.out, hst2.out]; rfl, bel_set3 (bel_of hBW.out hBw) (by omega) _ _ _⟩
      · obtain rfl : j = F.bs.length := by omega
        have hst2 : Hid (chk F = (0, 0, 0)) := by
          show _ = _
          rw [he.out, hst.out, blks_end]
        obtain ⟨r0, r1, r2, g0, g1, g2⟩ := hbx.out
        have r0 := cell_below hBr r0
        have r1 := cell_below hBr r1
        have r2 := cell_below hBr r2
        have g0 := (hBr.frozen (p := ⟨w.heap.size + 1, 0, none⟩) hlt1).trans g0
        have g1 := (hBr.frozen (p := ⟨w.heap.size + 1, 1, none⟩) hlt1).trans g1
        have g2 := (hBr.frozen (p := ⟨w.heap.size + 1, 2, none⟩) hlt1).trans g2
        obtain ⟨q0, q1, q2⟩ := set3 (.int .i64 0) (.int .i64 0) (.int .i64 0) r0 r1 r2
        clear he hst
        go_wp2_with fail
        refine bodyPost_ret (v := .agg #[.int .i64 0, .int .i64 0, .int .i64 0]) (by simp [results, Try.results10, go_sem, q0, q1, q2]) rfl ?_
        exact ⟨by rw [hst2.out]; rfl, bel_set3 (bel_of hBW.out hBr) (by omega) _ _ _⟩
end Go.Proofs.Ytbjnhicikkjadab
