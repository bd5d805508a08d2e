/- ir.blockFault, ir.sized, ir.Check. -/
import Derived.Test.YtepmbkiojpffpaaInsF
import Derived.Test.YtepmbkiojpffpaaOps
namespace Go.Proofs.Ytepmbkiojpffpaa
open Go.RowKit Ir

/-- What is known of each temporary that blockFault's last statement writes. -/
def Gbf (g : Nat) (v nb : Int) (e : En) (ua : Option Addr) (n ca : Nat) : Tmp → Value → World → Prop
  | 31, xx, _ => xx = .pointer (some ⟨g, 1, none⟩)
  | 32, xx, _ => xx = endV e
  | 33, xx, _ => xx = .int .i64 v
  | 34, xx, _ => xx = .int .i64 nb
  | 35, xx, _ => xx = .int .i64 (endF e v nb)
  | 36, xx, _ => xx = .pointer (some ⟨g, 0, none⟩)
  | 37, xx, _ => xx = .slice ua n ca
  | 38, xx, _ => xx = .int .i64 (n : Nat)
  | 6, xx, _ => xx = .int .i64 (endF e v nb)
  | 7, xx, _ => xx = .int .i64 (n : Nat)
  | _, _, _ => True

theorem boxB {w w1 : World} {u : Value} {e : En} (hB : Below (w.alloc (.cells #[u, .int .u8 e.k, .int .i64 e.a, .int .i64 e.to, .int .i64 e.el] 60)).heap.size (w.alloc (.cells #[u, .int .u8 e.k, .int .i64 e.a, .int .i64 e.to, .int .i64 e.el] 60)) w1) : BlkCells w1 w.heap.size 0 u e :=
  ⟨box_cell hB 0 rfl, box_cell hB 1 rfl, box_cell hB 2 rfl, box_cell hB 3 rfl, box_cell hB 4 rfl⟩
theorem BlkCells.zero {w : World} {b : Nat} {u : Value} {e : En} (h : BlkCells w b 0 u e) : w.cell? ⟨b, 0, none⟩ = some u ∧ w.cell? ⟨b, 1, none⟩ = some (.int .u8 e.k) ∧ w.cell? ⟨b, 2, none⟩ = some (.int .i64 e.a) ∧ w.cell? ⟨b, 3, none⟩ = some (.int .i64 e.to) ∧ w.cell? ⟨b, 4, none⟩ = some (.int .i64 e.el) :=
  ⟨h.c0, h.c1, h.c2, h.c3, h.c4⟩

set_option maxHeartbeats 2000000 in
set_option maxRecDepth 100000 in
theorem blockFault_any (b : Blk) (u : Value) (v nb : Int) (w : World) (hu : InssV w u b.ins) :
    Calls Try.prog 36 #[blkV u b.e, .int .i64 v, .int .i64 nb] w fun r w' => r = .returned (.tuple #[.int .i64 (blkF b v nb).1, .int .i64 (blkF b v nb).2]) ∧ Below w.heap.size w w' := by
  obtain ⟨is, e⟩ := b
  simp only at hu ⊢
  obtain ⟨ua, ca, rfl⟩ := hu.slice
  have hB0 := bel1 w (.cells #[.slice ua is.length ca, .int .u8 e.k, .int .i64 e.a, .int .i64 e.to, .int .i64 e.el] 60)
  have hbox := hide (boxB (Below.refl _ (w.alloc (.cells #[.slice ua is.length ca, .int .u8 e.k, .int .i64 e.a, .int .i64 e.to, .int .i64 e.el] 60))))
  have HU := hide (hu.below hB0)
  unfold blkV
  clear hu
  by_cases h32 : 32 < is.length
  · have he : Hid (blkF ⟨is, e⟩ v nb = (9, -1)) := by show _ = _; unfold blkF; rw [if_pos h32]
    have h32' : (32 : Int) < (is.length : Int) := by omega
    go_enter Try.func36, Try.ntmps36
    go_wp2_with fail
    go_ret2
    exact ⟨by rw [he.out]; rfl, hB0⟩
  · have he : Hid (blkF ⟨is, e⟩ v nb = if (insFs v is 0).1 = 0 then (endF e v nb, (is.length : Int)) else insFs v is 0) := by show _ = _; unfold blkF; rw [if_neg h32]
    have h32' : (is.length : Int) ≤ 32 := by omega
    go_enter Try.func36, Try.ntmps36
    go_wp2_with fail
    generalize hw0 : w.alloc (.cells #[.slice ua is.length ca, .int .u8 e.k, .int .i64 e.a, .int .i64 e.to, .int .i64 e.el] 60) = w0 at *
    clear hw0
    go_loopw [8, 9, 10, 18] (fun _ _ _ iv wr => ∃ j : Nat, j ≤ is.length ∧ iv = .int .i64 j ∧ Hid (insFs v is 0 = insFs v (is.drop j) j) ∧ Below w0.heap.size w0 wr) (fun _ _ _ iv _ => is.length - (intOf iv).toNat)
    case atStart => exact ⟨0, by omega, rfl, rfl, Below.refl _ _⟩
    case round =>
      obtain ⟨j, hj, rfl, hst, hBr⟩ := hrel
      by_cases hlt : j < is.length
      · obtain ⟨gb, off, rfl, ui, ⟨c0, c1, c2, c3, c4, c5, c6⟩, hui⟩ := SlV.at (HU.out.below hBr) j hlt
        have hstep := hide (insFs_step (v := v) hlt)
        generalize is.getD j Ins.zero = i at *
        obtain ⟨ai, ci, rfl⟩ := hui.slice
        have hBx := hBr.alloc hBr.size (.cells #[.int .u8 i.k, .int .u8 i.op, .int .i64 i.d, .int .i64 i.a, .int .i64 i.b, .int .i64 i.n, .slice ai i.args.length ci] 65)
        have hF := hide (insFault_any i _ v _ (hui.below (bel1 wr (.cells #[.int .u8 i.k, .int .u8 i.op, .int .i64 i.d, .int .i64 i.a, .int .i64 i.b, .int .i64 i.n, .slice ai i.args.length ci] 65))))
        unfold insV at hF
        clear hui
        go_wp2_with fail
        refine hF.out.mono ?_
        rintro x w1 ⟨rfl, hB1⟩
        have hBw := bel_of hBx hB1
        clear hF hB1 hBx hBr c0 c1 c2 c3 c4 c5 c6
        by_cases hz : inF i v = 0
        · rw [hz]
          have hst2 : Hid (insFs v is 0 = insFs v (is.drop (j + 1)) (j + 1)) := by
            show _ = _
            rw [hst.out, hstep.out, if_pos hz]
          clear hst hstep hz
          go_wp2_with fail
          go_roundw
          case rel => exact ⟨j + 1, by omega, by go_num, hst2, hBw⟩
          case measure => simp [intOf]; omega
        · have hst2 : Hid (insFs v is 0 = (inF i v, (j : Int))) := by
            show _ = _
            rw [hst.out, hstep.out, if_neg hz]
          have hnz : Hid (inF i v ≠ 0) := hz
          have hzb : (inF i v == 0) = false := by simpa using hz
          have hzb2 : (inF i v != 0) = true := by simpa using hz
          clear hst hstep hz
          go_wp2_with fail
          go_ret2
          exact ⟨by rw [he.out, hst2.out, if_neg hnz.out]; rfl, bel_of hB0 hBw⟩
      · obtain rfl : j = is.length := by omega
        have hst2 : Hid (blkF ⟨is, e⟩ v nb = (endF e v nb, (is.length : Int))) := by
          show _ = _
          rw [he.out, hst.out, insFs_end]
          rfl
        obtain ⟨c0, c1, c2, c3, c4⟩ := (hbox.out.below hBr).zero
        have hBwr := bel_of hB0 hBr
        clear he hst HU hbox
        go_wp2_with fail
        generalize hgz : w.heap.size = g at c0 c1 c2 c3 c4 ⊢
        clear hgz
        generalize is.length = n at *
        refine wp_region_each (by kernel_rfl) (fun d x _ => Gbf g v nb e ua n ca d x wr) (fun _ W => wr.heap.size ≤ W.heap.size ∧ Below wr.heap.size wr W) (by kernel_rfl) ⟨Nat.le_refl _, (Below.refl _ _).drew⟩ ?_ ?_
        · refine And.intro ?_ (And.intro ?_ (And.intro ?_ (And.intro ?_ (And.intro ?_ (And.intro ?_ (And.intro ?_ (And.intro ?_ (And.intro ?_ (And.intro ?_ trivial)))))))))
          · refine asked_pure rfl rfl (fun _ _ h => h) (fun _ _ _ => rfl) (fun l a W H => ?_)
            have e3 : a.eval (.tmp 3) = .pointer (some ⟨g, 0, none⟩) := H.base 3 rfl
            (simp only [execOp]; try simp only [Option.map]); (try simp only [List.map_toArray, List.map_cons, List.map_nil]); (simp only [e3]; go_simp)
          · refine asked_pure rfl rfl (fun _ _ h => h) (fun _ _ _ => rfl) (fun l a W H => ?_)
            have e31 : a.eval (.tmp 31) = .pointer (some ⟨g, 1, none⟩) := H.facts 31 rfl
            exact run_load39 rfl e31 (cell_below H.s.2 c1) (cell_below H.s.2 c2) (cell_below H.s.2 c3) (cell_below H.s.2 c4)
          · refine asked_pure rfl rfl (fun _ _ h => h) (fun _ _ _ => rfl) (fun l a W H => ?_)
            have e1 : a.eval (.tmp 1) = .int .i64 v := H.base 1 rfl
            exact run_move rfl e1
          · refine asked_pure rfl rfl (fun _ _ h => h) (fun _ _ _ => rfl) (fun l a W H => ?_)
            have e2 : a.eval (.tmp 2) = .int .i64 nb := H.base 2 rfl
            exact run_move rfl e2
          · refine asked_call rfl Try.func39 (by kernel_rfl) (by kernel_rfl) rfl rfl (fun l a W H => ?_)
            have e32 : a.eval (.tmp 32) = endV e := H.facts 32 rfl
            have e33 : a.eval (.tmp 33) = .int .i64 v := H.facts 33 rfl
            have e34 : a.eval (.tmp 34) = .int .i64 nb := H.facts 34 rfl
            have ea : (#[.tmp 32, .tmp 33, .tmp 34] : Array Operand).map a.eval = #[endV e, .int .i64 v, .int .i64 nb] := by
              simp only [List.map_toArray, List.map_cons, List.map_nil, e32, e33, e34]
            rw [ea]
            refine (ends_any e v nb W).mono ?_
            rintro x w' ⟨rfl, hB⟩
            exact ⟨_, rfl, rfl, ⟨Nat.le_trans H.s.1 hB.size, bel_of H.s.2 hB⟩, fun _ _ _ h => h⟩
          · refine asked_pure rfl rfl (fun _ _ h => h) (fun _ _ _ => rfl) (fun l a W H => ?_)
            have e3 : a.eval (.tmp 3) = .pointer (some ⟨g, 0, none⟩) := H.base 3 rfl
            (simp only [execOp]; try simp only [Option.map]); (try simp only [List.map_toArray, List.map_cons, List.map_nil]); (simp only [e3]; go_simp)
          · refine asked_pure rfl rfl (fun _ _ h => h) (fun _ _ _ => rfl) (fun l a W H => ?_)
            have e36 : a.eval (.tmp 36) = .pointer (some ⟨g, 0, none⟩) := H.facts 36 rfl
            have c0 := cell_below H.s.2 c0
            (simp only [execOp]; try simp only [Option.map]); (try simp only [List.map_toArray, List.map_cons, List.map_nil]); (simp only [e36]; go_simp)
          · refine asked_pure rfl rfl (fun _ _ h => h) (fun _ _ _ => rfl) (fun l a W H => ?_)
            have e37 : a.eval (.tmp 37) = .slice ua n ca := H.facts 37 rfl
            exact run_len rfl e37 Try.underlying55
          · refine asked_pure rfl rfl (fun _ _ h => h) (fun _ _ _ => rfl) (fun l a W H => ?_)
            have e35 : a.eval (.tmp 35) = .int .i64 (endF e v nb) := H.facts 35 rfl
            exact run_assign rfl e35
          · refine asked_pure rfl rfl (fun _ _ h => h) (fun _ _ _ => rfl) (fun l a W H => ?_)
            have e38 : a.eval (.tmp 38) = .int .i64 (n : Nat) := H.facts 38 rfl
            exact run_assign rfl e38
        · intro l s W _ hS hs
          have h6 : s 6 = .int .i64 (endF e v nb) := hs 6 rfl
          have h7 : s 7 = .int .i64 (n : Nat) := hs 7 rfl
          have hBf := bel_to hBwr hS.2 hBwr.size
          clear hs hS
          simp [overlay, dstsOf]
          go_wp2
          go_ret2
          rw [h6, h7]
          exact ⟨by rw [hst2.out]; rfl, hBf⟩
end Go.Proofs.Ytepmbkiojpffpaa
