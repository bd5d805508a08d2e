/- mach.insFault: an instruction's fault, of so many registers and slots. -/
import Derived.Test.YtbjnhicikkjadaaIr
import Derived.Test.YtbjnhicikkjadaaCheck
namespace Go.Proofs.Ytbjnhicikkjadaa
open Go.RowKit Ir

theorem mbelow_any (n m : Int) (w : World) : Calls Try.prog 106 #[.int .i64 n, .int .i64 m] w fun e w' => e = .returned (.bool (inr n m)) ∧ w' = w := by
  go_enter Try.func106, Try.ntmps106
  go_wp2_with fail
  all_goals
    go_ret
    refine ⟨ret_eq ?_, rfl⟩
    simp_all [inr] <;> omega
theorem ofRegs_any (x : Int) (w : World) : Calls Try.prog 90 #[.int .i64 x] w fun e w' => e = .returned (.int .i64 (ofR x)) ∧ w' = w := by
  by_cases h : x = 21
  · subst h
    go_enter Try.func90, Try.ntmps90
    go_wp2_with fail
    go_ret
    exact ⟨rfl, rfl⟩
  · have hb : (x == 21) = false := by simpa using h
    have he : Hid (ofR x = x) := if_neg h
    go_enter Try.func90, Try.ntmps90
    go_wp2_with fail
    go_ret
    exact ⟨by rw [he.out]; rfl, rfl⟩
set_option maxHeartbeats 1000000 in
set_option maxRecDepth 100000 in
theorem slotFault_any (i : Ins) (ua : Option Addr) (ca : Nat) (reg r slot s : Int) (w : World) :
    Calls Try.prog 102 #[insV i (.slice ua i.args.length ca), .int .i64 reg, .int .i64 r, .int .i64 slot, .int .i64 s] w fun e w' => e = .returned (.int .i64 (slF i reg r slot s)) ∧ Below w.heap.size w w' := by
  obtain ⟨k, op, d, a, b, n, args⟩ := i
  simp only
  unfold insV
  have hB0 := bel1 w (.cells #[.int .u8 k, .int .u8 op, .int .i64 d, .int .i64 a, .int .i64 b, .int .i64 n, .slice ua args.length ca] 86)
  by_cases h1 : op = 0
  · subst h1
    by_cases h2 : b = 0
    · subst h2
      by_cases h3 : n = 0
      · subst h3
        by_cases h4 : args.length = 0
        · have he : Hid (slF ⟨k, 0, d, a, 0, 0, args⟩ reg r slot s = if inr reg r = false then 23 else if inr slot s = false then 24 else 0) := if_pos ⟨rfl, rfl, rfl, h4⟩
          have q1 := hide (mbelow_any reg r (w.alloc (.cells #[.int .u8 k, .int .u8 0, .int .i64 d, .int .i64 a, .int .i64 0, .int .i64 0, .slice ua args.length ca] 86)))
          have q2 := hide (mbelow_any slot s (w.alloc (.cells #[.int .u8 k, .int .u8 0, .int .i64 d, .int .i64 a, .int .i64 0, .int .i64 0, .slice ua args.length ca] 86)))
          rw [h4] at q1 q2 hB0 ⊢
          clear h4
          go_enter Try.func102, Try.ntmps102
          go_wp2_with fail
          refine q1.out.mono ?_
          rintro e w1 ⟨rfl, rfl⟩
          cases hr : inr reg r with
          | false =>
            clear q1 q2
            go_wp2_with fail
            go_ret
            exact ⟨by rw [he.out, if_pos hr]; rfl, hB0⟩
          | true =>
            clear q1
            go_wp2_with fail
            refine q2.out.mono ?_
            rintro e w1 ⟨rfl, rfl⟩
            clear q2
            cases hs : inr slot s with
            | false =>
              go_wp2_with fail
              go_ret
              exact ⟨by rw [he.out, if_neg (by simp [hr]), if_pos hs]; rfl, hB0⟩
            | true =>
              go_wp2_with fail
              go_ret
              exact ⟨by rw [he.out, if_neg (by simp [hr]), if_neg (by simp [hs])]; rfl, hB0⟩
        · have he : Hid (slF ⟨k, 0, d, a, 0, 0, args⟩ reg r slot s = 20) := if_neg (fun h => h4 h.2.2.2)
          have b1 : ((args.length : Int) == 0) = false := by simp; intro h; exact h4 (by simp [h])
          have b2 : ((args.length : Int) != 0) = true := by simp; intro h; exact h4 (by simp [h])
          go_enter Try.func102, Try.ntmps102
          go_wp2_with fail
          go_ret
          exact ⟨by rw [he.out]; rfl, hB0⟩
      · have he : Hid (slF ⟨k, 0, d, a, 0, n, args⟩ reg r slot s = 20) := if_neg (fun h => h3 h.2.2.1)
        have b1 : (n == 0) = false := by simpa using h3
        have b2 : (n != 0) = true := by simpa using h3
        go_enter Try.func102, Try.ntmps102
        go_wp2_with fail
        go_ret
        exact ⟨by rw [he.out]; rfl, hB0⟩
    · have he : Hid (slF ⟨k, 0, d, a, b, n, args⟩ reg r slot s = 20) := if_neg (fun h => h2 h.2.1)
      have b1 : (b == 0) = false := by simpa using h2
      have b2 : (b != 0) = true := by simpa using h2
      go_enter Try.func102, Try.ntmps102
      go_wp2_with fail
      go_ret
      exact ⟨by rw [he.out]; rfl, hB0⟩
  · have he : Hid (slF ⟨k, op, d, a, b, n, args⟩ reg r slot s = 20) := if_neg (fun h => h1 h.1)
    have b1 : (op == 0) = false := by simpa using h1
    have b2 : (op != 0) = true := by simpa using h1
    go_enter Try.func102, Try.ntmps102
    go_wp2_with fail
    go_ret
    exact ⟨by rw [he.out]; rfl, hB0⟩

theorem blk_one (w : World) (u : Value) (is : List Ins) (e : En) (h : InssV w u is) : BlksV (w.alloc (.cells #[u, .int .u8 e.k, .int .i64 e.a, .int .i64 e.to, .int .i64 e.el] 82)) (.slice (some ⟨w.heap.size, 0, none⟩) 1 1) [⟨is, e⟩] := by
  refine ⟨_, 1, rfl, by simp, by simp [maxLen], by simp, fun _ => ⟨_, _, rfl, fun j hj => ?_⟩⟩
  match j, hj with
  | 0, _ => exact ⟨u, boxB (e := e) (Below.refl _ _), h.below (bel1 _ _)⟩
theorem ins_one (w : World) (u : Value) (i : Ins) (h : IntsV w u i.args) : InssV (w.alloc (.cells #[.int .u8 i.k, .int .u8 i.op, .int .i64 i.d, .int .i64 i.a, .int .i64 i.b, .int .i64 i.n, u] 86)) (.slice (some ⟨w.heap.size, 0, none⟩) 1 1) [i] := by
  refine ⟨_, 1, rfl, by simp, by simp [maxLen], by simp, fun _ => ⟨_, _, rfl, fun j hj => ?_⟩⟩
  match j, hj with
  | 0, _ => exact ⟨u, boxI (i := i) (Below.refl _ _), h.below (bel1 _ _)⟩
theorem run_field33 (a b c : Int) (w : World) : (Instr.field 37 (.agg #[.int .i64 a, .int .i64 b, .int .i64 c]) 0).run Try.prog w = .ok (.int .i64 a) w := by
  simp [Instr.field, run_underlying Try.underlying37, go_sem, asAgg]
set_option maxHeartbeats 1000000 in
set_option maxRecDepth 100000 in
theorem plainFault_any (i : Ins) (u : Value) (r : Int) (w : World) (hu : IntsV w u i.args) (h0 : 0 ≤ r) (h1 : r ≤ 32) :
    Calls Try.prog 103 #[insV i u, .int .i64 r] w fun e w' => e = .returned (.int .i64 (ofR (inF i r))) ∧ Below w.heap.size w w' := by
  obtain ⟨ua, ca, rfl⟩ := hu.slice
  have hE : Hid ((chk ⟨0, r, [⟨[i], ⟨1, 0, 0, 0⟩⟩]⟩).1 = inF i r) := chk_one h0 h1
  have hB1 := bel1 w (.cells #[.int .u8 i.k, .int .u8 i.op, .int .i64 i.d, .int .i64 i.a, .int .i64 i.b, .int .i64 i.n, .slice ua i.args.length ca] 86)
  have hz1 : (w.alloc (.cells #[.int .u8 i.k, .int .u8 i.op, .int .i64 i.d, .int .i64 i.a, .int .i64 i.b, .int .i64 i.n, .slice ua i.args.length ca] 86)).heap.size = w.heap.size + 1 := by simp
  have hu1 := hu.below hB1
  generalize hW1 : w.alloc (.cells #[.int .u8 i.k, .int .u8 i.op, .int .i64 i.d, .int .i64 i.a, .int .i64 i.b, .int .i64 i.n, .slice ua i.args.length ca] 86) = W1 at *
  have hB2 := bel1 W1 (.cells #[.int .u8 i.k, .int .u8 i.op, .int .i64 i.d, .int .i64 i.a, .int .i64 i.b, .int .i64 i.n, .slice ua i.args.length ca] 86)
  have hI2 := ins_one W1 _ i hu1
  have hz2 : (W1.alloc (.cells #[.int .u8 i.k, .int .u8 i.op, .int .i64 i.d, .int .i64 i.a, .int .i64 i.b, .int .i64 i.n, .slice ua i.args.length ca] 86)).heap.size = w.heap.size + 1 + 1 := by simp [hz1]
  rw [hz1] at hI2
  generalize hW2 : W1.alloc (.cells #[.int .u8 i.k, .int .u8 i.op, .int .i64 i.d, .int .i64 i.a, .int .i64 i.b, .int .i64 i.n, .slice ua i.args.length ca] 86) = W2 at *
  have hB3 := bel1 W2 (.cells #[.slice (some ⟨w.heap.size + 1, 0, none⟩) 1 1, .int .u8 1, .int .i64 0, .int .i64 0, .int .i64 0] 82)
  have hI3 := hI2.below hB3
  have hz3 : (W2.alloc (.cells #[.slice (some ⟨w.heap.size + 1, 0, none⟩) 1 1, .int .u8 1, .int .i64 0, .int .i64 0, .int .i64 0] 82)).heap.size = w.heap.size + 1 + 1 + 1 := by simp [hz2]
  generalize hW3 : W2.alloc (.cells #[.slice (some ⟨w.heap.size + 1, 0, none⟩) 1 1, .int .u8 1, .int .i64 0, .int .i64 0, .int .i64 0] 82) = W3 at *
  have hB4 := bel1 W3 (.cells #[.slice (some ⟨w.heap.size + 1, 0, none⟩) 1 1, .int .u8 1, .int .i64 0, .int .i64 0, .int .i64 0] 82)
  have hV4 := blk_one W3 _ [i] ⟨1, 0, 0, 0⟩ hI3
  rw [hz3] at hV4
  have hC := hide (check_any ⟨0, r, [⟨[i], ⟨1, 0, 0, 0⟩⟩]⟩ _ _ ⟨_, rfl, hV4⟩)
  simp only at hC
  have hBall := bel_of (bel_of (bel_of hB1 hB2) hB3) hB4
  have E1 := hide hW1
  have E2 := hide hW2
  have E3 := hide hW3
  rw [← hW3, ← hW2, ← hW1] at hC
  generalize chk ⟨0, r, [⟨[i], ⟨1, 0, 0, 0⟩⟩]⟩ = c at *
  unfold faultV at hC
  have f33 := run_field33
  unfold insV
  clear h0 h1 hu hu1 hI2 hI3 hV4 hW1 hW2 hW3 hz1 hz2 hz3 hB1 hB2 hB3 hB4
  go_enter Try.func103, Try.ntmps103
  go_wp2_with fail
  refine hC.out.mono ?_
  rintro e w5 ⟨rfl, hB5⟩
  rw [E1.out, E2.out, E3.out] at hB5
  have hBw := bel_of hBall hB5
  have hO := hide (ofRegs_any c.1 w5)
  clear hC hB5 hBall
  go_wp2_with fail
  refine hO.out.mono ?_
  rintro e w6 ⟨rfl, rfl⟩
  clear hO
  go_wp2_with fail
  go_ret
  exact ⟨by rw [← hE.out]; rfl, hBw⟩
set_option maxHeartbeats 1000000 in
set_option maxRecDepth 100000 in
theorem mIns_any (i : Ins) (u : Value) (r s : Int) (w : World) (hu : IntsV w u i.args) (h0 : 0 ≤ r) (h1 : r ≤ 32) :
    Calls Try.prog 89 #[insV i u, .int .i64 r, .int .i64 s] w fun e w' => e = .returned (.int .i64 (mF i r s)) ∧ Below w.heap.size w w' := by
  obtain ⟨ua, ca, rfl⟩ := hu.slice
  have hB1 := bel1 w (.cells #[.int .u8 i.k, .int .u8 i.op, .int .i64 i.d, .int .i64 i.a, .int .i64 i.b, .int .i64 i.n, .slice ua i.args.length ca] 86)
  have hu1 := hu.below hB1
  by_cases k7 : i.k = 7
  · have hE : Hid (mF i r s = slF i i.a r i.d s) := if_pos k7
    have q := hide (slotFault_any i ua ca i.a r i.d s (w.alloc (.cells #[.int .u8 i.k, .int .u8 i.op, .int .i64 i.d, .int .i64 i.a, .int .i64 i.b, .int .i64 i.n, .slice ua i.args.length ca] 86)))
    unfold insV at q ⊢
    rw [k7] at q ⊢
    clear hu hu1
    go_enter Try.func89, Try.ntmps89
    go_wp2_with fail
    refine q.out.mono ?_
    rintro e w1 ⟨rfl, hB⟩
    rw [← k7] at hB
    have hBw := bel_of hB1 hB
    clear q hB
    go_wp2_with fail
    go_ret
    exact ⟨by rw [hE.out]; rfl, hBw⟩
  · by_cases k8 : i.k = 8
    · have hE : Hid (mF i r s = slF i i.d r i.a s) := by
        show _ = _
        unfold mF
        rw [if_neg k7, if_pos k8]
      have q := hide (slotFault_any i ua ca i.d r i.a s (w.alloc (.cells #[.int .u8 i.k, .int .u8 i.op, .int .i64 i.d, .int .i64 i.a, .int .i64 i.b, .int .i64 i.n, .slice ua i.args.length ca] 86)))
      unfold insV at q ⊢
      rw [k8] at q ⊢
      clear hu hu1
      go_enter Try.func89, Try.ntmps89
      go_wp2_with fail
      refine q.out.mono ?_
      rintro e w1 ⟨rfl, hB⟩
      rw [← k8] at hB
      have hBw := bel_of hB1 hB
      clear q hB
      go_wp2_with fail
      go_ret
      exact ⟨by rw [hE.out]; rfl, hBw⟩
    · have hE : Hid (mF i r s = ofR (inF i r)) := by
        show _ = _
        unfold mF
        rw [if_neg k7, if_neg k8]
      have b7 : (i.k == 7) = false := by simpa using k7
      have b8 : (i.k == 8) = false := by simpa using k8
      have q := hide (plainFault_any i _ r _ hu1 h0 h1)
      unfold insV at q ⊢
      clear hu hu1
      go_enter Try.func89, Try.ntmps89
      go_wp2_with fail
      refine q.out.mono ?_
      rintro e w1 ⟨rfl, hB⟩
      have hBw := bel_of hB1 hB
      clear q hB
      go_wp2_with fail
      go_ret
      exact ⟨by rw [hE.out]; rfl, hBw⟩
end Go.Proofs.Ytbjnhicikkjadaa
namespace Go.Proofs.Ytbjnhicikkjadaa
open Go.RowKit Ir

/-- What is known of each temporary that blockFault's last statement writes. -/
def Gmb (g : Nat) (v nb : Int) (e : En) (ua : Option Addr) (n ca : Nat) : Tmp → Value → World → Prop
  | 34, xx, _ => xx = .pointer (some ⟨g, 1, none⟩)
  | 35, xx, _ => xx = endV e
  | 36, xx, _ => xx = .int .i64 v
  | 37, xx, _ => xx = .int .i64 nb
  | 38, xx, _ => xx = .int .i64 (endF e v nb)
  | 39, xx, _ => xx = .int .i64 (meF e v nb)
  | 40, xx, _ => xx = .pointer (some ⟨g, 0, none⟩)
  | 41, xx, _ => xx = .slice ua n ca
  | 42, xx, _ => xx = .int .i64 (n : Nat)
  | 8, xx, _ => xx = .int .i64 (meF e v nb)
  | 9, xx, _ => xx = .int .i64 (n : Nat)
  | _, _, _ => True

set_option maxHeartbeats 2000000 in
set_option maxRecDepth 100000 in
theorem mBlk_any (b : Blk) (u : Value) (v s nb : Int) (w : World) (hu : InssV w u b.ins) (h0 : 0 ≤ v) (h1 : v ≤ 32) :
    Calls Try.prog 67 #[blkV u b.e, .int .i64 v, .int .i64 s, .int .i64 nb] w fun r w' => r = .returned (.tuple #[.int .i64 (mbF b v s nb).1, .int .i64 (mbF b v s nb).2]) ∧ Below w.heap.size w w' := by
  obtain ⟨is, e⟩ := b
  simp only at hu ⊢
  obtain ⟨ua, ca, rfl⟩ := hu.slice
  have hB0 := bel1 w (.cells #[.slice ua is.length ca, .int .u8 e.k, .int .i64 e.a, .int .i64 e.to, .int .i64 e.el] 82)
  have hbox := hide (boxB (Below.refl _ (w.alloc (.cells #[.slice ua is.length ca, .int .u8 e.k, .int .i64 e.a, .int .i64 e.to, .int .i64 e.el] 82))))
  have HU := hide (hu.below hB0)
  unfold blkV
  clear hu
  by_cases h400 : 400 < is.length
  · have he : Hid (mbF ⟨is, e⟩ v s nb = (9, -1)) := by show _ = _; unfold mbF; rw [if_pos h400]
    have h400' : (400 : Int) < (is.length : Int) := by omega
    go_enter Try.func67, Try.ntmps67
    go_wp2_with fail
    go_ret2
    exact ⟨by rw [he.out]; rfl, hB0⟩
  · have he : Hid (mbF ⟨is, e⟩ v s nb = if (mFs v s is 0).1 = 0 then (meF e v nb, (is.length : Int)) else mFs v s is 0) := by show _ = _; unfold mbF; rw [if_neg h400]
    have h400' : (is.length : Int) ≤ 400 := by omega
    go_enter Try.func67, Try.ntmps67
    go_wp2_with fail
    generalize hw0 : w.alloc (.cells #[.slice ua is.length ca, .int .u8 e.k, .int .i64 e.a, .int .i64 e.to, .int .i64 e.el] 82) = w0 at *
    clear hw0
    go_loopw [10, 11, 12, 20] (fun _ _ _ iv wr => ∃ j : Nat, j ≤ is.length ∧ iv = .int .i64 j ∧ Hid (mFs v s is 0 = mFs v s (is.drop j) j) ∧ Below w0.heap.size w0 wr) (fun _ _ _ iv _ => is.length - (intOf iv).toNat)
    case atStart => exact ⟨0, by omega, rfl, rfl, Below.refl _ _⟩
    case round =>
      obtain ⟨j, hj, rfl, hst, hBr⟩ := hrel
      by_cases hlt : j < is.length
      · obtain ⟨gb, off, rfl, ui, ⟨c0, c1, c2, c3, c4, c5, c6⟩, hui⟩ := SlV.at (HU.out.below hBr) j hlt
        have hstep := hide (mFs_step (r := v) (s := s) hlt)
        generalize is.getD j Ins.zero = i at *
        obtain ⟨ai, ci, rfl⟩ := hui.slice
        have hBx := hBr.alloc hBr.size (.cells #[.int .u8 i.k, .int .u8 i.op, .int .i64 i.d, .int .i64 i.a, .int .i64 i.b, .int .i64 i.n, .slice ai i.args.length ci] 86)
        have hF := hide (mIns_any i _ v s _ (hui.below (bel1 wr (.cells #[.int .u8 i.k, .int .u8 i.op, .int .i64 i.d, .int .i64 i.a, .int .i64 i.b, .int .i64 i.n, .slice ai i.args.length ci] 86))) h0 h1)
        unfold insV at hF
        clear hui
        go_wp2_with fail
        refine hF.out.mono ?_
        rintro x w1 ⟨rfl, hB1⟩
        have hBw := bel_of hBx hB1
        clear hF hB1 hBx hBr c0 c1 c2 c3 c4 c5 c6
        by_cases hz : mF i v s = 0
        · rw [hz]
          have hst2 : Hid (mFs v s is 0 = mFs v s (is.drop (j + 1)) (j + 1)) := by
            show _ = _
            rw [hst.out, hstep.out, if_pos hz]
          clear hst hstep hz
          go_wp2_with fail
          go_roundw
          case rel => exact ⟨j + 1, by omega, by go_num, hst2, hBw⟩
          case measure => simp [intOf]; omega
        · have hst2 : Hid (mFs v s is 0 = (mF i v s, (j : Int))) := by
            show _ = _
            rw [hst.out, hstep.out, if_neg hz]
          have hnz : Hid (mF i v s ≠ 0) := hz
          have hzb : (mF i v s == 0) = false := by simpa using hz
          have hzb2 : (mF i v s != 0) = true := by simpa using hz
          clear hst hstep hz
          go_wp2_with fail
          go_ret2
          exact ⟨by rw [he.out, hst2.out, if_neg hnz.out]; rfl, bel_of hB0 hBw⟩
      · obtain rfl : j = is.length := by omega
        have hst2 : Hid (mbF ⟨is, e⟩ v s nb = (meF e v nb, (is.length : Int))) := by
          show _ = _
          rw [he.out, hst.out, mFs_end]
          rfl
        obtain ⟨c0, c1, c2, c3, c4⟩ := (hbox.out.below hBr).zero
        have hBwr := bel_of hB0 hBr
        clear he hst HU hbox
        go_wp2_with fail
        generalize hgz : w.heap.size = g at c0 c1 c2 c3 c4 ⊢
        clear hgz
        generalize is.length = n at *
        refine wp_region_each (by kernel_rfl) (fun d x _ => Gmb g v nb e ua n ca d x wr) (fun _ W => wr.heap.size ≤ W.heap.size ∧ Below wr.heap.size wr W) (by kernel_rfl) ⟨Nat.le_refl _, (Below.refl _ _).drew⟩ ?_ ?_
        · refine And.intro ?_ (And.intro ?_ (And.intro ?_ (And.intro ?_ (And.intro ?_ (And.intro ?_ (And.intro ?_ (And.intro ?_ (And.intro ?_ (And.intro ?_ (And.intro ?_ trivial))))))))))
          · refine asked_pure rfl rfl (fun _ _ h => h) (fun _ _ _ => rfl) (fun l a W H => ?_)
            have e4 : a.eval (.tmp 4) = .pointer (some ⟨g, 0, none⟩) := H.base 4 rfl
            (simp only [execOp]; try simp only [Option.map]); (try simp only [List.map_toArray, List.map_cons, List.map_nil]); (simp only [e4]; go_simp)
          · refine asked_pure rfl rfl (fun _ _ h => h) (fun _ _ _ => rfl) (fun l a W H => ?_)
            have e34 : a.eval (.tmp 34) = .pointer (some ⟨g, 1, none⟩) := H.facts 34 rfl
            exact run_load39 rfl e34 (cell_below H.s.2 c1) (cell_below H.s.2 c2) (cell_below H.s.2 c3) (cell_below H.s.2 c4)
          · refine asked_pure rfl rfl (fun _ _ h => h) (fun _ _ _ => rfl) (fun l a W H => ?_)
            have e1 : a.eval (.tmp 1) = .int .i64 v := H.base 1 rfl
            exact run_move rfl e1
          · refine asked_pure rfl rfl (fun _ _ h => h) (fun _ _ _ => rfl) (fun l a W H => ?_)
            have e2 : a.eval (.tmp 3) = .int .i64 nb := H.base 3 rfl
            exact run_move rfl e2
          · refine asked_call rfl Try.func83 (by kernel_rfl) (by kernel_rfl) rfl rfl (fun l a W H => ?_)
            have e32 : a.eval (.tmp 35) = endV e := H.facts 35 rfl
            have e33 : a.eval (.tmp 36) = .int .i64 v := H.facts 36 rfl
            have e34 : a.eval (.tmp 37) = .int .i64 nb := H.facts 37 rfl
            have ea : (#[.tmp 35, .tmp 36, .tmp 37] : Array Operand).map a.eval = #[endV e, .int .i64 v, .int .i64 nb] := by
              simp only [List.map_toArray, List.map_cons, List.map_nil, e32, e33, e34]
            rw [ea]
            refine (ends_any e v nb W).mono ?_
            rintro x w' ⟨rfl, hB⟩
            exact ⟨_, rfl, rfl, ⟨Nat.le_trans H.s.1 hB.size, bel_of H.s.2 hB⟩, fun _ _ _ h => h⟩
          · refine asked_call rfl Try.func90 (by kernel_rfl) (by kernel_rfl) rfl rfl (fun l a W H => ?_)
            have e38 : a.eval (.tmp 38) = .int .i64 (endF e v nb) := H.facts 38 rfl
            have ea : (#[.tmp 38] : Array Operand).map a.eval = #[.int .i64 (endF e v nb)] := by
              simp only [List.map_toArray, List.map_cons, List.map_nil, e38]
            rw [ea]
            refine (ofRegs_any (endF e v nb) W).mono ?_
            rintro x w' ⟨rfl, rfl⟩
            exact ⟨_, rfl, rfl, H.s, fun _ _ _ h => h⟩
          · refine asked_pure rfl rfl (fun _ _ h => h) (fun _ _ _ => rfl) (fun l a W H => ?_)
            have e4 : a.eval (.tmp 4) = .pointer (some ⟨g, 0, none⟩) := H.base 4 rfl
            (simp only [execOp]; try simp only [Option.map]); (try simp only [List.map_toArray, List.map_cons, List.map_nil]); (simp only [e4]; go_simp)
          · refine asked_pure rfl rfl (fun _ _ h => h) (fun _ _ _ => rfl) (fun l a W H => ?_)
            have e40 : a.eval (.tmp 40) = .pointer (some ⟨g, 0, none⟩) := H.facts 40 rfl
            have c0 := cell_below H.s.2 c0
            (simp only [execOp]; try simp only [Option.map]); (try simp only [List.map_toArray, List.map_cons, List.map_nil]); (simp only [e40]; go_simp)
          · refine asked_pure rfl rfl (fun _ _ h => h) (fun _ _ _ => rfl) (fun l a W H => ?_)
            have e41 : a.eval (.tmp 41) = .slice ua n ca := H.facts 41 rfl
            exact run_len rfl e41 Try.underlying80
          · refine asked_pure rfl rfl (fun _ _ h => h) (fun _ _ _ => rfl) (fun l a W H => ?_)
            have e39 : a.eval (.tmp 39) = .int .i64 (meF e v nb) := H.facts 39 rfl
            exact run_assign rfl e39
          · refine asked_pure rfl rfl (fun _ _ h => h) (fun _ _ _ => rfl) (fun l a W H => ?_)
            have e42 : a.eval (.tmp 42) = .int .i64 (n : Nat) := H.facts 42 rfl
            exact run_assign rfl e42
        · intro l s W _ hS hs
          have h6 : s 8 = .int .i64 (meF e v nb) := hs 8 rfl
          have h7 : s 9 = .int .i64 (n : Nat) := hs 9 rfl
          have hBf := bel_to hBwr hS.2 hBwr.size
          clear hs hS
          simp [overlay, dstsOf]
          go_wp2
          go_ret2
          rw [h6, h7]
          exact ⟨by rw [hst2.out]; rfl, hBf⟩
end Go.Proofs.Ytbjnhicikkjadaa
namespace Go.Proofs.Ytbjnhicikkjadaa
open Go.RowKit Ir

def CodV (w : World) (v : Value) (C : Cod) : Prop := ∃ u, v = .agg #[.int .i64 C.p, .int .i64 C.r, .int .i64 C.s, u] ∧ BlksV w u C.bs
theorem CodV.below {w w' : World} {v : Value} {C : Cod} (h : CodV w v C) (hB : Below w.heap.size w w') : CodV w' v C := by
  obtain ⟨u, h1, h2⟩ := h
  exact ⟨u, h1, h2.below hB⟩
theorem msz_eq (C : Cod) : msz C = (decide (0 ≤ C.p) && (decide (C.p ≤ 4) && (decide (3 ≤ C.r) && (decide (C.r ≤ 8) && (decide (C.p ≤ C.s) && (decide (C.s ≤ 64) && (decide (1 ≤ (C.bs.length : Int)) && decide ((C.bs.length : Int) ≤ 16)))))))) := by
  rw [Bool.eq_iff_iff]
  simp [msz]
  omega
set_option maxHeartbeats 2000000 in
set_option maxRecDepth 100000 in
theorem msz_any (C : Cod) (ub : Option Addr) (cb : Nat) (w : World) : Calls Try.prog 66 #[.agg #[.int .i64 C.p, .int .i64 C.r, .int .i64 C.s, .slice ub C.bs.length cb]] w fun r w' => r = .returned (.bool (msz C)) ∧ Below w.heap.size w w' := by
  have hE := hide (msz_eq C)
  go_enter Try.func66, Try.ntmps66
  go_wp2_with fail
  all_goals
    go_ret
    refine ⟨?_, bel1 _ _⟩
    rw [hE.out]
    simp_all <;> (intros; omega)

set_option maxHeartbeats 1000000 in
set_option maxRecDepth 100000 in
theorem mCheck_any (C : Cod) (v : Value) (w : World) (hv : CodV w v C) : Calls Try.prog 41 #[v] w fun r w' => r = .returned (faultV (mchk C)) ∧ Below w.heap.size w w' := by
  obtain ⟨u, rfl, hu⟩ := hv
  obtain ⟨ub, cb, rfl⟩ := hu.slice
  have hB0 := bel1 w (.cells #[.int .i64 C.p, .int .i64 C.r, .int .i64 C.s, .slice ub C.bs.length cb] 42)
  have hz1 : (w.alloc (.cells #[.int .i64 C.p, .int .i64 C.r, .int .i64 C.s, .slice ub C.bs.length cb] 42)).heap.size = w.heap.size + 1 := by simp
  have hB1 := bel1 (w.alloc (.cells #[.int .i64 C.p, .int .i64 C.r, .int .i64 C.s, .slice ub C.bs.length cb] 42)) (.cells #[.int .i64 0, .int .i64 0, .int .i64 0] 37)
  have hs := hide (msz_any C ub cb ((w.alloc (.cells #[.int .i64 C.p, .int .i64 C.r, .int .i64 C.s, .slice ub C.bs.length cb] 42)).alloc (.cells #[.int .i64 0, .int .i64 0, .int .i64 0] 37)))
  have HU := hide ((hu.below hB0).below hB1)
  have hB01 := bel_of hB0 hB1
  clear hu
  go_enter Try.func41, Try.ntmps41
  go_wp2_with fail
  refine hs.out.mono ?_
  rintro r w1 ⟨rfl, hB2⟩
  have hbx := hide (box33 hB2)
  have hc0 := box_cell (bel_of hB1 hB2) 0 rfl
  have hc1 := box_cell (bel_of hB1 hB2) 1 rfl
  have hc2 := box_cell (bel_of hB1 hB2) 2 rfl
  have hc3 := box_cell (bel_of hB1 hB2) 3 rfl
  rw [hz1] at hbx
  have HU1 := hide (HU.out.below hB2)
  have hBw1 := bel_of hB01 hB2
  clear hs HU hB2 hB0 hB1 hB01
  cases hsz : msz C with
  | false =>
    have he : Hid (mchk C = (2, -1, -1)) := by show _ = _; unfold mchk; rw [if_pos hsz]
    obtain ⟨r0, r1, r2, f0, f1, f2⟩ := hbx.out
    obtain ⟨q0, q1, q2⟩ := set3 (.int .i64 2) (.int .i64 (-1)) (.int .i64 (-1)) r0 r1 r2
    go_wp2_with fail
    refine bodyPost_ret (v := .agg #[.int .i64 2, .int .i64 (-1), .int .i64 (-1)]) (by simp [results, Try.results41, go_sem, q0, q1, q2]) rfl ?_
    exact ⟨by rw [he.out]; rfl, bel_set3 hBw1 (by omega) _ _ _⟩
  | true =>
    have he : Hid (mchk C = mbs C.r C.s C.bs.length C.bs 0) := by show _ = _; unfold mchk; rw [if_neg (by simp [hsz])]
    have hlen : C.bs.length ≤ 16 := by simp [msz] at hsz; omega
    have hr0 : 0 ≤ C.r := by simp [msz] at hsz; omega
    have hr1 : C.r ≤ 32 := by simp [msz] at hsz; omega
    have hBW := hide hBw1
    clear hsz hBw1
    go_wp2_with fail
    go_loopw [3, 4, 5, 6, 14] (fun _ _ _ _ iv wr => ∃ j : Nat, j ≤ C.bs.length ∧ iv = .int .i64 j ∧ Hid (mbs C.r C.s C.bs.length C.bs 0 = mbs C.r C.s C.bs.length (C.bs.drop j) j) ∧ Below w1.heap.size w1 wr) (fun _ _ _ _ iv _ => C.bs.length - (intOf iv).toNat)
    case atStart => exact ⟨0, by omega, rfl, rfl, Below.refl _ _⟩
    case round =>
      obtain ⟨j, hj, rfl, hst, hBr⟩ := hrel
      have hlt1 : w.heap.size + 1 < w1.heap.size := World.block_lt_of_cell? w1 _ hbx.out.1
      by_cases hlt : j < C.bs.length
      · obtain ⟨gb, off, rfl, ui, ⟨c0, c1, c2, c3, c4⟩, hui⟩ := SlV.at (HU1.out.below hBr) j hlt
        have hstep := hide (mbs_step (r := C.r) (s := C.s) (nb := C.bs.length) hlt)
        generalize C.bs.getD j Blk.zero = b at *
        obtain ⟨is, e⟩ := b
        simp only at c1 c2 c3 c4 hui
        obtain ⟨ai, ci, rfl⟩ := hui.slice
        have hBx := hBr.alloc hBr.size (.cells #[.slice ai is.length ci, .int .u8 e.k, .int .i64 e.a, .int .i64 e.to, .int .i64 e.el] 82)
        have hF := hide (mBlk_any ⟨is, e⟩ _ C.r C.s C.bs.length _ (hui.below (bel1 wr (.cells #[.slice ai is.length ci, .int .u8 e.k, .int .i64 e.a, .int .i64 e.to, .int .i64 e.el] 82))) hr0 hr1)
        unfold blkV at hF
        simp only at hF
        have d0 := cell_below hBx hc0
        have d1 := cell_below hBx hc1
        have d2 := cell_below hBx hc2
        have d3 := cell_below hBx hc3
        clear hui
        go_wp2_with fail
        refine hF.out.mono ?_
        rintro x w2 ⟨rfl, hB2⟩
        have hBw := bel_of hBx hB2
        clear hF hB2 hBx hBr c0 c1 c2 c3 c4 d0 d1 d2 d3
        generalize mbF ⟨is, e⟩ C.r C.s C.bs.length = f at *
        obtain ⟨f1, f2⟩ := f
        simp only at hstep ⊢
        by_cases hz : f1 = 0
        · subst hz
          have hst2 : Hid (mbs C.r C.s C.bs.length C.bs 0 = mbs C.r C.s C.bs.length (C.bs.drop (j + 1)) (j + 1)) := by
            show _ = _
            rw [hst.out, hstep.out, if_pos rfl]
          clear hst hstep
          go_wp2_with fail
          go_roundw
          case rel => exact ⟨j + 1, by omega, by go_num, hst2, hBw⟩
          case measure => simp [intOf]; omega
        · have hst2 : Hid (mbs C.r C.s C.bs.length C.bs 0 = (f1, (j : Int), f2)) := by
            show _ = _
            rw [hst.out, hstep.out, if_neg hz]
          have hzb : (f1 == 0) = false := by simpa using hz
          have hzb2 : (f1 != 0) = true := by simpa using hz
          obtain ⟨r0, r1, r2, g0, g1, g2⟩ := hbx.out
          have r0 := cell_below hBw r0
          have r1 := cell_below hBw r1
          have r2 := cell_below hBw r2
          have g0 := (hBw.frozen (p := ⟨w.heap.size + 1, 0, none⟩) hlt1).trans g0
          have g1 := (hBw.frozen (p := ⟨w.heap.size + 1, 1, none⟩) hlt1).trans g1
          have g2 := (hBw.frozen (p := ⟨w.heap.size + 1, 2, none⟩) hlt1).trans g2
          obtain ⟨q0, q1, q2⟩ := set3 (.int .i64 f1) (.int .i64 (j : Nat)) (.int .i64 f2) r0 r1 r2
          clear hst hstep hz
          go_wp2_with fail
          refine bodyPost_ret (v := .agg #[.int .i64 f1, .int .i64 (j : Nat), .int .i64 f2]) (by simp [results, Try.results41, go_sem, q0, q1, q2]) rfl ?_
          exact ⟨by rw [he.out, hst2.out]; rfl, bel_set3 (bel_of hBW.out hBw) (by omega) _ _ _⟩
      · obtain rfl : j = C.bs.length := by omega
        have hst2 : Hid (mchk C = (0, 0, 0)) := by
          show _ = _
          rw [he.out, hst.out, mbs_end]
        obtain ⟨r0, r1, r2, g0, g1, g2⟩ := hbx.out
        have r0 := cell_below hBr r0
        have r1 := cell_below hBr r1
        have r2 := cell_below hBr r2
        have g0 := (hBr.frozen (p := ⟨w.heap.size + 1, 0, none⟩) hlt1).trans g0
        have g1 := (hBr.frozen (p := ⟨w.heap.size + 1, 1, none⟩) hlt1).trans g1
        have g2 := (hBr.frozen (p := ⟨w.heap.size + 1, 2, none⟩) hlt1).trans g2
        obtain ⟨q0, q1, q2⟩ := set3 (.int .i64 0) (.int .i64 0) (.int .i64 0) r0 r1 r2
        clear he hst
        go_wp2_with fail
        refine bodyPost_ret (v := .agg #[.int .i64 0, .int .i64 0, .int .i64 0]) (by simp [results, Try.results41, go_sem, q0, q1, q2]) rfl ?_
        exact ⟨by rw [hst2.out]; rfl, bel_set3 (bel_of hBW.out hBr) (by omega) _ _ _⟩
end Go.Proofs.Ytbjnhicikkjadaa
