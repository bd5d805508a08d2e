/- mach.insFault: an instruction's fault, of so many registers and slots. -/
import Derived.Test.YtepmbkiojpffpaaMch
import Derived.Test.YtepmbkiojpffpaaCheck
namespace Go.Proofs.Ytepmbkiojpffpaa
open Go.RowKit Ir

theorem mbelow_any (n m : Int) (w : World) : Calls Try.prog 62 #[.int .i64 n, .int .i64 m] w fun e w' => e = .returned (.bool (inr n m)) ∧ w' = w := by
  go_enter Try.func62, Try.ntmps62
  go_wp2_with fail
  all_goals
    go_ret
    refine ⟨ret_eq ?_, rfl⟩
    simp_all [inr] <;> omega
theorem ofRegs_any (x : Int) (w : World) : Calls Try.prog 38 #[.int .i64 x] w fun e w' => e = .returned (.int .i64 (ofR x)) ∧ w' = w := by
  by_cases h : x = 21
  · subst h
    go_enter Try.func38, Try.ntmps38
    go_wp2_with fail
    go_ret
    exact ⟨rfl, rfl⟩
  · have hb : (x == 21) = false := by simpa using h
    have he : Hid (ofR x = x) := if_neg h
    go_enter Try.func38, Try.ntmps38
    go_wp2_with fail
    go_ret
    exact ⟨by rw [he.out]; rfl, rfl⟩
set_option maxHeartbeats 1000000 in
set_option maxRecDepth 100000 in
theorem slotFault_any (i : Ins) (ua : Option Addr) (ca : Nat) (reg r slot s : Int) (w : World) :
    Calls Try.prog 50 #[insV i (.slice ua i.args.length ca), .int .i64 reg, .int .i64 r, .int .i64 slot, .int .i64 s] w fun e w' => e = .returned (.int .i64 (slF i reg r slot s)) ∧ Below w.heap.size w w' := by
  obtain ⟨k, op, d, a, b, n, args⟩ := i
  simp only
  unfold insV
  have hB0 := bel1 w (.cells #[.int .u8 k, .int .u8 op, .int .i64 d, .int .i64 a, .int .i64 b, .int .i64 n, .slice ua args.length ca] 65)
  by_cases h1 : op = 0
  · subst h1
    by_cases h2 : b = 0
    · subst h2
      by_cases h3 : n = 0
      · subst h3
        by_cases h4 : args.length = 0
        · have he : Hid (slF ⟨k, 0, d, a, 0, 0, args⟩ reg r slot s = if inr reg r = false then 23 else if inr slot s = false then 24 else 0) := if_pos ⟨rfl, rfl, rfl, h4⟩
          have q1 := hide (mbelow_any reg r (w.alloc (.cells #[.int .u8 k, .int .u8 0, .int .i64 d, .int .i64 a, .int .i64 0, .int .i64 0, .slice ua args.length ca] 65)))
          have q2 := hide (mbelow_any slot s (w.alloc (.cells #[.int .u8 k, .int .u8 0, .int .i64 d, .int .i64 a, .int .i64 0, .int .i64 0, .slice ua args.length ca] 65)))
          rw [h4] at q1 q2 hB0 ⊢
          clear h4
          go_enter Try.func50, Try.ntmps50
          go_wp2_with fail
          refine q1.out.mono ?_
          rintro e w1 ⟨rfl, rfl⟩
          cases hr : inr reg r with
          | false =>
            clear q1 q2
            go_wp2_with fail
            go_ret
            exact ⟨by rw [he.out, if_pos hr]; rfl, hB0⟩
          | true =>
            clear q1
            go_wp2_with fail
            refine q2.out.mono ?_
            rintro e w1 ⟨rfl, rfl⟩
            clear q2
            cases hs : inr slot s with
            | false =>
              go_wp2_with fail
              go_ret
              exact ⟨by rw [he.out, if_neg (by simp [hr]), if_pos hs]; rfl, hB0⟩
            | true =>
              go_wp2_with fail
              go_ret
              exact ⟨by rw [he.out, if_neg (by simp [hr]), if_neg (by simp [hs])]; rfl, hB0⟩
        · have he : Hid (slF ⟨k, 0, d, a, 0, 0, args⟩ reg r slot s = 20) := if_neg (fun h => h4 h.2.2.2)
          have b1 : ((args.length : Int) == 0) = false := by simp; intro h; exact h4 (by simp [h])
          have b2 : ((args.length : Int) != 0) = true := by simp; intro h; exact h4 (by simp [h])
          go_enter Try.func50, Try.ntmps50
          go_wp2_with fail
          go_ret
          exact ⟨by rw [he.out]; rfl, hB0⟩
      · have he : Hid (slF ⟨k, 0, d, a, 0, n, args⟩ reg r slot s = 20) := if_neg (fun h => h3 h.2.2.1)
        have b1 : (n == 0) = false := by simpa using h3
        have b2 : (n != 0) = true := by simpa using h3
        go_enter Try.func50, Try.ntmps50
        go_wp2_with fail
        go_ret
        exact ⟨by rw [he.out]; rfl, hB0⟩
    · have he : Hid (slF ⟨k, 0, d, a, b, n, args⟩ reg r slot s = 20) := if_neg (fun h => h2 h.2.1)
      have b1 : (b == 0) = false := by simpa using h2
      have b2 : (b != 0) = true := by simpa using h2
      go_enter Try.func50, Try.ntmps50
      go_wp2_with fail
      go_ret
      exact ⟨by rw [he.out]; rfl, hB0⟩
  · have he : Hid (slF ⟨k, op, d, a, b, n, args⟩ reg r slot s = 20) := if_neg (fun h => h1 h.1)
    have b1 : (op == 0) = false := by simpa using h1
    have b2 : (op != 0) = true := by simpa using h1
    go_enter Try.func50, Try.ntmps50
    go_wp2_with fail
    go_ret
    exact ⟨by rw [he.out]; rfl, hB0⟩

theorem blk_one (w : World) (u : Value) (is : List Ins) (e : En) (h : InssV w u is) : BlksV (w.alloc (.cells #[u, .int .u8 e.k, .int .i64 e.a, .int .i64 e.to, .int .i64 e.el] 60)) (.slice (some ⟨w.heap.size, 0, none⟩) 1 1) [⟨is, e⟩] := by
  refine ⟨_, 1, rfl, by simp, by simp [maxLen], by simp, fun _ => ⟨_, _, rfl, fun j hj => ?_⟩⟩
  match j, hj with
  | 0, _ => exact ⟨u, boxB (e := e) (Below.refl _ _), h.below (bel1 _ _)⟩
theorem ins_one (w : World) (u : Value) (i : Ins) (h : IntsV w u i.args) : InssV (w.alloc (.cells #[.int .u8 i.k, .int .u8 i.op, .int .i64 i.d, .int .i64 i.a, .int .i64 i.b, .int .i64 i.n, u] 65)) (.slice (some ⟨w.heap.size, 0, none⟩) 1 1) [i] := by
  refine ⟨_, 1, rfl, by simp, by simp [maxLen], by simp, fun _ => ⟨_, _, rfl, fun j hj => ?_⟩⟩
  match j, hj with
  | 0, _ => exact ⟨u, boxI (i := i) (Below.refl _ _), h.below (bel1 _ _)⟩
theorem run_field33 (a b c : Int) (w : World) : (Instr.field 48 (.agg #[.int .i64 a, .int .i64 b, .int .i64 c]) 0).run Try.prog w = .ok (.int .i64 a) w := by
  simp [Instr.field, run_underlying Try.underlying48, go_sem, asAgg]
set_option maxHeartbeats 1000000 in
set_option maxRecDepth 100000 in
theorem plainFault_any (i : Ins) (u : Value) (r : Int) (w : World) (hu : IntsV w u i.args) (h0 : 0 ≤ r) (h1 : r ≤ 32) :
    Calls Try.prog 51 #[insV i u, .int .i64 r] w fun e w' => e = .returned (.int .i64 (ofR (inF i r))) ∧ Below w.heap.size w w' := by
  obtain ⟨ua, ca, rfl⟩ := hu.slice
  have hE : Hid ((chk ⟨0, r, [⟨[i], ⟨1, 0, 0, 0⟩⟩]⟩).1 = inF i r) := chk_one h0 h1
  have hB1 := bel1 w (.cells #[.int .u8 i.k, .int .u8 i.op, .int .i64 i.d, .int .i64 i.a, .int .i64 i.b, .int .i64 i.n, .slice ua i.args.length ca] 65)
  have hz1 : (w.alloc (.cells #[.int .u8 i.k, .int .u8 i.op, .int .i64 i.d, .int .i64 i.a, .int .i64 i.b, .int .i64 i.n, .slice ua i.args.length ca] 65)).heap.size = w.heap.size + 1 := by simp
  have hu1 := hu.below hB1
  generalize hW1 : w.alloc (.cells #[.int .u8 i.k, .int .u8 i.op, .int .i64 i.d, .int .i64 i.a, .int .i64 i.b, .int .i64 i.n, .slice ua i.args.length ca] 65) = W1 at *
  have hB2 := bel1 W1 (.cells #[.int .u8 i.k, .int .u8 i.op, .int .i64 i.d, .int .i64 i.a, .int .i64 i.b, .int .i64 i.n, .slice ua i.args.length ca] 65)
  have hI2 := ins_one W1 _ i hu1
  have hz2 : (W1.alloc (.cells #[.int .u8 i.k, .int .u8 i.op, .int .i64 i.d, .int .i64 i.a, .int .i64 i.b, .int .i64 i.n, .slice ua i.args.length ca] 65)).heap.size = w.heap.size + 1 + 1 := by simp [hz1]
  rw [hz1] at hI2
  generalize hW2 : W1.alloc (.cells #[.int .u8 i.k, .int .u8 i.op, .int .i64 i.d, .int .i64 i.a, .int .i64 i.b, .int .i64 i.n, .slice ua i.args.length ca] 65) = W2 at *
  have hB3 := bel1 W2 (.cells #[.slice (some ⟨w.heap.size + 1, 0, none⟩) 1 1, .int .u8 1, .int .i64 0, .int .i64 0, .int .i64 0] 60)
  have hI3 := hI2.below hB3
  have hz3 : (W2.alloc (.cells #[.slice (some ⟨w.heap.size + 1, 0, none⟩) 1 1, .int .u8 1, .int .i64 0, .int .i64 0, .int .i64 0] 60)).heap.size = w.heap.size + 1 + 1 + 1 := by simp [hz2]
  generalize hW3 : W2.alloc (.cells #[.slice (some ⟨w.heap.size + 1, 0, none⟩) 1 1, .int .u8 1, .int .i64 0, .int .i64 0, .int .i64 0] 60) = W3 at *
  have hB4 := bel1 W3 (.cells #[.slice (some ⟨w.heap.size + 1, 0, none⟩) 1 1, .int .u8 1, .int .i64 0, .int .i64 0, .int .i64 0] 60)
  have hV4 := blk_one W3 _ [i] ⟨1, 0, 0, 0⟩ hI3
  rw [hz3] at hV4
  have hC := hide (check_any ⟨0, r, [⟨[i], ⟨1, 0, 0, 0⟩⟩]⟩ _ _ ⟨_, rfl, hV4⟩)
  simp only at hC
  have hBall := bel_of (bel_of (bel_of hB1 hB2) hB3) hB4
  have E1 := hide hW1
  have E2 := hide hW2
  have E3 := hide hW3
  rw [← hW3, ← hW2, ← hW1] at hC
  generalize chk ⟨0, r, [⟨[i], ⟨1, 0, 0, 0⟩⟩]⟩ = c at *
  unfold faultV at hC
  have f33 := run_field33
  unfold insV
  clear h0 h1 hu hu1 hI2 hI3 hV4 hW1 hW2 hW3 hz1 hz2 hz3 hB1 hB2 hB3 hB4
  go_enter Try.func51, Try.ntmps51
  go_wp2_with fail
  refine hC.out.mono ?_
  rintro e w5 ⟨rfl, hB5⟩
  rw [E1.out, E2.out, E3.out] at hB5
  have hBw := bel_of hBall hB5
  have hO := hide (ofRegs_any c.1 w5)
  clear hC hB5 hBall
  go_wp2_with fail
  refine hO.out.mono ?_
  rintro e w6 ⟨rfl, rfl⟩
  clear hO
  go_wp2_with fail
  go_ret
  exact ⟨by rw [← hE.out]; rfl, hBw⟩
set_option maxHeartbeats 1000000 in
set_option maxRecDepth 100000 in
theorem mIns_any (i : Ins) (u : Value) (r s : Int) (w : World) (hu : IntsV w u i.args) (h0 : 0 ≤ r) (h1 : r ≤ 32) :
    Calls Try.prog 37 #[insV i u, .int .i64 r, .int .i64 s] w fun e w' => e = .returned (.int .i64 (mF i r s)) ∧ Below w.heap.size w w' := by
  obtain ⟨ua, ca, rfl⟩ := hu.slice
  have hB1 := bel1 w (.cells #[.int .u8 i.k, .int .u8 i.op, .int .i64 i.d, .int .i64 i.a, .int .i64 i.b, .int .i64 i.n, .slice ua i.args.length ca] 65)
  have hu1 := hu.below hB1
  by_cases k7 : i.k = 7
  · have hE : Hid (mF i r s = slF i i.a r i.d s) := if_pos k7
    have q := hide (slotFault_any i ua ca i.a r i.d s (w.alloc (.cells #[.int .u8 i.k, .int .u8 i.op, .int .i64 i.d, .int .i64 i.a, .int .i64 i.b, .int .i64 i.n, .slice ua i.args.length ca] 65)))
    unfold insV at q ⊢
    rw [k7] at q ⊢
    clear hu hu1
    go_enter Try.func37, Try.ntmps37
    go_wp2_with fail
    refine q.out.mono ?_
    rintro e w1 ⟨rfl, hB⟩
    rw [← k7] at hB
    have hBw := bel_of hB1 hB
    clear q hB
    go_wp2_with fail
    go_ret
    exact ⟨by rw [hE.out]; rfl, hBw⟩
  · by_cases k8 : i.k = 8
    · have hE : Hid (mF i r s = slF i i.d r i.a s) := by
        show _ = _
        unfold mF
        rw [if_neg k7, if_pos k8]
      have q := hide (slotFault_any i ua ca i.d r i.a s (w.alloc (.cells #[.int .u8 i.k, .int .u8 i.op, .int .i64 i.d, .int .i64 i.a, .int .i64 i.b, .int .i64 i.n, .slice ua i.args.length ca] 65)))
      unfold insV at q ⊢
      rw [k8] at q ⊢
      clear hu hu1
      go_enter Try.func37, Try.ntmps37
      go_wp2_with fail
      refine q.out.mono ?_
      rintro e w1 ⟨rfl, hB⟩
      rw [← k8] at hB
      have hBw := bel_of hB1 hB
      clear q hB
      go_wp2_with fail
      go_ret
      exact ⟨by rw [hE.out]; rfl, hBw⟩
    · have hE : Hid (mF i r s = ofR (inF i r)) := by
        show _ = _
        unfold mF
        rw [if_neg k7, if_neg k8]
      have b7 : (i.k == 7) = false := by simpa using k7
      have b8 : (i.k == 8) = false := by simpa using k8
      have q := hide (plainFault_any i _ r _ hu1 h0 h1)
      unfold insV at q ⊢
      clear hu hu1
      go_enter Try.func37, Try.ntmps37
      go_wp2_with fail
      refine q.out.mono ?_
      rintro e w1 ⟨rfl, hB⟩
      have hBw := bel_of hB1 hB
      clear q hB
      go_wp2_with fail
      go_ret
      exact ⟨by rw [hE.out]; rfl, hBw⟩
end Go.Proofs.Ytepmbkiojpffpaa
