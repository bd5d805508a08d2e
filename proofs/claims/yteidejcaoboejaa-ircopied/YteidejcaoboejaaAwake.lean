/- The fixed facts that each law asks first: they hold. -/
import Derived.Test.YteidejcaoboejaaCheck
namespace Go.Proofs.Yteidejcaoboejaa
open Go.RowKit Ir

def insA : Ins := ⟨3, 1, 1, 0, 0, 0, []⟩
def blkA : Blk := ⟨[insA], ⟨3, 1, 0, 0⟩⟩
def funA (v : Int) : Fun := ⟨0, v, [blkA]⟩
theorem chkA : chk (funA 2) = (0, 0, 0) := by decide
theorem chkB : chk (funA 1) = (21, 0, 0) := by decide
theorem insA_v (w : World) : InssV (w.alloc (.cells #[.int .u8 3, .int .u8 1, .int .i64 1, .int .i64 0, .int .i64 0, .int .i64 0, .slice none 0 0] 46)) (.slice (some ⟨w.heap.size, 0, none⟩) 1 1) [insA] := by
  refine ⟨_, 1, rfl, by simp, by simp [maxLen], by simp, fun _ => ⟨_, _, rfl, fun j hj => ?_⟩⟩
  match j, hj with
  | 0, _ => exact ⟨.slice none 0 0, boxI (i := insA) (Below.refl _ _), SlV.nil⟩
theorem blkA_v (w : World) (u : Value) (h : InssV w u [insA]) : BlksV (w.alloc (.cells #[u, .int .u8 3, .int .i64 1, .int .i64 0, .int .i64 0] 41)) (.slice (some ⟨w.heap.size, 0, none⟩) 1 1) [blkA] := by
  refine ⟨_, 1, rfl, by simp, by simp [maxLen], by simp, fun _ => ⟨_, _, rfl, fun j hj => ?_⟩⟩
  match j, hj with
  | 0, _ => exact ⟨u, boxB (e := blkA.e) (Below.refl _ _), h.below (bel1 _ _)⟩
theorem eq33 (a b c a' b' c' : Int) (w : World) : (Op.equalIn 10000 33 (.agg #[.int .i64 a, .int .i64 b, .int .i64 c]) (.agg #[.int .i64 a', .int .i64 b', .int .i64 c'])).run Try.prog w = .ok (a == a' && (b == b' && c == c')) w := by
  rw [show (10000 : Nat) = 9999 + 1 from rfl, Op.equalIn]
  simp only [Sem.run_bind, run_underlying Try.underlying33, Result.andThen_ok]
  go_simp
  by_cases h1 : a = a' <;> by_cases h2 : b = b' <;> by_cases h3 : c = c' <;> simp [h1, h2, h3]
theorem run_eql33 (a b c a' b' c' : Int) (w : World) : (binOp .eql 33 (.agg #[.int .i64 a, .int .i64 b, .int .i64 c]) (.agg #[.int .i64 a', .int .i64 b', .int .i64 c'])).run Try.prog w = .ok (.bool (a == a' && (b == b' && c == c'))) w := by
  simp [binOp, Op.equal, Op.maxDepth, eq33]
theorem run_neq33 (a b c a' b' c' : Int) (w : World) : (binOp .neq 33 (.agg #[.int .i64 a, .int .i64 b, .int .i64 c]) (.agg #[.int .i64 a', .int .i64 b', .int .i64 c'])).run Try.prog w = .ok (.bool (!(a == a' && (b == b' && c == c')))) w := by
  simp [binOp, Op.equal, Op.maxDepth, eq33]
theorem run_field33 (a b c : Int) (w : World) : (Instr.field 33 (.agg #[.int .i64 a, .int .i64 b, .int .i64 c]) 0).run Try.prog w = .ok (.int .i64 a) w := by
  simp [Instr.field, run_underlying Try.underlying33, go_sem, asAgg]
set_option maxHeartbeats 1000000 in
set_option maxRecDepth 100000 in
theorem awake_any (w : World) : Calls Try.prog 9 #[] w fun e w' => e = .returned (.bool true) ∧ Below w.heap.size w w' := by
  have hB1 := bel1 w (.cells #[.int .u8 3, .int .u8 1, .int .i64 1, .int .i64 0, .int .i64 0, .int .i64 0, .slice none 0 0] 46)
  have h1 := insA_v w
  have hz : (w.alloc (.cells #[.int .u8 3, .int .u8 1, .int .i64 1, .int .i64 0, .int .i64 0, .int .i64 0, .slice none 0 0] 46)).heap.size = w.heap.size + 1 := by simp
  have h2 := blkA_v _ _ h1
  rw [hz] at h2
  generalize hW1 : (w.alloc (.cells #[.int .u8 3, .int .u8 1, .int .i64 1, .int .i64 0, .int .i64 0, .int .i64 0, .slice none 0 0] 46)) = W1 at *
  have hB2 := bel1 W1 (.cells #[.slice (some ⟨w.heap.size, 0, none⟩) 1 1, .int .u8 3, .int .i64 1, .int .i64 0, .int .i64 0] 41)
  have hz2 : (W1.alloc (.cells #[.slice (some ⟨w.heap.size, 0, none⟩) 1 1, .int .u8 3, .int .i64 1, .int .i64 0, .int .i64 0] 41)).heap.size = w.heap.size + 1 + 1 := by simp [hz]
  generalize hW2 : (W1.alloc (.cells #[.slice (some ⟨w.heap.size, 0, none⟩) 1 1, .int .u8 3, .int .i64 1, .int .i64 0, .int .i64 0] 41)) = W2 at *
  have hB3 := bel1 W2 (.cells #[.int .i64 0, .int .i64 2, .slice (some ⟨w.heap.size + 1, 0, none⟩) 1 1] 24)
  have hz3 : (W2.alloc (.cells #[.int .i64 0, .int .i64 2, .slice (some ⟨w.heap.size + 1, 0, none⟩) 1 1] 24)).heap.size = w.heap.size + 1 + 1 + 1 := by simp [hz2]
  generalize hW3 : (W2.alloc (.cells #[.int .i64 0, .int .i64 2, .slice (some ⟨w.heap.size + 1, 0, none⟩) 1 1] 24)) = W3 at *
  have hB4 := bel1 W3 (.cells #[.int .i64 0, .int .i64 1, .slice (some ⟨w.heap.size + 1, 0, none⟩) 1 1] 24)
  have h4 := (h2.below hB3).below hB4
  have hC := hide (check_any (funA 2) _ _ ⟨_, rfl, h4⟩)
  rw [chkA] at hC
  have k1 := fun w' (h : Below (W3.alloc (.cells #[.int .i64 0, .int .i64 1, .slice (some ⟨w.heap.size + 1, 0, none⟩) 1 1] 24)).heap.size (W3.alloc (.cells #[.int .i64 0, .int .i64 1, .slice (some ⟨w.heap.size + 1, 0, none⟩) 1 1] 24)) w') => h
  have hBall : Below w.heap.size w (W3.alloc (.cells #[.int .i64 0, .int .i64 1, .slice (some ⟨w.heap.size + 1, 0, none⟩) 1 1] 24)) := bel_of (bel_of (bel_of hB1 hB2) hB3) hB4
  clear k1
  rw [← hW3, ← hW2, ← hW1] at hC
  unfold faultV at hC
  have q33 := run_eql33
  have f33 := run_field33
  have H4 := hide h4
  have E1 := hide hW1
  have E2 := hide hW2
  have E3 := hide hW3
  have HZ2 := hide hz2
  have HZ3 := hide hz3
  clear h1 h2 h4 hz hz2 hz3 hW1 hW2 hW3 hB1 hB2
  go_enter Try.func9, Try.ntmps9
  go_wp2_with fail
  refine hC.out.mono ?_
  rintro r w5 ⟨rfl, hB5⟩
  rw [E1.out, E2.out, E3.out] at hB5
  have HV5 := hide (H4.out.below hB5)
  have hBw5 := bel_of hBall hB5
  have g0 : w5.cell? ⟨w.heap.size + 1 + 1, 2, none⟩ = some (.slice (some ⟨w.heap.size + 1, 0, none⟩) 1 1) := by
    have h := bel_of hB4 hB5
    rw [← E3.out] at h
    have := box_cell h 2 rfl
    rw [HZ2.out] at this
    exact this
  have m0 : w5.cell? ⟨w.heap.size + 1 + 1 + 1, 0, none⟩ = some (.int .i64 0) := by
    have := box_cell hB5 0 rfl
    rw [HZ3.out] at this
    exact this
  have m1 : w5.cell? ⟨w.heap.size + 1 + 1 + 1, 1, none⟩ = some (.int .i64 1) := by
    have := box_cell hB5 1 rfl
    rw [HZ3.out] at this
    exact this
  have m2 : w5.cell? ⟨w.heap.size + 1 + 1 + 1, 2, none⟩ = some (.slice (some ⟨w.heap.size + 1, 0, none⟩) 1 1) := by
    have := box_cell hB5 2 rfl
    rw [HZ3.out] at this
    exact this
  have hC2 := hide (check_any (funA 1) _ _ ⟨_, rfl, HV5.out⟩)
  rw [chkB] at hC2
  unfold faultV at hC2
  clear hC hB5 hBall hB3 hB4
  go_wp2_with fail
  refine hC2.out.mono ?_
  rintro r w6 ⟨rfl, hB6⟩
  have HV6 := HV5.out.below hB6
  have hBw6 := bel_of hBw5 hB6
  have g1 := cell_below hB6 g0
  obtain ⟨b, off, e1, ui, ⟨b0, b1, b2, b3, b4⟩, hui⟩ := SlV.at HV6 0 (by simp)
  simp only [Option.some.injEq, Addr.mk.injEq, and_true] at e1
  obtain ⟨rfl, rfl⟩ := e1
  have hui : InssV w6 ui [insA] := hui
  obtain ⟨ai, ci, rfl⟩ := hui.slice
  obtain ⟨bi, oi, rfl, ua, ⟨c0, c1, c2, c3, c4, c5, c6⟩, hua⟩ := SlV.at hui 0 (by simp)
  have hUs := hide (uses_any insA _ w6 hua (by simp [insA]))
  have hua : IntsV w6 ua [] := hua
  obtain ⟨au, cu, rfl⟩ := hua.slice
  unfold insV at hUs
  simp [insA] at c0 c1 c2 c3 c4 c5 c6
  simp only [Nat.zero_mul, Nat.add_zero, List.length_cons, List.length_nil] at b0
  clear hC2 hB6 HV5 HV6 g0 m0 m1 m2 hui hua
  go_wp2_with fail
  refine hUs.out.mono ?_
  rintro r w7 ⟨u7, rfl, hO7, hB7⟩
  have hBw7 := bel_of hBw6 hB7
  obtain ⟨a7, c7, rfl⟩ := hO7.v.slice
  have hl : (uses insA).length = 2 := rfl
  rw [hl]
  clear hO7 hB7
  go_wp2_with fail
  go_ret
  exact ⟨rfl, hBw7⟩
end Go.Proofs.Yteidejcaoboejaa
