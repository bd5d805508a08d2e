/- The fixed facts that each law asks first: they hold; which instructions are free. -/
import Derived.Test.YtbgedbahabbanaaMCheck
namespace Go.Proofs.Ytbgedbahabbanaa
open Go.RowKit Ir

def insA : Ins := ⟨8, 0, 0, 0, 0, 0, []⟩
def blkA : Blk := ⟨[insA], ⟨3, 0, 0, 0⟩⟩
def codA (s : Int) : Cod := ⟨0, 3, s, [blkA]⟩
theorem chkA : mchk (codA 1) = (0, 0, 0) := by decide
theorem chkB : mchk (codA 0) = (24, 0, 0) := by decide
theorem eq33 (a b c a' b' c' : Int) (w : World) : (Op.equalIn 10000 33 (.agg #[.int .i64 a, .int .i64 b, .int .i64 c]) (.agg #[.int .i64 a', .int .i64 b', .int .i64 c'])).run Try.prog w = .ok (a == a' && (b == b' && c == c')) w := by
  rw [show (10000 : Nat) = 9999 + 1 from rfl, Op.equalIn]
  simp only [Sem.run_bind, run_underlying Try.underlying33, Result.andThen_ok]
  go_simp
  by_cases h1 : a = a' <;> by_cases h2 : b = b' <;> by_cases h3 : c = c' <;> simp [h1, h2, h3]
theorem run_eql33 (a b c a' b' c' : Int) (w : World) : (binOp .eql 33 (.agg #[.int .i64 a, .int .i64 b, .int .i64 c]) (.agg #[.int .i64 a', .int .i64 b', .int .i64 c'])).run Try.prog w = .ok (.bool (a == a' && (b == b' && c == c'))) w := by
  simp [binOp, Op.equal, Op.maxDepth, eq33]
theorem run_neq33 (a b c a' b' c' : Int) (w : World) : (binOp .neq 33 (.agg #[.int .i64 a, .int .i64 b, .int .i64 c]) (.agg #[.int .i64 a', .int .i64 b', .int .i64 c'])).run Try.prog w = .ok (.bool (!(a == a' && (b == b' && c == c')))) w := by
  simp [binOp, Op.equal, Op.maxDepth, eq33]
def fre (k : Int) : Bool := decide (k = 2 ∨ k = 7 ∨ k = 8)
theorem fre_eq (k : Int) : fre k = (k == 2 || (k == 7 || k == 8)) := by
  rw [Bool.eq_iff_iff]
  simp [fre]
set_option maxRecDepth 100000 in
theorem free_any (i : Ins) (ua : Option Addr) (ca : Nat) (w : World) : Calls Try.prog 13 #[insV i (.slice ua i.args.length ca)] w fun e w' => e = .returned (.bool (fre i.k)) ∧ Below w.heap.size w w' := by
  have hE := hide (fre_eq i.k)
  unfold insV
  go_enter Try.func13, Try.ntmps13
  go_wp2_with fail
  all_goals
    go_ret
    refine ⟨?_, bel1 _ _⟩
    rw [hE.out]
    simp_all [Bool.or_assoc]
set_option maxHeartbeats 1000000 in
set_option maxRecDepth 100000 in
theorem awake_any (w : World) : Calls Try.prog 7 #[] w fun e w' => e = .returned (.bool true) ∧ Below w.heap.size w w' := by
  have hB1 := bel1 w (.cells #[.int .u8 8, .int .u8 0, .int .i64 0, .int .i64 0, .int .i64 0, .int .i64 0, .slice none 0 0] 46)
  have h1 : InssV _ _ [insA] := ins_one w (.slice none 0 0) insA SlV.nil
  have hz : (w.alloc (.cells #[.int .u8 8, .int .u8 0, .int .i64 0, .int .i64 0, .int .i64 0, .int .i64 0, .slice none 0 0] 46)).heap.size = w.heap.size + 1 := by simp
  have h2 : BlksV _ _ [blkA] := blk_one _ _ _ ⟨3, 0, 0, 0⟩ h1
  simp only [insA] at h2
  rw [hz] at h2
  generalize hW1 : (w.alloc (.cells #[.int .u8 8, .int .u8 0, .int .i64 0, .int .i64 0, .int .i64 0, .int .i64 0, .slice none 0 0] 46)) = W1 at *
  have hB2 := bel1 W1 (.cells #[.slice (some ⟨w.heap.size, 0, none⟩) 1 1, .int .u8 3, .int .i64 0, .int .i64 0, .int .i64 0] 41)
  have hz2 : (W1.alloc (.cells #[.slice (some ⟨w.heap.size, 0, none⟩) 1 1, .int .u8 3, .int .i64 0, .int .i64 0, .int .i64 0] 41)).heap.size = w.heap.size + 1 + 1 := by simp [hz]
  generalize hW2 : (W1.alloc (.cells #[.slice (some ⟨w.heap.size, 0, none⟩) 1 1, .int .u8 3, .int .i64 0, .int .i64 0, .int .i64 0] 41)) = W2 at *
  have hB3 := bel1 W2 (.cells #[.int .i64 0, .int .i64 3, .int .i64 0, .slice (some ⟨w.heap.size + 1, 0, none⟩) 1 1] 24)
  have hz3 : (W2.alloc (.cells #[.int .i64 0, .int .i64 3, .int .i64 0, .slice (some ⟨w.heap.size + 1, 0, none⟩) 1 1] 24)).heap.size = w.heap.size + 1 + 1 + 1 := by simp [hz2]
  generalize hW3 : (W2.alloc (.cells #[.int .i64 0, .int .i64 3, .int .i64 0, .slice (some ⟨w.heap.size + 1, 0, none⟩) 1 1] 24)) = W3 at *
  have hB4 := bel1 W3 (.cells #[.int .i64 0, .int .i64 3, .int .i64 1, .slice (some ⟨w.heap.size + 1, 0, none⟩) 1 1] 24)
  have h4 := (h2.below hB3).below hB4
  have hC := hide (mCheck_any (codA 0) _ _ ⟨_, rfl, h4⟩)
  rw [chkB] at hC
  have hBall : Below w.heap.size w (W3.alloc (.cells #[.int .i64 0, .int .i64 3, .int .i64 1, .slice (some ⟨w.heap.size + 1, 0, none⟩) 1 1] 24)) := bel_of (bel_of (bel_of hB1 hB2) hB3) hB4
  rw [← hW3, ← hW2, ← hW1] at hC
  unfold faultV at hC
  have q33 := run_eql33
  have f33 := run_field33
  have H4 := hide h4
  have E1 := hide hW1
  have E2 := hide hW2
  have E3 := hide hW3
  have HZ2 := hide hz2
  have HZ3 := hide hz3
  clear h1 h2 h4 hz hz2 hz3 hW1 hW2 hW3 hB1 hB2
  go_enter Try.func7, Try.ntmps7
  go_wp2_with fail
  refine hC.out.mono ?_
  rintro r w5 ⟨rfl, hB5⟩
  rw [E1.out, E2.out, E3.out] at hB5
  have HV5 := hide (H4.out.below hB5)
  have hBw5 := bel_of hBall hB5
  have g0 : w5.cell? ⟨w.heap.size + 1 + 1, 3, none⟩ = some (.slice (some ⟨w.heap.size + 1, 0, none⟩) 1 1) := by
    have h := bel_of hB4 hB5
    rw [← E3.out] at h
    have := box_cell h 3 rfl
    rw [HZ2.out] at this
    exact this
  have m0 : w5.cell? ⟨w.heap.size + 1 + 1 + 1, 0, none⟩ = some (.int .i64 0) := by
    have := box_cell hB5 0 rfl
    rw [HZ3.out] at this
    exact this
  have m1 : w5.cell? ⟨w.heap.size + 1 + 1 + 1, 1, none⟩ = some (.int .i64 3) := by
    have := box_cell hB5 1 rfl
    rw [HZ3.out] at this
    exact this
  have m2 : w5.cell? ⟨w.heap.size + 1 + 1 + 1, 2, none⟩ = some (.int .i64 1) := by
    have := box_cell hB5 2 rfl
    rw [HZ3.out] at this
    exact this
  have m3 : w5.cell? ⟨w.heap.size + 1 + 1 + 1, 3, none⟩ = some (.slice (some ⟨w.heap.size + 1, 0, none⟩) 1 1) := by
    have := box_cell hB5 3 rfl
    rw [HZ3.out] at this
    exact this
  have hC2 := hide (mCheck_any (codA 1) _ _ ⟨_, rfl, HV5.out⟩)
  rw [chkA] at hC2
  unfold faultV at hC2
  clear hC hB5 hBall hB3 hB4
  go_wp2_with fail
  refine hC2.out.mono ?_
  rintro r w6 ⟨rfl, hB6⟩
  have HV6 := HV5.out.below hB6
  have hBw6 := bel_of hBw5 hB6
  have g1 := cell_below hB6 g0
  obtain ⟨b, off, e1, ui, ⟨b0, b1, b2, b3, b4⟩, hui⟩ := SlV.at HV6 0 (by simp)
  simp only [Option.some.injEq, Addr.mk.injEq, and_true] at e1
  obtain ⟨rfl, rfl⟩ := e1
  have hui : InssV w6 ui [insA] := hui
  obtain ⟨ai, ci, rfl⟩ := hui.slice
  obtain ⟨bi, oi, rfl, ua, ⟨c0, c1, c2, c3, c4, c5, c6⟩, hua⟩ := SlV.at hui 0 (by simp)
  have hua : IntsV w6 ua [] := hua
  obtain ⟨au, cu, rfl⟩ := hua.slice
  have hFr := hide (free_any insA au cu w6)
  unfold insV at hFr
  have hf8 : fre 8 = true := by decide
  simp [insA] at c0 c1 c2 c3 c4 c5 c6
  simp only [insA, hf8] at hFr
  simp only [Nat.zero_mul, Nat.add_zero, List.length_cons, List.length_nil] at b0
  clear hC2 hB6 HV5 HV6 g0 m0 m1 m2 m3 hui hua hf8
  go_wp2_with fail
  refine hFr.out.mono ?_
  rintro r w7 ⟨rfl, hB7⟩
  have hBw7 := bel_of hBw6 hB7
  clear hFr hB7
  go_wp2_with fail
  go_ret
  exact ⟨rfl, hBw7⟩
end Go.Proofs.Ytbgedbahabbanaa
