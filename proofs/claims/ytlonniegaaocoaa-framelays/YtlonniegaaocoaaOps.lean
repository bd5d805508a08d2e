/- Single operations, as the law on regions asks for them. -/
import Derived.Test.YtlonniegaaocoaaAny
import Derived.Test.YtlonniegaaocoaaCut
import Derived.Test.YtlonniegaaocoaaSumOf
namespace Go.Proofs.Ytlonniegaaocoaa
open Go.RowKit


variable {a : Act} {w : World} {o : Oper}

theorem run_move {x : Operand} {u : Value} (hop : o.op = .move x) (e : a.eval x = u) : (execOp a.eval o).run Try.prog w = .ok (.value u) w := by
  unfold execOp
  rw [hop]
  show Result.ok (Next.value (a.eval x)) w = _
  rw [e]
theorem run_assign {x : Operand} {u : Value} (hop : o.op = .assign x) (e : a.eval x = u) : (execOp a.eval o).run Try.prog w = .ok (.value u) w := by
  unfold execOp
  rw [hop]
  show Result.ok (Next.value (a.eval x)) w = _
  rw [e]

/-- 'x[i:j]'. -/
theorem run_cut {x y z : Operand} {ao : Option Addr} {len cap i j : Nat} (hop : o.op = .slice 22 x (some y) (some z) none) (e : a.eval x = .slice ao len cap) (ey : a.eval y = .int .i64 i) (ez : a.eval z = .int .i64 j) (h1 : i ≤ j) (h2 : j ≤ cap) :
    (execOp a.eval o).run Try.prog w = .ok (.value (cutV ao cap i j)) w := by
  have h := run_lh (ao := ao) (n := len) h1 h2 w
  unfold execOp
  rw [hop]
  simp only [Option.map, e, ey, ez]
  simp [h, Result.andThen]

/-- Four bytes of a slice, as an array's address. -/
theorem run_toArr {x : Operand} {ao : Option Addr} {cap : Nat} (hop : o.op = .sliceToArrayPointer 47 x) (e : a.eval x = .slice ao 4 cap) :
    (execOp a.eval o).run Try.prog w = .ok (.value (.pointer ao)) w := by
  unfold execOp
  rw [hop]
  simp only [e]
  simp [Instr.arrayAt, run_underlying Try.underlying47]

/-- An array, read. -/
theorem run_load4 {x : Operand} {b off : Nat} {l : List Int} (hop : o.op = .load 47 x) (e : a.eval x = .pointer (some ⟨b, off, none⟩)) (hc : ∀ j, j < 4 → w.cell? ⟨b, off + j, none⟩ = some (.int .u8 (l.getD j 0))) :
    (execOp a.eval o).run Try.prog w = .ok (.value (arr4 l)) w := by
  have h0 := hc 0 (by omega)
  have h1 := hc 1 (by omega)
  have h2 := hc 2 (by omega)
  have h3 := hc 3 (by omega)
  unfold execOp
  rw [hop]
  simp only [e]
  go_simp
  rw [Nat.add_zero] at h0
  rw [h0]
  simp only [Result.andThen_ok]
  rw [h1]
  simp only [Result.andThen_ok]
  rw [h2]
  simp only [Result.andThen_ok]
  rw [h3]
  rfl
theorem eq47 (a b c d a' b' c' d' : Int) (w : World) : (Op.equalIn 10000 47 (.agg #[.int .u8 a, .int .u8 b, .int .u8 c, .int .u8 d]) (.agg #[.int .u8 a', .int .u8 b', .int .u8 c', .int .u8 d'])).run Try.prog w = .ok (a == a' && (b == b' && (c == c' && d == d'))) w := by
  have u3 := Try.underlying5
  have a3 := Try.isAgg5
  have z3 := Try.sizeOf5
  rw [show (10000 : Nat) = 9999 + 1 from rfl, Op.equalIn]
  simp only [Sem.run_bind, run_underlying Try.underlying47, Result.andThen_ok]
  simp only [Std.Legacy.Range.forIn_eq_forIn_range', Std.Legacy.Range.size, Nat.sub_zero, Nat.add_sub_cancel, Nat.div_one, List.range'_succ, List.range'_zero, List.forIn_cons, List.forIn_nil]
  go_simp
  by_cases h1 : a = a' <;> by_cases h2 : b = b' <;> by_cases h3 : c = c' <;> by_cases h4 : d = d' <;> simp [h1, h2, h3, h4]
theorem list4 {l : List Int} (h : l.length = 4) : l = [l.getD 0 0, l.getD 1 0, l.getD 2 0, l.getD 3 0] := by
  match l, h with
  | [a, b, c, d], _ => rfl
theorem run_neq4 {x y : Operand} {l m : List Int} {t : TypeId} (hop : o.op = .binOp .neq 47 x y t) (e : a.eval x = arr4 l) (ey : a.eval y = arr4 m) (hl : l.length = 4) (hm : m.length = 4) :
    (execOp a.eval o).run Try.prog w = .ok (.value (.bool (decide (l ≠ m)))) w := by
  have h47 := fun a b c d a' b' c' d' => eq47 a b c d a' b' c' d' w
  have hd : (decide (l ≠ m)) = !(l.getD 0 0 == m.getD 0 0 && (l.getD 1 0 == m.getD 1 0 && (l.getD 2 0 == m.getD 2 0 && l.getD 3 0 == m.getD 3 0))) := by
    rw [list4 hl, list4 hm]
    simp
    rfl
  unfold execOp
  rw [hop]
  simp only [e, ey, arr4]
  rw [hd]
  generalize l.getD 0 0 = a0
  generalize l.getD 1 0 = a1
  generalize l.getD 2 0 = a2
  generalize l.getD 3 0 = a3
  generalize m.getD 0 0 = b0
  generalize m.getD 1 0 = b1
  generalize m.getD 2 0 = b2
  generalize m.getD 3 0 = b3
  go_simp
end Go.Proofs.Ytlonniegaaocoaa
