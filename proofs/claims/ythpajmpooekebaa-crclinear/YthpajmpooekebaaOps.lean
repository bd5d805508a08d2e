/- Single operations, as the law on regions asks for them. -/
import Derived.Test.YthpajmpooekebaaProg
import Derived.Test.YthpajmpooekebaaAny
import Derived.WalkKit
import Derived.WalkSpells
namespace Go.Proofs.Ythpajmpooekebaa
open Go.RowKit

variable {a : Act} {w : World} {o : Oper}

theorem run_move {x : Operand} {u : Value} (hop : o.op = .move x) (e : a.eval x = u) : (execOp a.eval o).run Try.prog w = .ok (.value u) w := by
  unfold execOp
  rw [hop]
  show Result.ok (Next.value (a.eval x)) w = _
  rw [e]
theorem run_assign {x : Operand} {u : Value} (hop : o.op = .assign x) (e : a.eval x = u) : (execOp a.eval o).run Try.prog w = .ok (.value u) w := by
  unfold execOp
  rw [hop]
  show Result.ok (Next.value (a.eval x)) w = _
  rw [e]
/-- '[][]byte{x}'. -/
theorem run_build1 {x : Operand} {ao : Option Addr} {len cap : Nat} (hop : o.op = .buildSlice 28 1 #[(0, x)]) (e : a.eval x = .slice ao len cap) :
    (execOp a.eval o).run Try.prog w = .ok (.value (.slice (some ⟨w.heap.size, 0, none⟩) 1 1)) (w.alloc (.cells #[.slice ao len cap] 22)) := by
  unfold execOp
  rw [hop]
  simp only [List.map_toArray, List.map_cons, List.map_nil, e]
  go_simp
/-- 'x[:n]'. -/
theorem run_cut {x y : Operand} {ao : Option Addr} {len cap n : Nat} (hop : o.op = .slice 22 x none (some y) none) (e : a.eval x = .slice ao len cap) (ey : a.eval y = .int .i64 n) (hn : n ≤ cap) :
    (execOp a.eval o).run Try.prog w = .ok (.value (.slice ao n cap)) w := by
  have h1 : (n : Int) ≤ (cap : Int) := by omega
  have h0 : (0 : Int) ≤ (n : Int) := by omega
  unfold execOp
  rw [hop]
  simp only [Option.map, e, ey]
  go_simp
theorem run_xor32 {x y : Operand} {m n : Int} {t : TypeId} (hop : o.op = .binOp .xor 24 x y t) (e : a.eval x = .int .u32 m) (ey : a.eval y = .int .u32 n) :
    (execOp a.eval o).run Try.prog w = .ok (.value (.int .u32 (bits .xor .u32 m n))) w := by
  unfold execOp
  rw [hop]
  simp only [e, ey]
  go_simp
theorem run_eql32 {x y : Operand} {m n : Int} {t : TypeId} (hop : o.op = .binOp .eql 24 x y t) (e : a.eval x = .int .u32 m) (ey : a.eval y = .int .u32 n) (h : m = n) :
    (execOp a.eval o).run Try.prog w = .ok (.value (.bool true)) w := by
  subst h
  unfold execOp
  rw [hop]
  simp only [e, ey]
  go_simp
end Go.Proofs.Ythpajmpooekebaa
