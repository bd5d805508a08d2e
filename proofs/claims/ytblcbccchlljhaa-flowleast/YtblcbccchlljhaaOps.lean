/- Single operations, as the law on regions asks for them. -/
import Derived.Test.YtblcbccchlljhaaAny
import Derived.Test.YtblcbccchlljhaaMem
namespace Go.Proofs.Ytblcbccchlljhaa
open Go.RowKit Ir
variable {a : Act} {w : World} {o : Oper}

theorem run_move {x : Operand} {u : Value} (hop : o.op = .move x) (e : a.eval x = u) : (execOp a.eval o).run Try.prog w = .ok (.value u) w := by
  unfold execOp
  rw [hop]
  show Result.ok (Next.value (a.eval x)) w = _
  rw [e]
theorem run_assign {x : Operand} {u : Value} (hop : o.op = .assign x) (e : a.eval x = u) : (execOp a.eval o).run Try.prog w = .ok (.value u) w := by
  unfold execOp
  rw [hop]
  show Result.ok (Next.value (a.eval x)) w = _
  rw [e]
theorem run_len {x : Operand} {t e : TypeId} {ao : Option Addr} {n cap : Nat} (hop : o.op = .call { callee := .builtin .len, args := #[x], argTypes := #[t] }) (ex : a.eval x = .slice ao n cap) (ht : Try.prog.underlying t = some (.slice e)) :
    (execOp a.eval o).run Try.prog w = .ok (.value (.int .i64 (n : Nat))) w := by
  generalize a.eval = ρ at ex ⊢
  unfold execOp
  rw [hop]
  go_simp
theorem run_load39 {x : Operand} {b off : Nat} {e : En} (hop : o.op = .load 67 x) (ex : a.eval x = .pointer (some ⟨b, off, none⟩))
    (c0 : w.cell? ⟨b, off, none⟩ = some (.int .u8 e.k)) (c1 : w.cell? ⟨b, off + 1, none⟩ = some (.int .i64 e.a)) (c2 : w.cell? ⟨b, off + 2, none⟩ = some (.int .i64 e.to)) (c3 : w.cell? ⟨b, off + 3, none⟩ = some (.int .i64 e.el)) :
    (execOp a.eval o).run Try.prog w = .ok (.value (endV e)) w := by
  generalize a.eval = ρ at ex ⊢
  unfold execOp
  rw [hop]
  go_simp
  rfl
theorem run_load46 {x : Operand} {b off : Nat} {i : Ins} {u : Value} (hop : o.op = .load 79 x) (ex : a.eval x = .pointer (some ⟨b, off, none⟩)) (h : InsCells w b off i u) :
    (execOp a.eval o).run Try.prog w = .ok (.value (insV i u)) w := by
  obtain ⟨c0, c1, c2, c3, c4, c5, c6⟩ := h
  generalize a.eval = ρ at ex ⊢
  unfold execOp
  rw [hop]
  go_simp
  rfl
theorem run_pick_or {x z : Operand} {b c : Bool} (hop : o.op = .pick x (.const (.bool true)) z) (ex : a.eval x = .bool b) (ez : b = false → a.eval z = .bool c) :
    (execOp a.eval o).run Try.prog w = .ok (.value (.bool (b || c))) w := by
  have ht : a.eval (.const (.bool true)) = .bool true := rfl
  generalize a.eval = ρ at ex ez ht ⊢
  unfold execOp
  rw [hop]
  cases b with
  | true => simp [ex, ht, asBool]
  | false => simp [ex, ez rfl, asBool]
theorem run_pick_and {x y : Operand} {b c : Bool} (hop : o.op = .pick x y (.const (.bool false))) (ex : a.eval x = .bool b) (ey : b = true → a.eval y = .bool c) :
    (execOp a.eval o).run Try.prog w = .ok (.value (.bool (b && c))) w := by
  have ht : a.eval (.const (.bool false)) = .bool false := rfl
  generalize a.eval = ρ at ex ey ht ⊢
  unfold execOp
  rw [hop]
  cases b with
  | false => simp [ex, ht, asBool]
  | true => simp [ex, ey rfl, asBool]
theorem run_not {x : Operand} {b : Bool} {t : TypeId} (hop : o.op = .unOp .not t x) (ex : a.eval x = .bool b) : (execOp a.eval o).run Try.prog w = .ok (.value (.bool (!b))) w := by
  generalize a.eval = ρ at ex ⊢
  unfold execOp
  rw [hop]
  go_simp
/-- What a guard says, as it was written. -/
theorem want_t {u : Value} {c : Bool} (h : u = .bool c) : u = .bool true ↔ c = true := by rw [h]; simp
theorem want_f {u : Value} {c : Bool} (h : u = .bool c) : u = .bool false ↔ (!c) = true := by rw [h]; simp
theorem want_nt {u : Value} {g c : Bool} (h : u = if g = true then .bool c else undef) : u = .bool true ↔ (g && c) = true := by rw [h]; cases g <;> simp [undef]
theorem want_nf {u : Value} {g c : Bool} (h : u = if g = true then .bool c else undef) : u = .bool false ↔ (g && !c) = true := by rw [h]; cases g <;> simp [undef]
end Go.Proofs.Ytblcbccchlljhaa
