/- Regions that draw their order and whose guards are known: a value, a call, a store, or nothing, an operation. -/
import Derived.Test.YtblcbccchlljhaaAny
import Derived.Test.YtblcbccchlljhaaBs
namespace Go.Proofs.Ytblcbccchlljhaa.Bg
open Go Go.RowKit
section
variable {P : Program} {md : Region.Mode} {ops : Array Oper} {a0 : Act} {Q : Exit → Act → World → Prop} {g : Tmp → Value → Prop} {S : (Nat → Bool) → World → Prop} {j : Nat} {o : Oper} {d : Tmp}
/-- Its guard comes out as b where what is known of it holds. -/
def Guard (md : Region.Mode) (ops : Array Oper) (g : Tmp → Value → Prop) (o : Oper) (c : Bool) : Prop :=
  match o.guard with
  | none => c = true
  | some (gi, b) => ∃ dg, (ops[gi]?).bind (·.dst) = some dg ∧ waits md ops o dg = true ∧ ∀ u, g dg u → u = .bool (if c then b else !b)
theorem guard_want {a : Act} (hg : Guard md ops g o true) (h5 : ∀ d, waits md ops o d = true → g d (a.eval (.tmp d))) : want ops o a := by
  unfold Guard at hg
  unfold want
  cases hgd : o.guard with
  | none => trivial
  | some p =>
    obtain ⟨gi, b⟩ := p
    rw [hgd] at hg
    obtain ⟨dg, e1, e2, e3⟩ := hg
    simp only [e1]
    simpa using e3 _ (h5 dg e2)
theorem guard_not {a : Act} (hg : Guard md ops g o false) (h5 : ∀ d, waits md ops o d = true → g d (a.eval (.tmp d))) : ¬ want ops o a := by
  unfold Guard at hg
  unfold want
  cases hgd : o.guard with
  | none => rw [hgd] at hg; simp at hg
  | some p =>
    obtain ⟨gi, b⟩ := p
    rw [hgd] at hg
    obtain ⟨dg, e1, e2, e3⟩ := hg
    simp only [e1]
    rw [e3 _ (h5 dg e2)]
    cases b <;> simp
theorem ask_v (hg : Guard md ops g o true) (hd : o.dst = some d)
    (h : ∀ l a w, L.Hand md ops a0 (fun _ t v _ => g t v) S j o l a w → ∃ v w', (execOp a.eval o).run P w = .ok (.value v) w' ∧ g d v ∧ S (upd l j) w') : L.Asked P md ops a0 Q (fun _ t v _ => g t v) S j o := by
  intro l a w h1 h2 hcl h3 h4 h5
  refine ⟨fun _ K hK => ?_, fun hw => absurd (guard_want hg h5) hw⟩
  obtain ⟨v, w', e1, e2, e3⟩ := h l a w ⟨h1, h2, hcl, h3, h4, h5⟩
  exact wp_value e1 (hK _ _ (fun d' h' => by rw [hd] at h'; cases h'; exact e2) e3 (fun _ _ _ h => h))
theorem ask_no (hg : Guard md ops g o false) (h : ∀ d, o.dst = some d → g d undef) (hS : ∀ l w, S l w → S (upd l j) w) : L.Asked P md ops a0 Q (fun _ t v _ => g t v) S j o := by
  intro l a w h1 h2 hcl h3 h4 h5
  exact ⟨fun hw => absurd hw (guard_not hg h5), fun _ => ⟨h, hS _ _ h3, fun _ _ _ h => h⟩⟩
theorem ask_s (hg : Guard md ops g o true) (hd : o.dst = none)
    (h : ∀ l a w, L.Hand md ops a0 (fun _ t v _ => g t v) S j o l a w → ∃ w', (execOp a.eval o).run P w = .ok .skip w' ∧ S (upd l j) w') : L.Asked P md ops a0 Q (fun _ t v _ => g t v) S j o := by
  intro l a w h1 h2 hcl h3 h4 h5
  refine ⟨fun _ K hK => ?_, fun hw => absurd (guard_want hg h5) hw⟩
  obtain ⟨w', e1, e3⟩ := h l a w ⟨h1, h2, hcl, h3, h4, h5⟩
  unfold Oper.wp
  rw [e1]
  exact hK undef w' (fun d h' => by rw [hd] at h'; cases h') e3 (fun _ _ _ h => h)
theorem ask_c {f : FuncId} {fn : Func} {xs : Array Operand} {ts : Array TypeId} (hg : Guard md ops g o true) (hf : P.funcs[f]? = some fn) (hn : (fn.name == "runtime.NumGoroutine") = false) (hbody : fn.body.isNone = false) (hop : o.op = .call { callee := .value (.func f), args := xs, argTypes := ts })
    (h : ∀ l a w, L.Hand md ops a0 (fun _ t v _ => g t v) S j o l a w → Calls P f (xs.map a.eval) w fun e w' => ∃ v, e = .returned v ∧ (∀ d, o.dst = some d → g d v) ∧ S (upd l j) w') : L.Asked P md ops a0 Q (fun _ t v _ => g t v) S j o := by
  intro l a w h1 h2 hcl h3 h4 h5
  refine ⟨fun _ K hK => ?_, fun hw => absurd (guard_want hg h5) hw⟩
  have hrun : (execOp a.eval o).run P w = .ok (.enter f (xs.map a.eval)) w := by
    have : execOp a.eval o = callFunc f (#[] ++ xs.map a.eval ++ #[]) := by
      unfold execOp
      rw [hop]
      rfl
    rw [this]
    simp [callFunc, hf]
    rw [if_neg (by simpa using hn), if_neg (fun e => by rw [e] at hbody; simp at hbody)]
  unfold Oper.wp
  rw [hrun, Oper.upon_enter]
  refine (h l a w ⟨h1, h2, hcl, h3, h4, h5⟩).mono ?_
  rintro e w' ⟨v, rfl, e2, e3⟩
  exact hK _ _ e2 e3 (fun _ _ _ h => h)
end
section
variable {P : Program} {ρ : Operand → Value} {o : Oper} {w : World}
theorem ex_move {x : Operand} {v : Value} (ho : o.op = .move x) (h : ρ x = v) : (execOp ρ o).run P w = .ok (.value v) w := by
  unfold execOp; simp only [ho, h]; rfl
theorem ex_assign {x : Operand} {v : Value} (ho : o.op = .assign x) (h : ρ x = v) : (execOp ρ o).run P w = .ok (.value v) w := by
  unfold execOp; simp only [ho, h]; rfl
theorem ex_not {x : Operand} {t : TypeId} {b c : Bool} (ho : o.op = .unOp .not t x) (h : ρ x = .bool b) (hc : (!b) = c) : (execOp ρ o).run P w = .ok (.value (.bool c)) w := by
  subst hc
  unfold execOp; simp only [ho, h]; rfl
theorem ex_pick1 {x y z : Operand} {v : Value} (ho : o.op = .pick x y z) (hx : ρ x = .bool true) (hy : ρ y = v) : (execOp ρ o).run P w = .ok (.value v) w := by
  unfold execOp; simp only [ho, hx, hy]; rfl
theorem ex_pick0 {x y z : Operand} {v : Value} (ho : o.op = .pick x y z) (hx : ρ x = .bool false) (hz : ρ z = v) : (execOp ρ o).run P w = .ok (.value v) w := by
  unfold execOp; simp only [ho, hx, hz]; rfl
/-- A whole block is loaded. -/
theorem ex_load {x : Operand} {ty t : TypeId} {g : Nat} {cs : Array Value} {d : TypeDesc} (ho : o.op = .load ty x) (hx : ρ x = .pointer (some ⟨g, 0, none⟩)) (hg : w.heap[g]? = some (.cells cs t (0, 0)))
    (hu : P.underlying ty = some d) (hd : d.isRow = true) (hi : (P.info? ty).map (·.size) = some cs.size) : (execOp ρ o).run P w = .ok (.value (.agg cs)) w := by
  unfold execOp
  have hc : w.rangeAt g 0 cs.toList := fun j v hv => by
    rw [Nat.zero_add, cell_of_row w g j cs t _ hg]
    simpa using hv
  have hr := run_loadVar_mid (P := P) w g 0 ty cs.toList d hc hu hd (by simpa using hi)
  rw [Array.toArray_toList] at hr
  simp only [ho, hx, Instr.loadAt, Instr.sureAddr, Sem.run_bind, Sem.run_pure, Result.andThen_ok, hr]
end
end Go.Proofs.Ytblcbccchlljhaa.Bg
