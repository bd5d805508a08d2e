/- A call inside a region that draws its order, under the law whose facts hang on which operations have come up. -/
import Derived.Test.YtbgedbahabbanaaAnyL
namespace Go.Proofs.Ytbgedbahabbanaa.L
open Go
section
variable {P : Program} {ops : Array Oper} {Q : Exit → Act → World → Prop} {md : Region.Mode}
variable {a0 : Act} {G : (Nat → Bool) → Tmp → Value → World → Prop} {S : (Nat → Bool) → World → Prop} {j : Nat} {o : Oper} {d : Tmp}
/-- A call of a function of the program, by its contract; not guarded. -/
theorem asked_call {f : FuncId} {fn : Func} {xs : Array Operand} {ts : Array TypeId} (hg : o.guard = none) (hf : P.funcs[f]? = some fn) (hn : (fn.name == "runtime.NumGoroutine") = false) (hbody : fn.body.isNone = false) (hd : o.dst = some d) (hop : o.op = .call { callee := .value (.func f), args := xs, argTypes := ts })
    (h : ∀ l a w, Hand md ops a0 G S j o l a w → Calls P f (xs.map a.eval) w fun e w' => ∃ v, e = .returned v ∧ G (upd l j) d v w' ∧ S (upd l j) w' ∧ ∀ d' u, d' ≠ d → G l d' u w → G (upd l j) d' u w') :
    Asked P md ops a0 Q G S j o := by
  intro l a w h1 h2 hcl h3 h4 h5
  refine ⟨fun _ K hK => ?_, fun hw => absurd (by unfold want; rw [hg]; trivial) hw⟩
  have hrun : (execOp a.eval o).run P w = .ok (.enter f (xs.map a.eval)) w := by
    have : execOp a.eval o = callFunc f (#[] ++ xs.map a.eval ++ #[]) := by
      unfold execOp
      rw [hop]
      rfl
    rw [this]
    simp [callFunc, hf]
    rw [if_neg (by simpa using hn), if_neg (fun e => by rw [e] at hbody; simp at hbody)]
  unfold Oper.wp
  rw [hrun, Oper.upon_enter]
  refine (h l a w ⟨h1, h2, hcl, h3, h4, h5⟩).mono ?_
  rintro e w' ⟨v, rfl, e2, e3, e4⟩
  refine hK _ _ (fun d' h' => ?_) e3 (fun d' u hne hG => e4 d' u (fun e => hne (by rw [e, hd])) hG)
  rw [hd] at h'
  cases h'
  exact e2

end
end Go.Proofs.Ytbgedbahabbanaa.L
