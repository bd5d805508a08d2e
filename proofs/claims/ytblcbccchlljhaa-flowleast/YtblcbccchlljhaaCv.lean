/- Calls of function values that came from outside: by what is known of them. -/
import Derived.Test.YtblcbccchlljhaaAp
import Derived.Test.YtblcbccchlljhaaMem
namespace Go.Proofs.Ytblcbccchlljhaa
open Go Go.RowKit

/-- A function value, called. -/
def goV (v : Value) (args : Array Value) : Sem Next := do let d ← Deferred.ofValue v args; invoke d.target d.args
/-- The function value v, called with args, ends as Q says. -/
def CallV (v : Value) (args : Array Value) (w : World) (Q : Ending → World → Prop) : Prop := ∃ (f : FuncId) (xs : Array Value), (goV v args).run Try.prog w = .ok (.enter f xs) w ∧ Calls Try.prog f xs w Q
theorem CallV.mono {v : Value} {args : Array Value} {w : World} {Q R : Ending → World → Prop} (h : CallV v args w Q) (hQ : ∀ e w', Q e w' → R e w') : CallV v args w R := by
  obtain ⟨f, ys, h1, h2⟩ := h
  exact ⟨f, ys, h1, h2.mono hQ⟩
/-- A function of the program, or a closure: the arguments, then what it captured. -/
theorem callV_func {f : FuncId} {fn : Func} {args cap : Array Value} {w : World} {Q : Ending → World → Prop} (hf : Try.prog.funcs[f]? = some fn) (hn : (fn.name == "runtime.NumGoroutine") = false) (hbody : fn.body.isNone = false) (h : Calls Try.prog f (args ++ cap) w Q) : CallV (.func (.func f) #[] cap) args w Q := by
  refine ⟨f, args ++ cap, ?_, h⟩
  have : goV (.func (.func f) #[] cap) args = callFunc f (#[] ++ args ++ cap) := rfl
  rw [this]
  simp [callFunc, hf]
  rw [if_neg (by simpa using hn), if_neg (fun e => by rw [e] at hbody; simp at hbody)]
section
variable {ops : Array Oper} {rest : List Oper} {o : Oper} {a : Act} {w : World} {Q : Exit → Act → World → Prop}
theorem exec_callv {ρ : Operand → Value} {x : Operand} {xs : Array Operand} {ts : Array TypeId} (ho : o.op = .call { callee := .value x, args := xs, argTypes := ts }) : execOp ρ o = goV (ρ x) (xs.map ρ) := by
  unfold execOp
  rw [ho]
  rfl
/-- In a walk. -/
theorem wpList_callv (hg : o.guard = none) (x : Operand) (xs : Array Operand) (ts : Array TypeId) (ho : o.op = .call { callee := .value x, args := xs, argTypes := ts }) (v : Value) (hx : a.eval x = v) (args : Array Value) (hxs : xs.map a.eval = args)
    (h : CallV v args w fun e w' => ∃ u, e = .returned u ∧ wpList Try.prog ops Q rest (a.put o.dst u) w') : wpList Try.prog ops Q (o :: rest) a w := by
  refine wpList_step fun K hK => ?_
  rw [if_pos (by simp [Region.wanted, hg])]
  obtain ⟨f, ys, h1, h2⟩ := h
  unfold Oper.wp
  rw [exec_callv ho, hx, hxs, h1, Oper.upon_enter]
  refine h2.mono ?_
  rintro e w' ⟨u, rfl, h3⟩
  exact hK _ _ h3
end
namespace L3
section
variable {ops : Array Oper} {Q : Exit → Act → World → Prop} {md : Region.Mode} {a0 : Act} {G : (Nat → Bool) → Tmp → Value → World → Prop} {S : (Nat → Bool) → (Tmp → Value) → World → Prop} {j : Nat} {o : Oper} {d : Tmp}
/-- In a region that draws its order; not guarded. -/
theorem asked_callv {x : Operand} {xs : Array Operand} {ts : Array TypeId} (hg : o.guard = none) (hd : o.dst = some d) (hop : o.op = .call { callee := .value x, args := xs, argTypes := ts })
    (h : ∀ l a w, Hand md ops a0 G S j o l a w → CallV (a.eval x) (xs.map a.eval) w fun e w' => ∃ v, e = .returned v ∧ G (upd l j) d v w' ∧ S (upd l j) (putv (ev a) (some d) v) w' ∧ ∀ d', d' ≠ d → G l d' (a.eval (.tmp d')) w → G (upd l j) d' (a.eval (.tmp d')) w') :
    Asked Try.prog md ops a0 Q G S j o := by
  intro l a w h1 h2 hcl h3 h4 h5
  refine ⟨fun _ K hK => ?_, fun hw => absurd (by unfold want; rw [hg]; trivial) hw⟩
  obtain ⟨f, ys, e1, e2⟩ := h l a w ⟨h1, h2, hcl, h3, h4, h5⟩
  unfold Oper.wp
  rw [exec_callv hop, e1, Oper.upon_enter]
  refine e2.mono ?_
  rintro e w' ⟨v, rfl, e2, e3, e4⟩
  refine hK _ _ (fun d' h' => ?_) (by rw [hd]; exact e3) (fun d' hne hG => e4 d' (fun e => hne (by rw [e, hd])) hG)
  rw [hd] at h'
  cases h'
  exact e2
end
end L3
end Go.Proofs.Ytblcbccchlljhaa
