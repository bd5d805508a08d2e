/- Regions that draw their order, whose guards are known, and whose operations only read or grow: what is known of a temporary's value may speak of the world. -/
import Derived.Test.YtdeebmpmfedjbaaDoorRg
namespace Go.Proofs.YtdeebmpmfedjbaaDoor
open Go Go.RowKit
section
variable {P : Program} {md : Region.Mode} {ops : Array Oper} {a0 : Act} {Q : Exit → Act → World → Prop} {g : Tmp → Value → World → Prop} {S : (Nat → Bool) → World → Prop} {j : Nat} {o : Oper} {d : Tmp}
/-- Its guard comes out as b where what is known of it holds. -/
def GuardW (md : Region.Mode) (ops : Array Oper) (g : Tmp → Value → World → Prop) (o : Oper) (c : Bool) : Prop :=
  match o.guard with
  | none => c = true
  | some (gi, b) => ∃ dg, (ops[gi]?).bind (·.dst) = some dg ∧ waits md ops o dg = true ∧ ∀ u w, g dg u w → u = .bool (if c then b else !b)
theorem guard_wantW {a : Act} {w : World} (hg : GuardW md ops g o true) (h5 : ∀ d, waits md ops o d = true → g d (a.eval (.tmp d)) w) : want ops o a := by
  unfold GuardW at hg
  unfold want
  cases hgd : o.guard with
  | none => trivial
  | some p =>
    obtain ⟨gi, b⟩ := p
    rw [hgd] at hg
    obtain ⟨dg, e1, e2, e3⟩ := hg
    simp only [e1]
    simpa using e3 _ _ (h5 dg e2)
theorem guard_notW {a : Act} {w : World} (hg : GuardW md ops g o false) (h5 : ∀ d, waits md ops o d = true → g d (a.eval (.tmp d)) w) : ¬ want ops o a := by
  unfold GuardW at hg
  unfold want
  cases hgd : o.guard with
  | none => rw [hgd] at hg; simp at hg
  | some p =>
    obtain ⟨gi, b⟩ := p
    rw [hgd] at hg
    obtain ⟨dg, e1, e2, e3⟩ := hg
    simp only [e1]
    rw [e3 _ _ (h5 dg e2)]
    cases b <;> simp
theorem ask_vw (hm : ∀ d u w w', World.grownBy w w' none → g d u w → g d u w') (hg : GuardW md ops g o true) (hd : o.dst = some d)
    (h : ∀ l a w, L.Hand md ops a0 (fun _ t v w => g t v w) S j o l a w → ∃ v w', (execOp a.eval o).run P w = .ok (.value v) w' ∧ g d v w' ∧ S (upd l j) w' ∧ w.grownBy w' none) : L.Asked P md ops a0 Q (fun _ t v w => g t v w) S j o := by
  intro l a w h1 h2 hcl h3 h4 h5
  refine ⟨fun _ K hK => ?_, fun hw => absurd (guard_wantW hg h5) hw⟩
  obtain ⟨v, w', e1, e2, e3, e4⟩ := h l a w ⟨h1, h2, hcl, h3, h4, h5⟩
  exact wp_value e1 (hK _ _ (fun d' h' => by rw [hd] at h'; cases h'; exact e2) e3 (fun d u _ h => hm d u _ _ e4 h))
theorem ask_now (hg : GuardW md ops g o false) (h : ∀ d w, o.dst = some d → g d undef w) (hS : ∀ l w, S l w → S (upd l j) w) : L.Asked P md ops a0 Q (fun _ t v w => g t v w) S j o := by
  intro l a w h1 h2 hcl h3 h4 h5
  exact ⟨fun hw => absurd hw (guard_notW hg h5), fun _ => ⟨fun d => h d w, hS _ _ h3, fun _ _ _ h => h⟩⟩
theorem ask_cw (hm : ∀ d u w w', World.grownBy w w' none → g d u w → g d u w') {f : FuncId} {fn : Func} {xs : Array Operand} {ts : Array TypeId} (hg : GuardW md ops g o true) (hf : P.funcs[f]? = some fn) (hn : (fn.name == "runtime.NumGoroutine") = false) (hbody : fn.body.isNone = false) (hop : o.op = .call { callee := .value (.func f), args := xs, argTypes := ts })
    (h : ∀ l a w, L.Hand md ops a0 (fun _ t v w => g t v w) S j o l a w → Calls P f (xs.map a.eval) w fun e w' => ∃ v, e = .returned v ∧ (∀ d, o.dst = some d → g d v w') ∧ S (upd l j) w' ∧ w.grownBy w' none) : L.Asked P md ops a0 Q (fun _ t v w => g t v w) S j o := by
  intro l a w h1 h2 hcl h3 h4 h5
  refine ⟨fun _ K hK => ?_, fun hw => absurd (guard_wantW hg h5) hw⟩
  have hrun : (execOp a.eval o).run P w = .ok (.enter f (xs.map a.eval)) w := by
    have : execOp a.eval o = callFunc f (#[] ++ xs.map a.eval ++ #[]) := by
      unfold execOp
      rw [hop]
      rfl
    rw [this]
    simp [callFunc, hf]
    rw [if_neg (by simpa using hn), if_neg (fun e => by rw [e] at hbody; simp at hbody)]
  unfold Oper.wp
  rw [hrun, Oper.upon_enter]
  refine (h l a w ⟨h1, h2, hcl, h3, h4, h5⟩).mono ?_
  rintro e w' ⟨v, rfl, e2, e3, e4⟩
  exact hK _ _ e2 e3 (fun d u _ h => hm d u _ _ e4 h)
end
end Go.Proofs.YtdeebmpmfedjbaaDoor
