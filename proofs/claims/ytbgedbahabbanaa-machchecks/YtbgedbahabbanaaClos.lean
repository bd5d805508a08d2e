/- A closure called inside a region that draws its order; Made's own closure. -/
import Derived.Test.YtbgedbahabbanaaAnyL
import Derived.Test.YtbgedbahabbanaaMem
namespace Go.Proofs.Ytbgedbahabbanaa
open Go Go.RowKit

namespace L
section
variable {P : Program} {ops : Array Oper} {Q : Exit → Act → World → Prop} {md : Region.Mode}
variable {a0 : Act} {G : (Nat → Bool) → Tmp → Value → World → Prop} {S : (Nat → Bool) → World → Prop} {j : Nat} {o : Oper} {d : Tmp}
/-- A call of a closure, by its contract; not guarded. -/
theorem asked_clos {f : FuncId} {fn : Func} {x : Operand} {xs : Array Operand} {ts : Array TypeId} {cap : Array Value} (hg : o.guard = none) (hf : P.funcs[f]? = some fn) (hn : (fn.name == "runtime.NumGoroutine") = false) (hbody : fn.body.isNone = false) (hd : o.dst = some d) (hop : o.op = .call { callee := .value x, args := xs, argTypes := ts })
    (h : ∀ l a w, Hand md ops a0 G S j o l a w → a.eval x = .func (.func f) #[] cap ∧ Calls P f (xs.map a.eval ++ cap) w fun e w' => ∃ v, e = .returned v ∧ G (upd l j) d v w' ∧ S (upd l j) w' ∧ ∀ d' u, d' ≠ d → G l d' u w → G (upd l j) d' u w') :
    Asked P md ops a0 Q G S j o := by
  intro l a w h1 h2 hcl h3 h4 h5
  refine ⟨fun _ K hK => ?_, fun hw => absurd (by unfold want; rw [hg]; trivial) hw⟩
  obtain ⟨hx, hC⟩ := h l a w ⟨h1, h2, hcl, h3, h4, h5⟩
  have hrun : (execOp a.eval o).run P w = .ok (.enter f (xs.map a.eval ++ cap)) w := by
    have : execOp a.eval o = callFunc f (#[] ++ xs.map a.eval ++ cap) := by
      unfold execOp
      rw [hop]
      show (do let d ← resolve a.eval { callee := .value x, args := xs, argTypes := ts } o.type; invoke d.target d.args) = _
      unfold resolve
      simp only [hx]
      rfl
    rw [this]
    simp [callFunc, hf]
    rw [if_neg (by simpa using hn), if_neg (fun e => by rw [e] at hbody; simp at hbody)]
  unfold Oper.wp
  rw [hrun, Oper.upon_enter]
  refine hC.mono ?_
  rintro e w' ⟨v, rfl, e2, e3, e4⟩
  refine hK _ _ (fun d' h' => ?_) e3 (fun d' u hne hG => e4 d' u (fun e => hne (by rw [e, hd])) hG)
  rw [hd] at h'
  cases h'
  exact e2
end
end L
theorem at_any (n r : Int) (pc : Nat) (w : World) (hc : w.cell? ⟨pc, 1, none⟩ = some (.int .i64 r)) (h0 : 0 < r) : Calls Try.prog 15 #[.int .i64 n, .pointer (some ⟨pc, 0, none⟩)] w fun e w' => e = .returned (.int .i64 (n.tmod r)) ∧ w' = w := by
  have b0 : (r == 0) = false := by simp; omega
  have b1 : (r == -1) = false := by simp; omega
  go_enter Try.func15, Try.ntmps15
  go_wp2_with fail
  go_ret
  exact ⟨rfl, rfl⟩
end Go.Proofs.Ytbgedbahabbanaa
