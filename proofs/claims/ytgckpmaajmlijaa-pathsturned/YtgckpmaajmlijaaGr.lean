/- The law on regions that draw their order and only read, or grow the world (calls that leave all there was). -/
import Derived.Test.YtgckpmaajmlijaaAny
import Derived.Test.YtgckpmaajmlijaaMem
import Derived.Test.YtgckpmaajmlijaaInts
import Derived.Test.YtgckpmaajmlijaaOps
namespace Go.Proofs.Ytgckpmaajmlijaa.Gr
open Go Go.RowKit
section
variable {P : Program} {ops : Array Oper} {Q : Exit → Act → World → Prop} {a0 : Act} {wa : World} {G : Tmp → Value → World → Prop} {j : Nat} {o : Oper} {d : Tmp} {v : Value}
abbrev Ask (P : Program) (ops : Array Oper) (a0 : Act) (Q : Exit → Act → World → Prop) (wa : World) (G : Tmp → Value → World → Prop) (j : Nat) (o : Oper) : Prop := L.Asked P .any ops a0 Q (fun _ => G) (fun _ W => Below wa.heap.size wa W) j o
/-- What is at hand where an operation comes up. -/
structure Hand (ops : Array Oper) (a0 : Act) (wa : World) (G : Tmp → Value → World → Prop) (o : Oper) (a : Act) (W : World) : Prop where
  below : Below wa.heap.size wa W
  base : ∀ t, (dstsOf ops).contains t = false → a.eval (.tmp t) = a0.eval (.tmp t)
  facts : ∀ d, waits .any ops o d = true → G d (a.eval (.tmp d)) W
theorem Hand.row {a : Act} {W : World} (h : Hand ops a0 wa G o a W) {g : Nat} {cs : Array Value} {t : TypeId} (hr : wa.heap[g]? = some (Obj.cells cs t (0, 0))) : W.heap[g]? = some (Obj.cells cs t (0, 0)) := (h.below.block g (Array.getElem?_eq_some_iff.1 hr).1).trans hr
/-- It is carried out; it is left out. -/
def Carried (ops : Array Oper) (G : Tmp → Value → World → Prop) (o : Oper) : Prop := match o.guard with | none => True | some (g, b) => ∃ dg, (ops[g]?).bind (·.dst) = some dg ∧ waits .any ops o dg = true ∧ ∀ u W, G dg u W → u = .bool b
def Left (ops : Array Oper) (G : Tmp → Value → World → Prop) (o : Oper) : Prop := match o.guard with | none => False | some (g, b) => ∃ dg, (ops[g]?).bind (·.dst) = some dg ∧ waits .any ops o dg = true ∧ ∀ u W, G dg u W → u ≠ .bool b
theorem Carried.want {a : Act} {W : World} (h : Carried ops G o) (hf : ∀ d, waits .any ops o d = true → G d (a.eval (.tmp d)) W) : want ops o a := by
  unfold Go.Proofs.Ytgckpmaajmlijaa.want
  unfold Carried at h
  cases hg : o.guard with
  | none => trivial
  | some gb =>
    obtain ⟨g, b⟩ := gb
    rw [hg] at h
    obtain ⟨dg, h1, h2, h3⟩ := h
    simp only [h1]
    exact h3 _ _ (hf dg h2)
theorem Left.not {a : Act} {W : World} (h : Left ops G o) (hf : ∀ d, waits .any ops o d = true → G d (a.eval (.tmp d)) W) : ¬ want ops o a := by
  unfold Go.Proofs.Ytgckpmaajmlijaa.want
  unfold Left at h
  cases hg : o.guard with
  | none => rw [hg] at h; exact h.elim
  | some gb =>
    obtain ⟨g, b⟩ := gb
    rw [hg] at h
    obtain ⟨dg, h1, h2, h3⟩ := h
    simp only [h1]
    exact h3 _ _ (hf dg h2)
/-- An operation that yields one value and leaves the world as it is. -/
theorem ask_val (hc : Carried ops G o) (hd : o.dst = some d) (hG : ∀ W, G d v W) (h : ∀ a W, Hand ops a0 wa G o a W → (execOp a.eval o).run P W = .ok (.value v) W) : Ask P ops a0 Q wa G j o := by
  intro l a w h1 h2 hcl h3 h4 h5
  refine ⟨fun _ K hKK => wp_value (h a w ⟨h3, h4, h5⟩) (hKK _ _ (fun d' h' => ?_) h3 (fun _ _ _ h => h)), fun hw => absurd (hc.want h5) hw⟩
  rw [hd] at h'
  cases h'
  exact hG w
/-- One that is left out. -/
theorem ask_left (hc : Left ops G o) (hd : o.dst = some d) (hG : ∀ W, G d undef W) : Ask P ops a0 Q wa G j o := by
  intro l a w h1 h2 hcl h3 h4 h5
  refine ⟨fun hw => absurd hw (hc.not h5), fun _ => ⟨fun d' h' => ?_, h3, fun _ _ _ h => h⟩⟩
  rw [hd] at h'
  cases h'
  exact hG w
/-- A call of a function of the program, by its contract. -/
theorem ask_call {f : FuncId} {fn : Func} {xs : Array Operand} {ts : Array TypeId} (hmono : ∀ d u W W', Below W.heap.size W W' → G d u W → G d u W') (hc : Carried ops G o) (hf : P.funcs[f]? = some fn) (hn : (fn.name == "runtime.NumGoroutine") = false) (hbody : fn.body.isNone = false) (hd : o.dst = some d) (hop : o.op = .call { callee := .value (.func f), args := xs, argTypes := ts })
    (h : ∀ a W, Hand ops a0 wa G o a W → Calls P f (xs.map a.eval) W fun e w' => ∃ v, e = .returned v ∧ G d v w' ∧ Below W.heap.size W w') : Ask P ops a0 Q wa G j o := by
  intro l a w h1 h2 hcl h3 h4 h5
  refine ⟨fun _ K hK => ?_, fun hw => absurd (hc.want h5) hw⟩
  have hrun : (execOp a.eval o).run P w = .ok (.enter f (xs.map a.eval)) w := by
    have : execOp a.eval o = callFunc f (#[] ++ xs.map a.eval ++ #[]) := by
      unfold execOp
      rw [hop]
      rfl
    rw [this]
    simp [callFunc, hf]
    rw [if_neg (by simpa using hn), if_neg (fun e => by rw [e] at hbody; simp at hbody)]
  unfold Oper.wp
  rw [hrun, Oper.upon_enter]
  refine (h a w ⟨h3, h4, h5⟩).mono ?_
  rintro e w' ⟨v, rfl, e2, e3⟩
  refine hK _ _ (fun d' h' => ?_) (bel_of h3 e3) (fun d' u hne hG => hmono _ _ _ _ e3 hG)
  rw [hd] at h'
  cases h'
  exact e2
/-- An operation that makes memory. -/
theorem ask_grow (hmono : ∀ d u W W', Below W.heap.size W W' → G d u W → G d u W') (hc : Carried ops G o) (hd : o.dst = some d) (h : ∀ a W, Hand ops a0 wa G o a W → ∃ v w', (execOp a.eval o).run P W = .ok (.value v) w' ∧ G d v w' ∧ Below W.heap.size W w') : Ask P ops a0 Q wa G j o := by
  intro l a w h1 h2 hcl h3 h4 h5
  refine ⟨fun _ K hKK => ?_, fun hw => absurd (hc.want h5) hw⟩
  obtain ⟨v, w', e1, e2, e3⟩ := h a w ⟨h3, h4, h5⟩
  refine wp_value e1 (hKK _ _ (fun d' h' => ?_) (bel_of h3 e3) (fun _ _ _ h => hmono _ _ _ _ e3 h))
  rw [hd] at h'
  cases h'
  exact e2
/-- An operation whose value is what is asked. -/
theorem ask_fact (hc : Carried ops G o) (hd : o.dst = some d) (h : ∀ a W, Hand ops a0 wa G o a W → ∃ v, (execOp a.eval o).run P W = .ok (.value v) W ∧ G d v W) : Ask P ops a0 Q wa G j o := by
  intro l a w h1 h2 hcl h3 h4 h5
  refine ⟨fun _ K hKK => ?_, fun hw => absurd (hc.want h5) hw⟩
  obtain ⟨v, e1, e2⟩ := h a w ⟨h3, h4, h5⟩
  refine wp_value e1 (hKK _ _ (fun d' h' => ?_) h3 (fun _ _ _ h => h))
  rw [hd] at h'
  cases h'
  exact e2
/-- THE LAW. -/
theorem wp_region_grow {id : Nat} (hm : P.follows .mixedOrders = true) (G : Tmp → Value → World → Prop) (hp : L.plain ops a0.tmps.size = true) (hop : L.AskedAll P .any ops a0 Q (fun _ => G) (fun _ W => Below wa.heap.size wa W) 0 ops.toList)
    (hend : ∀ (s : Tmp → Value) (W : World), Below wa.heap.size wa W → (∀ d, (dstsOf ops).contains d = true → G d (s d) W) → Q .normal (overlay a0 (dstsOf ops) s) W) : (Code.region id ops true).wp P Q a0 wa :=
  L.wp_region_eachL hm (fun _ => G) (fun _ W => Below wa.heap.size wa W) hp ((Below.refl _ _).drew) hop fun _ s W _ hS hs => hend s W hS hs
end
/-- A row is loaded whole. -/
theorem run_load_row {o : Oper} {a : Act} {w : World} {ty : TypeId} {x : Operand} {g : Nat} {t : TypeId} {cs : Array Value} {fr : Nat × Nat} {fs : Array Field} (ho : o.op = .load ty x) (hx : a.eval x = .pointer (some ⟨g, 0, none⟩)) (hg : w.heap[g]? = some (.cells cs t fr))
    (hu : Try.prog.underlying ty = some (.struct fs)) (hi : (Try.prog.info? ty).map (·.size) = some cs.size) : (execOp a.eval o).run Try.prog w = .ok (.value (.agg cs)) w := by
  unfold execOp
  simp only [ho, hx, Instr.loadAt, Instr.sureAddr, Sem.run_bind, Sem.run_pure, Result.andThen_ok, run_loadVar_row w g t ty cs fr (.struct fs) hg hu rfl hi]
end Go.Proofs.Ytgckpmaajmlijaa.Gr
