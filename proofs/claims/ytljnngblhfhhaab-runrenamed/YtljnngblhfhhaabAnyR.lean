/- The law on regions that draw their order, with one relation between what all temporaries have and the world. -/
import Derived.Test.YtljnngblhfhhaabAnyL
namespace Go.Proofs.Ytljnngblhfhhaab.R
open Go
section
variable {P : Program} {ops : Array Oper} {Q : Exit → Act → World → Prop} {md : Region.Mode}
def put1 (s : Tmp → Value) (d : Option Tmp) (v : Value) : Tmp → Value := fun t => if d = some t then v else s t
/-- What is kept on the way. -/
structure Inv (ops : Array Oper) (a0 : Act) (R : (Nat → Bool) → (Tmp → Value) → World → Prop) (listed : Array Bool) (a : Act) (w : World) : Prop where
  size : a.tmps.size = a0.tmps.size
  defers : a.defers = a0.defers
  base : ∀ t, t ∉ dstsOf ops → a.eval (.tmp t) = a0.eval (.tmp t)
  r : R (fun j => listed.getD j false) (fun t => a.eval (.tmp t)) w
  len : listed.size = ops.size
  closed : ∀ i j, dep .any ops i j = true → listed.getD i false = true → listed.getD j false = true
/-- What is at hand where an operation comes up. -/
structure Hand (md : Region.Mode) (ops : Array Oper) (a0 : Act) (R : (Nat → Bool) → (Tmp → Value) → World → Prop) (j : Nat) (o : Oper) (l : Nat → Bool) (a : Act) (w : World) : Prop where
  new : l j = false
  deps : ∀ e ∈ o.after, Region.binds md e = true → l e.on = true
  closed : ∀ i k, dep md ops i k = true → l i = true → l k = true
  r : R l (fun t => a.eval (.tmp t)) w
  base : ∀ t, (dstsOf ops).contains t = false → a.eval (.tmp t) = a0.eval (.tmp t)
/-- What is asked of one operation. -/
def Asked (P : Program) (md : Region.Mode) (ops : Array Oper) (a0 : Act) (Q : Exit → Act → World → Prop) (R : (Nat → Bool) → (Tmp → Value) → World → Prop) (j : Nat) (o : Oper) : Prop :=
  ∀ (l : Nat → Bool) (a : Act) (w : World), Hand md ops a0 R j o l a w →
    (want ops o a → ∀ K : Act → World → Prop, (∀ v w', R (upd l j) (put1 (fun t => a.eval (.tmp t)) o.dst v) w' → K (a.put o.dst v) w') → Oper.wp P o a w K Q) ∧
    (¬ want ops o a → R (upd l j) (put1 (fun t => a.eval (.tmp t)) o.dst undef) w)
def AskedAll (P : Program) (md : Region.Mode) (ops : Array Oper) (a0 : Act) (Q : Exit → Act → World → Prop) (R : (Nat → Bool) → (Tmp → Value) → World → Prop) : Nat → List Oper → Prop
  | _, [] => True
  | j, o :: rest => Asked P md ops a0 Q R j o ∧ AskedAll P md ops a0 Q R (j + 1) rest
theorem AskedAll.mem {a0 : Act} {R : (Nat → Bool) → (Tmp → Value) → World → Prop} : ∀ {l : List Oper} {k : Nat}, AskedAll P md ops a0 Q R k l → ∀ j o, l[j]? = some o → Asked P md ops a0 Q R (k + j) o
  | [], _, _, j, o, h => by simp at h
  | x :: l, k, hA, 0, o, h => by
    simp at h
    subst h
    exact hA.1
  | x :: l, k, hA, j + 1, o, h => by
    have := AskedAll.mem hA.2 j o (by simpa using h)
    rwa [show k + 1 + j = k + (j + 1) from by omega] at this
theorem eval_put1 {a : Act} {d : Option Tmp} {v : Value} (hd : ∀ t, d = some t → t < a.tmps.size) : (fun t => (a.put d v).eval (.tmp t)) = put1 (fun t => a.eval (.tmp t)) d v := by
  funext t
  unfold put1
  by_cases e : d = some t
  · rw [if_pos e]
    subst e
    have := hd t rfl
    simp [Act.put, Act.eval, this]
  · rw [if_neg e]
    rw [Act.eval_put (fun d' hd' h => ?_)]
    simp only [Operand.tmp.injEq] at h
    subst h
    exact e hd'

/-- THE LAW. -/
theorem wp_region_eachR {id : Nat} {a0 : Act} {w : World} (hm : P.follows .mixedOrders = true) (R : (Nat → Bool) → (Tmp → Value) → World → Prop) (hp : L.plain ops a0.tmps.size = true)
    (hS : R (fun _ => false) (fun t => a0.eval (.tmp t)) w.drew) (hop : AskedAll P .any ops a0 Q R 0 ops.toList)
    (hend : ∀ (l : Nat → Bool) (s : Tmp → Value) (w : World), (∀ j, j < ops.size → l j = true) → R l s w → Q .normal (overlay a0 (dstsOf ops) s) w) : (Code.region id ops true).wp P Q a0 w := by
  refine wp_region_any hm ?_
  refine wpAny_inv (I := Inv ops a0 R) ?_ ?_ _ _ _ _ ?_ ?_
  · intro j listed a w hj hI
    obtain ⟨hun, o, ho, hdeps⟩ := mem_ready.1 hj
    obtain ⟨hg, hb⟩ := L.plain_in hp ho
    have hjl : j < ops.size := (Array.getElem?_eq_some_iff.1 ho).1
    have hA := hop.mem j o (by simpa using ho)
    rw [Nat.zero_add] at hA
    have hlj : (fun j => listed.getD j false) j = false := by
      have hjl' : j < listed.size := by rw [hI.len]; exact hjl
      simp [hjl'] at hun ⊢
      exact hun
    have hup : (fun i => (listed.setIfInBounds j true).getD i false) = upd (fun i => listed.getD i false) j := by
      funext i
      unfold upd
      by_cases e : i = j
      · subst e
        have hjl' : i < listed.size := by rw [hI.len]; exact hjl
        simp [hjl']
      · rw [if_neg e, getD_set_ne false (fun h => e h.symm)]
    obtain ⟨hA1, hA2⟩ := hA _ a w ⟨hlj, fun e he hbe => hdeps e he hbe, hI.closed, hI.r, fun t ht => hI.base t (by simpa using ht)⟩
    have step : ∀ v w', R (upd (fun i => listed.getD i false) j) (put1 (fun t => a.eval (.tmp t)) o.dst v) w' → Inv ops a0 R (listed.setIfInBounds j true) (a.put o.dst v) w' := by
      intro v w' hR
      refine ⟨?_, ?_, ?_, ?_, ?_, ?_⟩
      · rw [← hI.size]
        cases hd : o.dst <;> simp [Act.put]
      · rw [← hI.defers]
        cases hd : o.dst <;> simp [Act.put]
      · intro t ht
        rw [Act.eval_put (fun d hd e => ht ?_)]
        · exact hI.base t ht
        · simp only [Operand.tmp.injEq] at e
          subst e
          exact List.mem_filterMap.2 ⟨o, by rw [← Array.mem_def]; exact Array.mem_of_getElem? ho, hd⟩
      · rw [hup, eval_put1 (fun t ht => by rw [hI.size]; exact hb t ht)]
        exact hR
      · simp [hI.len]
      · intro i k hik hi
        have hm : ∀ k, listed.getD k false = true → (listed.setIfInBounds j true).getD k false = true := by
          intro k hk
          have := congrFun hup k
          rw [this]
          unfold upd
          split
          · rfl
          · exact hk
        by_cases e : i = j
        · subst e
          unfold dep at hik
          rw [ho] at hik
          simp only [Option.map_some, Option.getD_some] at hik
          obtain ⟨ed, hed, h1⟩ := List.any_eq_true.1 hik
          simp only [Bool.and_eq_true, beq_iff_eq] at h1
          have := hdeps ed (Array.mem_def.2 hed) h1.1
          rw [h1.2] at this
          exact hm k this
        · rw [getD_set_ne false (fun h => e h.symm)] at hi
          exact hm k (hI.closed i k hik hi)
    have hwant : Region.wanted o (yielded ops a.tmps) = true ↔ want ops o a := by
      unfold Region.wanted want
      cases hgd : o.guard with
      | none => simp
      | some gb =>
        obtain ⟨g, b⟩ := gb
        obtain ⟨og, d, e, hog, hod, he, hbe, hon⟩ := hg g b hgd
        have hdl : d < a.tmps.size := by rw [hI.size]; exact (L.plain_in hp hog).2 d hod
        simp only [yielded, hog, Option.bind_some, hod, Array.getElem?_eq_getElem hdl, Act.eval]
        have hx : a.tmps.getD d undef = a.tmps[d] := by simp [hdl]
        rw [hx]
        generalize a.tmps[d] = x
        cases x <;> simp
    unfold wpOp
    simp only [ho]
    by_cases hw : want ops o a
    · rw [if_pos (hwant.2 hw)]
      exact .inl (hA1 hw _ step)
    · rw [if_neg (fun h => hw (hwant.1 h))]
      exact step undef w (hA2 hw)
  · intro listed a w hr hI
    have hall := L.plain_end hp hI.len hr
    rw [overlay_self hI.size hI.defers hI.base]
    exact hend _ _ w (fun j hj => hall j hj) hI.r
  · unfold still
    simp
  · refine ⟨rfl, rfl, fun _ _ => rfl, ?_, by simp, fun i k _ hi => ?_⟩
    · have : (fun j => (Array.replicate ops.size false).getD j false) = fun _ => false := by
        funext j
        by_cases hj : j < ops.size <;> simp [hj]
      rw [this]
      exact hS
    · by_cases hi' : i < ops.size <;> simp [hi'] at hi

variable {a0 : Act} {R : (Nat → Bool) → (Tmp → Value) → World → Prop} {j : Nat} {o : Oper} {d : Tmp}
/-- An operation that yields a value, and may turn the world; not guarded. -/
theorem asked_any (hg : o.guard = none) (hd : o.dst = some d)
    (h : ∀ l a w, Hand md ops a0 R j o l a w → ∃ v w', (execOp a.eval o).run P w = .ok (.value v) w' ∧ R (upd l j) (put1 (fun t => a.eval (.tmp t)) (some d) v) w') : Asked P md ops a0 Q R j o := by
  intro l a w H
  refine ⟨fun _ K hK => ?_, fun hw => absurd (by unfold want; rw [hg]; trivial) hw⟩
  obtain ⟨v, w', e1, e2⟩ := h l a w H
  exact wp_value e1 (hK _ _ (by rw [hd]; exact e2))
/-- A store; not guarded. -/
theorem asked_skip (hg : o.guard = none) (hd : o.dst = none)
    (h : ∀ l a w, Hand md ops a0 R j o l a w → ∃ w', (execOp a.eval o).run P w = .ok .skip w' ∧ R (upd l j) (fun t => a.eval (.tmp t)) w') : Asked P md ops a0 Q R j o := by
  intro l a w H
  refine ⟨fun _ K hK => ?_, fun hw => absurd (by unfold want; rw [hg]; trivial) hw⟩
  obtain ⟨w', e1, e3⟩ := h l a w H
  unfold Oper.wp
  rw [e1]
  refine hK undef w' ?_
  rw [hd]
  exact e3
/-- A call of a function of the program, by its contract; not guarded. -/
theorem asked_call {f : FuncId} {fn : Func} {xs : Array Operand} {ts : Array TypeId} (hg : o.guard = none) (hf : P.funcs[f]? = some fn) (hn : (fn.name == "runtime.NumGoroutine") = false) (hbody : fn.body.isNone = false) (hd : o.dst = some d) (hop : o.op = .call { callee := .value (.func f), args := xs, argTypes := ts })
    (h : ∀ l a w, Hand md ops a0 R j o l a w → Calls P f (xs.map a.eval) w fun e w' => ∃ v, e = .returned v ∧ R (upd l j) (put1 (fun t => a.eval (.tmp t)) (some d) v) w') :
    Asked P md ops a0 Q R j o := by
  intro l a w H
  refine ⟨fun _ K hK => ?_, fun hw => absurd (by unfold want; rw [hg]; trivial) hw⟩
  have hrun : (execOp a.eval o).run P w = .ok (.enter f (xs.map a.eval)) w := by
    have : execOp a.eval o = callFunc f (#[] ++ xs.map a.eval ++ #[]) := by
      unfold execOp
      rw [hop]
      rfl
    rw [this]
    simp [callFunc, hf]
    rw [if_neg (by simpa using hn), if_neg (fun e => by rw [e] at hbody; simp at hbody)]
  unfold Oper.wp
  rw [hrun, Oper.upon_enter]
  refine (h l a w H).mono ?_
  rintro e w' ⟨v, rfl, e2⟩
  exact hK _ _ (by rw [hd]; exact e2)
end
end Go.Proofs.Ytljnngblhfhhaab.R
