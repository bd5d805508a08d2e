/- The law on regions that draw their order, once more: what stands in the world may speak of what has been written, too. -/
import Derived.Test.YtblcbccchlljhaaAny
namespace Go.Proofs.Ytblcbccchlljhaa.L3
open Go
/-- What the temporaries hold; one of them written. -/
def ev (a : Act) : Tmp → Value := fun d => a.eval (.tmp d)
def putv (s : Tmp → Value) (d : Option Tmp) (v : Value) : Tmp → Value := fun t => if some t = d then v else s t
theorem putv_none (s : Tmp → Value) (v : Value) : putv s none v = s := by
  funext t
  simp [putv]
theorem putv_same (s : Tmp → Value) (d : Tmp) (v : Value) : putv s (some d) v d = v := by simp [putv]
theorem putv_other (s : Tmp → Value) {d t : Tmp} (v : Value) (h : t ≠ d) : putv s (some d) v t = s t := by simp [putv, h]
theorem ev_put {a : Act} {d : Option Tmp} {v : Value} (h : ∀ t, d = some t → t < a.tmps.size) : ev (a.put d v) = putv (ev a) d v := by
  funext t
  unfold ev putv
  by_cases e : some t = d
  · rw [if_pos e, ← e]
    have := h t e.symm
    simp [Act.put, Act.eval, this]
  · rw [if_neg e, Act.eval_put (fun d' hd h => ?_)]
    simp only [Operand.tmp.injEq] at h
    subst h
    exact e hd.symm
section
variable {P : Program} {ops : Array Oper} {Q : Exit → Act → World → Prop} {md : Region.Mode}
/-- No two operations write one temporary, each writes one of the n that there are, each waits but for earlier ones, and, if guarded, for its guard, too. -/
def plain (ops : Array Oper) (n : Nat) : Bool :=
  ((List.range ops.size).all fun i => (List.range ops.size).all fun j => i == j || ((ops[i]?).bind (·.dst)).isNone || ((ops[i]?).bind (·.dst)) != ((ops[j]?).bind (·.dst))) &&
  (ops.all fun o => (match o.guard with | some (g, _) => ((ops[g]?).bind (·.dst)).isSome && o.after.toList.any (fun e => Region.binds .any e && e.on == g) | none => true) && (match o.dst with | some d => decide (d < n) | none => true)) &&
  ((List.range ops.size).all fun i => ((ops[i]?).map fun o => o.after.all fun e => !(Region.binds .any e) || decide (e.on < i)).getD true)

/-- What is kept on the way: facts on what is written, and what stands in the world once these operations have come up. -/
structure Inv (ops : Array Oper) (a0 : Act) (G : (Nat → Bool) → Tmp → Value → World → Prop) (S : (Nat → Bool) → (Tmp → Value) → World → Prop) (listed : Array Bool) (a : Act) (w : World) : Prop where
  size : a.tmps.size = a0.tmps.size
  defers : a.defers = a0.defers
  base : ∀ t, t ∉ dstsOf ops → a.eval (.tmp t) = a0.eval (.tmp t)
  facts : ∀ j o d, ops[j]? = some o → o.dst = some d → listed.getD j false = true → G (fun j => listed.getD j false) d (a.eval (.tmp d)) w
  s : S (fun j => listed.getD j false) (ev a) w
  len : listed.size = ops.size
  closed : ∀ i j, dep .any ops i j = true → listed.getD i false = true → listed.getD j false = true

/-- WHAT IS ASKED OF ONE OPERATION: with what it waits for at hand it comes to its end, leaves what is asked of its own temporary, and spoils nothing that was known; where it is not carried out, its temporary is undefined. -/
def Asked (P : Program) (md : Region.Mode) (ops : Array Oper) (a0 : Act) (Q : Exit → Act → World → Prop) (G : (Nat → Bool) → Tmp → Value → World → Prop) (S : (Nat → Bool) → (Tmp → Value) → World → Prop) (j : Nat) (o : Oper) : Prop :=
  ∀ (l : Nat → Bool) (a : Act) (w : World), l j = false → (∀ e ∈ o.after, Region.binds md e = true → l e.on = true) → (∀ i k, dep md ops i k = true → l i = true → l k = true) → S l (ev a) w → (∀ t, (dstsOf ops).contains t = false → a.eval (.tmp t) = a0.eval (.tmp t)) → (∀ d, waits md ops o d = true → G l d (a.eval (.tmp d)) w) →
    (want ops o a → ∀ K : Act → World → Prop, (∀ v w', (∀ d, o.dst = some d → G (upd l j) d v w') → S (upd l j) (putv (ev a) o.dst v) w' → (∀ d, some d ≠ o.dst → G l d (a.eval (.tmp d)) w → G (upd l j) d (a.eval (.tmp d)) w') → K (a.put o.dst v) w') → Oper.wp P o a w K Q) ∧
    (¬ want ops o a → (∀ d, o.dst = some d → G (upd l j) d undef w) ∧ S (upd l j) (putv (ev a) o.dst undef) w ∧ ∀ d, some d ≠ o.dst → G l d (a.eval (.tmp d)) w → G (upd l j) d (a.eval (.tmp d)) w)

/-- The same of each. -/
def AskedAll (P : Program) (md : Region.Mode) (ops : Array Oper) (a0 : Act) (Q : Exit → Act → World → Prop) (G : (Nat → Bool) → Tmp → Value → World → Prop) (S : (Nat → Bool) → (Tmp → Value) → World → Prop) : Nat → List Oper → Prop
  | _, [] => True
  | j, o :: rest => Asked P md ops a0 Q G S j o ∧ AskedAll P md ops a0 Q G S (j + 1) rest

theorem AskedAll.mem {a0 : Act} {G : (Nat → Bool) → Tmp → Value → World → Prop} {S : (Nat → Bool) → (Tmp → Value) → World → Prop} : ∀ {l : List Oper} {k : Nat}, AskedAll P md ops a0 Q G S k l → ∀ j o, l[j]? = some o → Asked P md ops a0 Q G S (k + j) o
  | [], _, _, j, o, h => by simp at h
  | x :: l, k, hA, 0, o, h => by
    simp at h
    subst h
    exact hA.1
  | x :: l, k, hA, j + 1, o, h => by
    have := AskedAll.mem hA.2 j o (by simpa using h)
    rwa [show k + 1 + j = k + (j + 1) from by omega] at this

theorem plain_dst {n : Nat} (h : plain ops n = true) {i j : Nat} {o o' : Oper} {d : Tmp} (hi : ops[i]? = some o) (hj : ops[j]? = some o') (hd : o.dst = some d) (hd' : o'.dst = some d) : i = j := by
  unfold plain at h
  simp only [Bool.and_eq_true] at h
  have h1 := List.all_eq_true.1 h.1.1 i (List.mem_range.2 (Array.getElem?_eq_some_iff.1 hi).1)
  have h2 := List.all_eq_true.1 h1 j (List.mem_range.2 (Array.getElem?_eq_some_iff.1 hj).1)
  simpa [hi, hj, hd, hd'] using h2

theorem plain_in {n : Nat} (h : plain ops n = true) {i : Nat} {o : Oper} (hi : ops[i]? = some o) :
    (∀ g b, o.guard = some (g, b) → ∃ og d e, ops[g]? = some og ∧ og.dst = some d ∧ e ∈ o.after ∧ Region.binds .any e = true ∧ e.on = g) ∧ ∀ d, o.dst = some d → d < n := by
  unfold plain at h
  simp only [Bool.and_eq_true] at h
  have h1 := Array.all_eq_true_iff_forall_mem.1 h.1.2 o (Array.mem_of_getElem? hi)
  simp only [Bool.and_eq_true] at h1
  refine ⟨fun g b hg => ?_, fun d hd => ?_⟩
  · have h2 := h1.1
    rw [hg] at h2
    simp only [Bool.and_eq_true] at h2
    obtain ⟨h3, h4⟩ := h2
    cases ho : ops[g]? with
    | none => rw [ho] at h3; simp at h3
    | some og =>
      rw [ho] at h3
      cases hd : og.dst with
      | none => simp [hd] at h3
      | some d =>
        obtain ⟨e, he, h5⟩ := List.any_eq_true.1 h4
        simp only [Bool.and_eq_true, beq_iff_eq] at h5
        exact ⟨og, d, e, rfl, hd, Array.mem_def.2 he, h5.1, h5.2⟩
  · have := h1.2
    rw [hd] at this
    simpa using this

/-- Of the first operation that has not come up all that it waits for has: so at the end all have come up. -/
theorem plain_end {n : Nat} (h : plain ops n = true) {listed : Array Bool} (hl : listed.size = ops.size) (hr : Region.ready .any ops listed = []) : ∀ j, j < ops.size → listed.getD j false = true := by
  unfold plain at h
  simp only [Bool.and_eq_true] at h
  intro j
  induction j using Nat.strongRecOn with
  | ind j ih =>
    intro hj
    apply Classical.byContradiction
    intro hn
    have hf : listed.getD j true = false := by
      simp [show j < listed.size by omega] at hn ⊢
      exact hn
    have ho : ops[j]? = some ops[j] := Array.getElem?_eq_getElem hj
    have h1 := List.all_eq_true.1 h.2 j (List.mem_range.2 hj)
    simp only [ho, Option.map_some, Option.getD_some] at h1
    have : j ∈ Region.ready .any ops listed := mem_ready.2 ⟨hf, ops[j], ho, fun e he hbe => by
      have := Array.all_eq_true_iff_forall_mem.1 h1 e he
      simp [hbe] at this
      exact ih e.on this (by omega)⟩
    rw [hr] at this
    simp at this

/-- THE LAW. -/
theorem wp_region_eachL {id : Nat} {a0 : Act} {w : World} (hm : P.follows .mixedOrders = true) (G : (Nat → Bool) → Tmp → Value → World → Prop) (S : (Nat → Bool) → (Tmp → Value) → World → Prop) (hp : plain ops a0.tmps.size = true)
    (hS : S (fun _ => false) (ev a0) w.drew) (hop : AskedAll P .any ops a0 Q G S 0 ops.toList)
    (hend : ∀ (l : Nat → Bool) (s : Tmp → Value) (w : World), (∀ j, j < ops.size → l j = true) → S l s w → (∀ d, (dstsOf ops).contains d = true → G l d (s d) w) → Q .normal (overlay a0 (dstsOf ops) s) w) : (Code.region id ops true).wp P Q a0 w := by
  refine wp_region_any hm ?_
  refine wpAny_inv (I := Inv ops a0 G S) ?_ ?_ _ _ _ _ ?_ ?_
  · intro j listed a w hj hI
    obtain ⟨hun, o, ho, hdeps⟩ := mem_ready.1 hj
    obtain ⟨hg, hb⟩ := plain_in hp ho
    have hjl : j < ops.size := (Array.getElem?_eq_some_iff.1 ho).1
    have hA := hop.mem j o (by simpa using ho)
    rw [Nat.zero_add] at hA
    have hlj : (fun j => listed.getD j false) j = false := by
      have hjl' : j < listed.size := by rw [hI.len]; exact hjl
      simp [hjl'] at hun ⊢
      exact hun
    have hup : (fun i => (listed.setIfInBounds j true).getD i false) = upd (fun i => listed.getD i false) j := by
      funext i
      unfold upd
      by_cases e : i = j
      · subst e
        have hjl' : i < listed.size := by rw [hI.len]; exact hjl
        simp [hjl']
      · rw [if_neg e, getD_set_ne false (fun h => e h.symm)]
    obtain ⟨hA1, hA2⟩ := hA _ a w hlj (fun e he hbe => hdeps e he hbe) hI.closed hI.s (fun t ht => hI.base t (by simpa using ht)) (by
      intro d hd
      unfold waits at hd
      obtain ⟨e, he, h1⟩ := List.any_eq_true.1 hd
      rw [← Array.mem_def] at he
      simp only [Bool.and_eq_true, beq_iff_eq] at h1
      cases hoe : ops[e.on]? with
      | none => rw [hoe] at h1; simp at h1
      | some oe =>
        rw [hoe] at h1
        exact hI.facts e.on oe d hoe (by simpa using h1.2) (hdeps e he h1.1))
    have step : ∀ v w', (∀ d, o.dst = some d → G (upd (fun i => listed.getD i false) j) d v w') → S (upd (fun i => listed.getD i false) j) (putv (ev a) o.dst v) w' → (∀ d, some d ≠ o.dst → G (fun i => listed.getD i false) d (a.eval (.tmp d)) w → G (upd (fun i => listed.getD i false) j) d (a.eval (.tmp d)) w') → Inv ops a0 G S (listed.setIfInBounds j true) (a.put o.dst v) w' := by
      intro v w' hG hS' hkeep
      refine ⟨?_, ?_, ?_, ?_, by rw [hup, ev_put (fun t ht => by rw [hI.size]; exact hb t ht)]; exact hS', ?_, ?_⟩
      · rw [← hI.size]
        cases hd : o.dst <;> simp [Act.put]
      · rw [← hI.defers]
        cases hd : o.dst <;> simp [Act.put]
      · intro t ht
        rw [Act.eval_put (fun d hd e => ht ?_)]
        · exact hI.base t ht
        · simp only [Operand.tmp.injEq] at e
          subst e
          exact List.mem_filterMap.2 ⟨o, by rw [← Array.mem_def]; exact Array.mem_of_getElem? ho, hd⟩
      · intro j' o' d ho' hd' hl'
        rw [hup]
        by_cases e : j' = j
        · subst e
          rw [ho] at ho'
          simp only [Option.some.injEq] at ho'
          subst ho'
          have hdl : d < a.tmps.size := by rw [hI.size]; exact hb d hd'
          have : (a.put o.dst v).eval (.tmp d) = v := by rw [hd']; simp [Act.put, Act.eval, hdl]
          rw [this]
          exact hG d hd'
        · rw [getD_set_ne false (fun h => e h.symm)] at hl'
          have hdd : some d ≠ o.dst := fun h => e (plain_dst hp ho' ho hd' h.symm)
          rw [Act.eval_put (fun d' hd2 h => ?_)]
          · exact hkeep d hdd (hI.facts j' o' d ho' hd' hl')
          · simp only [Operand.tmp.injEq] at h
            subst h
            exact hdd hd2.symm
      · simp [hI.len]
      · intro i k hik hi
        have hm : ∀ k, listed.getD k false = true → (listed.setIfInBounds j true).getD k false = true := by
          intro k hk
          have := congrFun hup k
          rw [this]
          unfold upd
          split
          · rfl
          · exact hk
        by_cases e : i = j
        · subst e
          unfold dep at hik
          rw [ho] at hik
          simp only [Option.map_some, Option.getD_some] at hik
          obtain ⟨ed, hed, h1⟩ := List.any_eq_true.1 hik
          simp only [Bool.and_eq_true, beq_iff_eq] at h1
          have := hdeps ed (Array.mem_def.2 hed) h1.1
          rw [h1.2] at this
          exact hm k this
        · rw [getD_set_ne false (fun h => e h.symm)] at hi
          exact hm k (hI.closed i k hik hi)
    have hwant : Region.wanted o (yielded ops a.tmps) = true ↔ want ops o a := by
      unfold Region.wanted want
      cases hgd : o.guard with
      | none => simp
      | some gb =>
        obtain ⟨g, b⟩ := gb
        obtain ⟨og, d, e, hog, hod, he, hbe, hon⟩ := hg g b hgd
        have hdl : d < a.tmps.size := by rw [hI.size]; exact (plain_in hp hog).2 d hod
        simp only [yielded, hog, Option.bind_some, hod, Array.getElem?_eq_getElem hdl, Act.eval]
        have hx : a.tmps.getD d undef = a.tmps[d] := by simp [hdl]
        rw [hx]
        generalize a.tmps[d] = x
        cases x <;> simp
    unfold wpOp
    simp only [ho]
    by_cases hw : want ops o a
    · rw [if_pos (hwant.2 hw)]
      exact .inl (hA1 hw _ step)
    · rw [if_neg (fun h => hw (hwant.1 h))]
      obtain ⟨h1, h2, h3⟩ := hA2 hw
      exact step undef w h1 h2 h3
  · intro listed a w hr hI
    have hall := plain_end hp hI.len hr
    rw [overlay_self hI.size hI.defers hI.base]
    refine hend _ _ w (fun j hj => hall j hj) hI.s fun d hd => ?_
    obtain ⟨o, ho, hd'⟩ := List.mem_filterMap.1 (by simpa using hd : d ∈ dstsOf ops)
    rw [← Array.mem_def] at ho
    obtain ⟨j, hj, rfl⟩ := Array.mem_iff_getElem.1 ho
    exact hI.facts j _ d (Array.getElem?_eq_getElem hj) hd' (hall j hj)
  · unfold still
    simp
  · refine ⟨rfl, rfl, fun _ _ => rfl, fun j o d ho _ hl => ?_, ?_, by simp, fun i k _ hi => ?_⟩
    · have hj := (Array.getElem?_eq_some_iff.1 ho).1
      simp [hj] at hl
    · have : (fun j => (Array.replicate ops.size false).getD j false) = fun _ => false := by
        funext j
        by_cases hj : j < ops.size <;> simp [hj]
      rw [this]
      exact hS
    · by_cases hi' : i < ops.size <;> simp [hi'] at hi

variable {a0 : Act} {G : (Nat → Bool) → Tmp → Value → World → Prop} {S : (Nat → Bool) → (Tmp → Value) → World → Prop} {j : Nat} {o : Oper} {d : Tmp} {v : Value}

/-- What is at hand where an operation comes up. -/
structure Hand (md : Region.Mode) (ops : Array Oper) (a0 : Act) (G : (Nat → Bool) → Tmp → Value → World → Prop) (S : (Nat → Bool) → (Tmp → Value) → World → Prop) (j : Nat) (o : Oper) (l : Nat → Bool) (a : Act) (w : World) : Prop where
  new : l j = false
  deps : ∀ e ∈ o.after, Region.binds md e = true → l e.on = true
  closed : ∀ i k, dep md ops i k = true → l i = true → l k = true
  s : S l (ev a) w
  base : ∀ t, (dstsOf ops).contains t = false → a.eval (.tmp t) = a0.eval (.tmp t)
  facts : ∀ d, waits md ops o d = true → G l d (a.eval (.tmp d)) w


/-- An operation that may turn the world; not guarded. -/
theorem asked_any (hg : o.guard = none)
    (h : ∀ l a w, Hand md ops a0 G S j o l a w → ∃ v w', (execOp a.eval o).run P w = .ok (.value v) w' ∧ (∀ d, o.dst = some d → G (upd l j) d v w') ∧ S (upd l j) (putv (ev a) o.dst v) w' ∧ ∀ d, some d ≠ o.dst → G l d (a.eval (.tmp d)) w → G (upd l j) d (a.eval (.tmp d)) w') : Asked P md ops a0 Q G S j o := by
  intro l a w h1 h2 hcl h3 h4 h5
  refine ⟨fun _ K hK => ?_, fun hw => absurd (by unfold want; rw [hg]; trivial) hw⟩
  obtain ⟨v, w', e1, e2, e3, e4⟩ := h l a w ⟨h1, h2, hcl, h3, h4, h5⟩
  exact wp_value e1 (hK _ _ e2 e3 e4)
/-- A store; not guarded. -/
theorem asked_skip (hg : o.guard = none) (hd : o.dst = none)
    (h : ∀ l a w, Hand md ops a0 G S j o l a w → ∃ w', (execOp a.eval o).run P w = .ok .skip w' ∧ S (upd l j) (ev a) w' ∧ ∀ d, G l d (a.eval (.tmp d)) w → G (upd l j) d (a.eval (.tmp d)) w') : Asked P md ops a0 Q G S j o := by
  intro l a w h1 h2 hcl h3 h4 h5
  refine ⟨fun _ K hK => ?_, fun hw => absurd (by unfold want; rw [hg]; trivial) hw⟩
  obtain ⟨w', e1, e3, e4⟩ := h l a w ⟨h1, h2, hcl, h3, h4, h5⟩
  unfold Oper.wp
  rw [e1]
  exact hK undef w' (fun d h' => by rw [hd] at h'; cases h') (by rw [hd, putv_none]; exact e3) (fun d _ => e4 d)
/-- A call of a function of the program, by its contract; not guarded. -/
theorem asked_call {f : FuncId} {fn : Func} {xs : Array Operand} {ts : Array TypeId} (hg : o.guard = none) (hf : P.funcs[f]? = some fn) (hn : (fn.name == "runtime.NumGoroutine") = false) (hbody : fn.body.isNone = false) (hd : o.dst = some d) (hop : o.op = .call { callee := .value (.func f), args := xs, argTypes := ts })
    (h : ∀ l a w, Hand md ops a0 G S j o l a w → Calls P f (xs.map a.eval) w fun e w' => ∃ v, e = .returned v ∧ G (upd l j) d v w' ∧ S (upd l j) (putv (ev a) (some d) v) w' ∧ ∀ d', d' ≠ d → G l d' (a.eval (.tmp d')) w → G (upd l j) d' (a.eval (.tmp d')) w') :
    Asked P md ops a0 Q G S j o := by
  intro l a w h1 h2 hcl h3 h4 h5
  refine ⟨fun _ K hK => ?_, fun hw => absurd (by unfold want; rw [hg]; trivial) hw⟩
  have hrun : (execOp a.eval o).run P w = .ok (.enter f (xs.map a.eval)) w := by
    have : execOp a.eval o = callFunc f (#[] ++ xs.map a.eval ++ #[]) := by
      unfold execOp
      rw [hop]
      rfl
    rw [this]
    simp [callFunc, hf]
    rw [if_neg (by simpa using hn), if_neg (fun e => by rw [e] at hbody; simp at hbody)]
  unfold Oper.wp
  rw [hrun, Oper.upon_enter]
  refine (h l a w ⟨h1, h2, hcl, h3, h4, h5⟩).mono ?_
  rintro e w' ⟨v, rfl, e2, e3, e4⟩
  refine hK _ _ (fun d' h' => ?_) (by rw [hd]; exact e3) (fun d' hne hG => e4 d' (fun e => hne (by rw [e, hd])) hG)
  rw [hd] at h'
  cases h'
  exact e2

end
end Go.Proofs.Ytblcbccchlljhaa.L3
