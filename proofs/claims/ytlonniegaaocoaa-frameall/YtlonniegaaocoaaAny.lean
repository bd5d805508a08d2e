/- A region that draws its order, by one obligation an operation: a fact is kept for each temporary that the region writes, and no order is walked. -/
import Derived.WalkKit
import Derived.OrdersHeld
namespace Go.Proofs.Ytlonniegaaocoaa
open Go

/-- How many operations have not come up. -/
def still (l : Array Bool) : Nat := l.toList.count false

theorem count_set : ∀ (l : List Bool) (j : Nat), l[j]? = some false → (l.set j true).count false + 1 = l.count false
  | [], j, h => by simp at h
  | b :: l, 0, h => by
    simp at h
    subst h
    simp
  | b :: l, j + 1, h => by
    have := count_set l j (by simpa using h)
    simp only [List.set_cons_succ, List.count_cons]
    omega

theorem still_set {l : Array Bool} {j : Nat} (h : l.getD j true = false) : still (l.setIfInBounds j true) + 1 = still l := by
  have hj : l.toList[j]? = some false := by
    rcases Nat.lt_or_ge j l.size with g | g
    · simp [g] at h ⊢
      exact h
    · simp [Array.getElem?_eq_none g] at h
  have := count_set l.toList j hj
  unfold still
  rw [Array.toList_setIfInBounds]
  exact this

theorem still_zero {l : Array Bool} (h : still l = 0) (j : Nat) : l.getD j true ≠ false := by
  intro e
  have := still_set e
  omega

section
variable {P : Program} {ops : Array Oper} {Q : Exit → Act → World → Prop} {md : Region.Mode}

/-- What holds ahead, is kept by each operation that may come up, and gives what is asked at the end: whatever the order. -/
theorem wpAny_inv {I : Array Bool → Act → World → Prop}
    (hstep : ∀ (j : Nat) (listed : Array Bool) (a : Act) (w : World), j ∈ Region.ready md ops listed → I listed a w → wpOp P ops Q j (fun a' w' => I (listed.setIfInBounds j true) a' w') a w)
    (hend : ∀ (listed : Array Bool) (a : Act) (w : World), Region.ready md ops listed = [] → I listed a w → Q .normal a w) :
    ∀ (fuel : Nat) (listed : Array Bool) (a : Act) (w : World), still listed ≤ fuel → I listed a w → wpAny P md ops Q fuel listed a w := by
  intro fuel
  induction fuel with
  | zero =>
    intro listed a w hf hI
    have hr : Region.ready md ops listed = [] := by
      apply List.eq_nil_iff_forall_not_mem.2
      intro j hj
      exact still_zero (by omega) j (mem_ready.1 hj).1
    exact ⟨hr, hend listed a w hr hI⟩
  | succ fuel ih =>
    intro listed a w hf hI
    refine ⟨fun hr => hend listed a w hr hI, fun j hj => ?_⟩
    refine wpOp_mono (fun a' w' h => ih _ a' w' ?_ h) (hstep j listed a w hj hI)
    have := still_set (mem_ready.1 hj).1
    omega

/-- The temporaries that a region writes. -/
def dstsOf (ops : Array Oper) : List Tmp := ops.toList.filterMap (·.dst)
/-- Whether operation o waits for the one that writes temporary d. -/
def waits (md : Region.Mode) (ops : Array Oper) (o : Oper) (d : Tmp) : Bool := o.after.toList.any fun e => Region.binds md e && ((ops[e.on]?).bind (·.dst) == some d)
/-- No two operations write one temporary, each writes one of the n that there are, each waits but for earlier ones, and, if guarded, for its guard, too. -/
def plain (ops : Array Oper) (n : Nat) : Bool :=
  ((List.range ops.size).all fun i => (List.range ops.size).all fun j => i == j || ((ops[i]?).bind (·.dst)).isNone || ((ops[i]?).bind (·.dst)) != ((ops[j]?).bind (·.dst))) &&
  (ops.all fun o => (match o.guard with | some (g, _) => ((ops[g]?).bind (·.dst)).isSome && o.after.toList.any (fun e => Region.binds .any e && e.on == g) | none => true) && (match o.dst with | some d => decide (d < n) | none => true)) &&
  ((List.range ops.size).all fun i => ((ops[i]?).map fun o => o.after.all fun e => decide (e.on < i)).getD true)

/-- a, with what s says in the temporaries ds. -/
def overlay (a : Act) (ds : List Tmp) (s : Tmp → Value) : Act := { a with tmps := ds.foldl (fun t d => t.setIfInBounds d (s d)) a.tmps }

theorem overlay_size (s : Tmp → Value) : ∀ (ds : List Tmp) (t : Array Value), (ds.foldl (fun t d => t.setIfInBounds d (s d)) t).size = t.size
  | [], t => rfl
  | d :: ds, t => by rw [List.foldl_cons, overlay_size s ds]; simp

theorem overlay_get (s : Tmp → Value) : ∀ (ds : List Tmp) (t : Array Value) (i : Nat), (ds.foldl (fun t d => t.setIfInBounds d (s d)) t)[i]? = if i ∈ ds ∧ i < t.size then some (s i) else t[i]?
  | [], t, i => by simp
  | d :: ds, t, i => by
    rw [List.foldl_cons, overlay_get s ds]
    by_cases hd : i ∈ ds
    · by_cases hl : i < t.size
      · simp [hd, hl]
      · simp [hl]
    · by_cases e : d = i
      · subst e
        by_cases hl : d < t.size
        · simp [hd, hl]
        · simp [hl]
      · have e' : ¬ i = d := fun h => e h.symm
        simp [hd, e', Array.getElem?_setIfInBounds_ne e]

theorem overlay_self {a a0 : Act} {ds : List Tmp} (h1 : a.tmps.size = a0.tmps.size) (h2 : a.defers = a0.defers) (h3 : ∀ t, t ∉ ds → a.eval (.tmp t) = a0.eval (.tmp t)) :
    a = overlay a0 ds (fun d => a.eval (.tmp d)) := by
  obtain ⟨tm, df⟩ := a
  obtain ⟨tm0, df0⟩ := a0
  simp only at h1 h2
  subst h2
  unfold overlay
  congr 1
  apply Array.ext_getElem?
  intro i
  rw [overlay_get]
  by_cases hl : i < tm.size
  · by_cases hd : i ∈ ds
    · simp [hd, ← h1, hl, Act.eval]
    · have := h3 i hd
      simp only [hd, false_and, if_false]
      simp [Act.eval, hl, show i < tm0.size by omega] at this
      simp [hl, show i < tm0.size by omega, this]
  · simp [Array.getElem?_eq_none (show tm.size ≤ i by omega), show ¬ i < tm0.size by omega]

/-- What is kept on the way. -/
structure Inv (ops : Array Oper) (a0 : Act) (G : Tmp → Value → World → Prop) (S : World → Prop) (listed : Array Bool) (a : Act) (w : World) : Prop where
  size : a.tmps.size = a0.tmps.size
  defers : a.defers = a0.defers
  base : ∀ t, t ∉ dstsOf ops → a.eval (.tmp t) = a0.eval (.tmp t)
  facts : ∀ j o d, ops[j]? = some o → o.dst = some d → listed.getD j false = true → G d (a.eval (.tmp d)) w
  s : S w
  len : listed.size = ops.size

/-- WHAT IS ASKED OF ONE OPERATION: with what it waits for at hand it comes to its end, leaves what is asked of its own temporary, and spoils nothing that was known. -/
def Asked (P : Program) (md : Region.Mode) (ops : Array Oper) (a0 : Act) (Q : Exit → Act → World → Prop) (G : Tmp → Value → World → Prop) (S : World → Prop) (o : Oper) : Prop :=
  ∀ (a : Act) (w : World) (K : Act → World → Prop), S w → (∀ t, (dstsOf ops).contains t = false → a.eval (.tmp t) = a0.eval (.tmp t)) → (∀ d, waits md ops o d = true → G d (a.eval (.tmp d)) w) →
    (∀ v w', (∀ d, o.dst = some d → G d v w') → S w' → (∀ d u, G d u w → G d u w') → K (a.put o.dst v) w') → Oper.wp P o a w K Q

/-- The same of each. -/
def AskedAll (P : Program) (md : Region.Mode) (ops : Array Oper) (a0 : Act) (Q : Exit → Act → World → Prop) (G : Tmp → Value → World → Prop) (S : World → Prop) : List Oper → Prop
  | [] => True
  | o :: rest => Asked P md ops a0 Q G S o ∧ AskedAll P md ops a0 Q G S rest

theorem AskedAll.mem {a0 : Act} {G : Tmp → Value → World → Prop} {S : World → Prop} : ∀ {l : List Oper}, AskedAll P md ops a0 Q G S l → ∀ o ∈ l, Asked P md ops a0 Q G S o
  | [], _, o, h => by simp at h
  | x :: l, hA, o, h => by
    rcases List.mem_cons.1 h with e | e
    · subst e; exact hA.1
    · exact AskedAll.mem hA.2 o e

theorem plain_dst {n : Nat} (h : plain ops n = true) {i j : Nat} {o o' : Oper} {d : Tmp} (hi : ops[i]? = some o) (hj : ops[j]? = some o') (hd : o.dst = some d) (hd' : o'.dst = some d) : i = j := by
  unfold plain at h
  simp only [Bool.and_eq_true] at h
  have h1 := List.all_eq_true.1 h.1.1 i (List.mem_range.2 (Array.getElem?_eq_some_iff.1 hi).1)
  have h2 := List.all_eq_true.1 h1 j (List.mem_range.2 (Array.getElem?_eq_some_iff.1 hj).1)
  simpa [hi, hj, hd, hd'] using h2

theorem plain_in {n : Nat} (h : plain ops n = true) {i : Nat} {o : Oper} (hi : ops[i]? = some o) :
    (∀ g b, o.guard = some (g, b) → ∃ og d e, ops[g]? = some og ∧ og.dst = some d ∧ e ∈ o.after ∧ Region.binds .any e = true ∧ e.on = g) ∧ ∀ d, o.dst = some d → d < n := by
  unfold plain at h
  simp only [Bool.and_eq_true] at h
  have h1 := Array.all_eq_true_iff_forall_mem.1 h.1.2 o (Array.mem_of_getElem? hi)
  simp only [Bool.and_eq_true] at h1
  refine ⟨fun g b hg => ?_, fun d hd => ?_⟩
  · have h2 := h1.1
    rw [hg] at h2
    simp only [Bool.and_eq_true] at h2
    obtain ⟨h3, h4⟩ := h2
    cases ho : ops[g]? with
    | none => rw [ho] at h3; simp at h3
    | some og =>
      rw [ho] at h3
      cases hd : og.dst with
      | none => simp [hd] at h3
      | some d =>
        obtain ⟨e, he, h5⟩ := List.any_eq_true.1 h4
        simp only [Bool.and_eq_true, beq_iff_eq] at h5
        exact ⟨og, d, e, rfl, hd, Array.mem_def.2 he, h5.1, h5.2⟩
  · have := h1.2
    rw [hd] at this
    simpa using this

/-- What a guard must be so that its operation is carried out, as G says it. -/
def wantedBy (ops : Array Oper) (G : Tmp → Value → World → Prop) : List Oper → Prop
  | [] => True
  | o :: rest => (match o.guard with | some (g, b) => (match (ops[g]?).bind (·.dst) with | some d => ∀ v w, G d v w → v = .bool b | none => True) | none => True) ∧ wantedBy ops G rest
theorem wantedBy.mem {G : Tmp → Value → World → Prop} : ∀ {l : List Oper}, wantedBy ops G l → ∀ o ∈ l, ∀ g b og d, o.guard = some (g, b) → ops[g]? = some og → og.dst = some d → ∀ v w, G d v w → v = .bool b
  | [], _, o, h => by simp at h
  | x :: l, hA, o, h => by
    intro g b og d hg ho hd
    rcases List.mem_cons.1 h with e | e
    · subst e
      have := hA.1
      rw [hg] at this
      simp only [ho, Option.bind_some, hd] at this
      exact this
    · exact wantedBy.mem hA.2 o e g b og d hg ho hd

/-- Of the first operation that has not come up all that it waits for has: so at the end all have come up. -/
theorem plain_end {n : Nat} (h : plain ops n = true) {listed : Array Bool} (hl : listed.size = ops.size) (hr : Region.ready md ops listed = []) : ∀ j, j < ops.size → listed.getD j false = true := by
  unfold plain at h
  simp only [Bool.and_eq_true] at h
  intro j
  induction j using Nat.strongRecOn with
  | ind j ih =>
    intro hj
    apply Classical.byContradiction
    intro hn
    have hf : listed.getD j true = false := by
      simp [show j < listed.size by omega] at hn ⊢
      exact hn
    have ho : ops[j]? = some ops[j] := Array.getElem?_eq_getElem hj
    have h1 := List.all_eq_true.1 h.2 j (List.mem_range.2 hj)
    simp only [ho, Option.map_some, Option.getD_some] at h1
    have : j ∈ Region.ready md ops listed := mem_ready.2 ⟨hf, ops[j], ho, fun e he _ => by
      have := Array.all_eq_true_iff_forall_mem.1 h1 e he
      simp at this
      exact ih e.on this (by omega)⟩
    rw [hr] at this
    simp at this

/-- THE LAW. -/
theorem wp_region_each {id : Nat} {a0 : Act} {w : World} (hm : P.follows .mixedOrders = true) (G : Tmp → Value → World → Prop) (S : World → Prop) (hp : plain ops a0.tmps.size = true) (hw : wantedBy ops G ops.toList)
    (hS : S w.drew) (hop : AskedAll P .any ops a0 Q G S ops.toList)
    (hend : ∀ (s : Tmp → Value) (w : World), S w → (∀ d, (dstsOf ops).contains d = true → G d (s d) w) → Q .normal (overlay a0 (dstsOf ops) s) w) : (Code.region id ops true).wp P Q a0 w := by
  refine wp_region_any hm ?_
  refine wpAny_inv (I := Inv ops a0 G S) ?_ ?_ _ _ _ _ ?_ ?_
  · intro j listed a w hj hI
    obtain ⟨hun, o, ho, hdeps⟩ := mem_ready.1 hj
    obtain ⟨hg, hb⟩ := plain_in hp ho
    have hA := hop.mem o (by rw [← Array.mem_def]; exact Array.mem_of_getElem? ho)
    unfold wpOp
    simp only [ho]
    have hwant : Region.wanted o (yielded ops a.tmps) = true := by
      unfold Region.wanted
      cases hgd : o.guard with
      | none => rfl
      | some gb =>
        obtain ⟨g, b⟩ := gb
        obtain ⟨og, d, e, hog, hod, he, hbe, hon⟩ := hg g b hgd
        have hl := hdeps e he hbe
        rw [hon] at hl
        have hGd := hI.facts g og d hog hod hl
        have hv := hw.mem o (by rw [← Array.mem_def]; exact Array.mem_of_getElem? ho) g b og d hgd hog hod _ _ hGd
        have hdl : d < a.tmps.size := by rw [hI.size]; exact (plain_in hp hog).2 d hod
        have ht : a.tmps[d]? = some (.bool b) := by
          rw [Array.getElem?_eq_getElem hdl]
          simpa [Act.eval, hdl] using hv
        simp [yielded, hog, hod, ht]
    rw [if_pos hwant]
    refine .inl (hA a w _ hI.s (fun t ht => hI.base t (by simpa using ht)) ?_ ?_)
    · intro d hd
      unfold waits at hd
      obtain ⟨e, he, h1⟩ := List.any_eq_true.1 hd
      rw [← Array.mem_def] at he
      simp only [Bool.and_eq_true, beq_iff_eq] at h1
      cases hoe : ops[e.on]? with
      | none => rw [hoe] at h1; simp at h1
      | some oe =>
        rw [hoe] at h1
        exact hI.facts e.on oe d hoe (by simpa using h1.2) (hdeps e he h1.1)
    · intro v w' hG hS' hkeep
      refine ⟨?_, ?_, ?_, ?_, hS', ?_⟩
      · rw [← hI.size]
        cases hd : o.dst <;> simp [Act.put]
      · rw [← hI.defers]
        cases hd : o.dst <;> simp [Act.put]
      · intro t ht
        rw [Act.eval_put (fun d hd e => ht ?_)]
        · exact hI.base t ht
        · simp only [Operand.tmp.injEq] at e
          subst e
          exact List.mem_filterMap.2 ⟨o, by rw [← Array.mem_def]; exact Array.mem_of_getElem? ho, hd⟩
      · intro j' o' d ho' hd' hl'
        by_cases e : j' = j
        · subst e
          rw [ho] at ho'
          simp only [Option.some.injEq] at ho'
          subst ho'
          have hdl : d < a.tmps.size := by rw [hI.size]; exact hb d hd'
          have : (a.put o.dst v).eval (.tmp d) = v := by rw [hd']; simp [Act.put, Act.eval, hdl]
          rw [this]
          exact hG d hd'
        · rw [getD_set_ne false (fun h => e h.symm)] at hl'
          rw [Act.eval_put (fun d' hd2 h => ?_)]
          · exact hkeep d _ (hI.facts j' o' d ho' hd' hl')
          · simp only [Operand.tmp.injEq] at h
            subst h
            exact e (plain_dst hp ho' ho hd' hd2)
      · simp [hI.len]
  · intro listed a w hr hI
    have hall := plain_end hp hI.len hr
    rw [overlay_self hI.size hI.defers hI.base]
    refine hend _ w hI.s fun d hd => ?_
    obtain ⟨o, ho, hd'⟩ := List.mem_filterMap.1 (by simpa using hd : d ∈ dstsOf ops)
    rw [← Array.mem_def] at ho
    obtain ⟨j, hj, rfl⟩ := Array.mem_iff_getElem.1 ho
    exact hI.facts j _ d (Array.getElem?_eq_getElem hj) hd' (hall j hj)
  · unfold still
    simp
  · refine ⟨rfl, rfl, fun _ _ => rfl, fun j o d ho _ hl => ?_, hS, by simp⟩
    have hj := (Array.getElem?_eq_some_iff.1 ho).1
    simp [hj] at hl

/-- One operation that yields a value, whatever it does. -/
theorem wp_value {o : Oper} {a : Act} {w w' : World} {K : Act → World → Prop} {v : Value} (h : (execOp a.eval o).run P w = .ok (.value v) w') (hK : K (a.put o.dst v) w') : Oper.wp P o a w K Q := by
  unfold Oper.wp
  rw [h]
  exact hK

variable {a0 : Act} {G : Tmp → Value → World → Prop} {S : World → Prop} {o : Oper} {d : Tmp} {v : Value}

/-- An operation that yields one value and leaves the world as it is. -/
theorem asked_pure (hd : o.dst = some d) (hG : ∀ w, S w → G d v w)
    (h : ∀ (a : Act) (w : World), S w → (∀ t, (dstsOf ops).contains t = false → a.eval (.tmp t) = a0.eval (.tmp t)) → (∀ d, waits md ops o d = true → G d (a.eval (.tmp d)) w) → (execOp a.eval o).run P w = .ok (.value v) w) :
    Asked P md ops a0 Q G S o := by
  intro a w K hS hb hdep hK
  refine wp_value (h a w hS hb hdep) (hK _ _ (fun d' h' => ?_) hS (fun _ _ h => h))
  rw [hd] at h'
  cases h'
  exact hG w hS

/-- An operation that yields some value and leaves a world in which what was known is known. -/
theorem asked_grow (hd : o.dst = some d)
    (h : ∀ (a : Act) (w : World), S w → (∀ t, (dstsOf ops).contains t = false → a.eval (.tmp t) = a0.eval (.tmp t)) → (∀ d, waits md ops o d = true → G d (a.eval (.tmp d)) w) →
      ∃ v w', (execOp a.eval o).run P w = .ok (.value v) w' ∧ G d v w' ∧ S w' ∧ ∀ d u, G d u w → G d u w') :
    Asked P md ops a0 Q G S o := by
  intro a w K hS hb hdep hK
  obtain ⟨v, w', h1, h2, h3, h4⟩ := h a w hS hb hdep
  refine wp_value h1 (hK _ _ (fun d' h' => ?_) h3 h4)
  rw [hd] at h'
  cases h'
  exact h2

/-- A call of a function of the program, by its contract. -/
theorem asked_call {f : FuncId} {fn : Func} {xs : Array Operand} {ts : Array TypeId} (hf : P.funcs[f]? = some fn) (hn : (fn.name == "runtime.NumGoroutine") = false) (hbody : fn.body.isNone = false) (hd : o.dst = some d) (hop : o.op = .call { callee := .value (.func f), args := xs, argTypes := ts })
    (h : ∀ (a : Act) (w : World), S w → (∀ t, (dstsOf ops).contains t = false → a.eval (.tmp t) = a0.eval (.tmp t)) → (∀ d, waits md ops o d = true → G d (a.eval (.tmp d)) w) →
      Calls P f (xs.map a.eval) w fun e w' => ∃ v, e = .returned v ∧ G d v w' ∧ S w' ∧ ∀ d u, G d u w → G d u w') :
    Asked P md ops a0 Q G S o := by
  intro a w K hS hb hdep hK
  have hrun : (execOp a.eval o).run P w = .ok (.enter f (xs.map a.eval)) w := by
    have : execOp a.eval o = callFunc f (#[] ++ xs.map a.eval ++ #[]) := by
      unfold execOp
      rw [hop]
      rfl
    rw [this]
    simp [callFunc, hf]
    rw [if_neg (by simpa using hn), if_neg (fun e => by rw [e] at hbody; simp at hbody)]
  unfold Oper.wp
  rw [hrun, Oper.upon_enter]
  refine (h a w hS hb hdep).mono ?_
  rintro e w' ⟨v, rfl, h2, h3, h4⟩
  refine hK _ _ (fun d' h' => ?_) h3 h4
  rw [hd] at h'
  cases h'
  exact h2

/-- The same, of one argument that is known to be u. -/
theorem asked_call1 {f : FuncId} {fn : Func} {x : Operand} {ts : Array TypeId} (hf : P.funcs[f]? = some fn) (hn : (fn.name == "runtime.NumGoroutine") = false) (hbody : fn.body.isNone = false) (hd : o.dst = some d) (hop : o.op = .call { callee := .value (.func f), args := #[x], argTypes := ts })
    (h : ∀ (a : Act) (w : World), S w → (∀ t, (dstsOf ops).contains t = false → a.eval (.tmp t) = a0.eval (.tmp t)) → (∀ d, waits md ops o d = true → G d (a.eval (.tmp d)) w) →
      ∃ u, a.eval x = u ∧ Calls P f #[u] w fun e w' => ∃ v, e = .returned v ∧ G d v w' ∧ S w' ∧ ∀ d u, G d u w → G d u w') :
    Asked P md ops a0 Q G S o := by
  refine asked_call hf hn hbody hd hop fun a w hS hb hdep => ?_
  obtain ⟨u, hu, hc⟩ := h a w hS hb hdep
  have : (#[x] : Array Operand).map a.eval = #[u] := by simp [hu]
  rw [this]
  exact hc
end
end Go.Proofs.Ytlonniegaaocoaa
