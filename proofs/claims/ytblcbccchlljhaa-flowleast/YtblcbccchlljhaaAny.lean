/- A region that draws its order, with calls, stores and guards: one obligation an operation; a fact is kept for each temporary that it writes, and what stands in the world may hang on which operations have come up; no order is walked. -/
import Derived.WalkKit
import Derived.OrdersHeld
namespace Go.Proofs.Ytblcbccchlljhaa
open Go

/-- How many operations have not come up. -/
def still (l : Array Bool) : Nat := l.toList.count false

theorem count_set : ∀ (l : List Bool) (j : Nat), l[j]? = some false → (l.set j true).count false + 1 = l.count false
  | [], j, h => by simp at h
  | b :: l, 0, h => by
    simp at h
    subst h
    simp
  | b :: l, j + 1, h => by
    have := count_set l j (by simpa using h)
    simp only [List.set_cons_succ, List.count_cons]
    omega

theorem still_set {l : Array Bool} {j : Nat} (h : l.getD j true = false) : still (l.setIfInBounds j true) + 1 = still l := by
  have hj : l.toList[j]? = some false := by
    rcases Nat.lt_or_ge j l.size with g | g
    · simp [g] at h ⊢
      exact h
    · simp [Array.getElem?_eq_none g] at h
  have := count_set l.toList j hj
  unfold still
  rw [Array.toList_setIfInBounds]
  exact this

theorem still_zero {l : Array Bool} (h : still l = 0) (j : Nat) : l.getD j true ≠ false := by
  intro e
  have := still_set e
  omega

section
variable {P : Program} {ops : Array Oper} {Q : Exit → Act → World → Prop} {md : Region.Mode}

/-- What holds ahead, is kept by each operation that may come up, and gives what is asked at the end: whatever the order. -/
theorem wpAny_inv {I : Array Bool → Act → World → Prop}
    (hstep : ∀ (j : Nat) (listed : Array Bool) (a : Act) (w : World), j ∈ Region.ready md ops listed → I listed a w → wpOp P ops Q j (fun a' w' => I (listed.setIfInBounds j true) a' w') a w)
    (hend : ∀ (listed : Array Bool) (a : Act) (w : World), Region.ready md ops listed = [] → I listed a w → Q .normal a w) :
    ∀ (fuel : Nat) (listed : Array Bool) (a : Act) (w : World), still listed ≤ fuel → I listed a w → wpAny P md ops Q fuel listed a w := by
  intro fuel
  induction fuel with
  | zero =>
    intro listed a w hf hI
    have hr : Region.ready md ops listed = [] := by
      apply List.eq_nil_iff_forall_not_mem.2
      intro j hj
      exact still_zero (by omega) j (mem_ready.1 hj).1
    exact ⟨hr, hend listed a w hr hI⟩
  | succ fuel ih =>
    intro listed a w hf hI
    refine ⟨fun hr => hend listed a w hr hI, fun j hj => ?_⟩
    refine wpOp_mono (fun a' w' h => ih _ a' w' ?_ h) (hstep j listed a w hj hI)
    have := still_set (mem_ready.1 hj).1
    omega

/-- The temporaries that a region writes. -/
def dstsOf (ops : Array Oper) : List Tmp := ops.toList.filterMap (·.dst)
/-- Whether operation o waits for the one that writes temporary d. -/
def waits (md : Region.Mode) (ops : Array Oper) (o : Oper) (d : Tmp) : Bool := o.after.toList.any fun e => Region.binds md e && ((ops[e.on]?).bind (·.dst) == some d)
/-- No two operations write one temporary, each writes one of the n that there are, each waits but for earlier ones, and, if guarded, for its guard, too. -/
def plain (ops : Array Oper) (n : Nat) : Bool :=
  ((List.range ops.size).all fun i => (List.range ops.size).all fun j => i == j || ((ops[i]?).bind (·.dst)).isNone || ((ops[i]?).bind (·.dst)) != ((ops[j]?).bind (·.dst))) &&
  (ops.all fun o => (match o.guard with | some (g, _) => ((ops[g]?).bind (·.dst)).isSome && o.after.toList.any (fun e => Region.binds .any e && e.on == g) | none => true) && (match o.dst with | some d => decide (d < n) | none => true)) &&
  ((List.range ops.size).all fun i => ((ops[i]?).map fun o => o.after.all fun e => decide (e.on < i)).getD true)

/-- a, with what s says in the temporaries ds. -/
def overlay (a : Act) (ds : List Tmp) (s : Tmp → Value) : Act := { a with tmps := ds.foldl (fun t d => t.setIfInBounds d (s d)) a.tmps }

theorem overlay_size (s : Tmp → Value) : ∀ (ds : List Tmp) (t : Array Value), (ds.foldl (fun t d => t.setIfInBounds d (s d)) t).size = t.size
  | [], t => rfl
  | d :: ds, t => by rw [List.foldl_cons, overlay_size s ds]; simp

theorem overlay_get (s : Tmp → Value) : ∀ (ds : List Tmp) (t : Array Value) (i : Nat), (ds.foldl (fun t d => t.setIfInBounds d (s d)) t)[i]? = if i ∈ ds ∧ i < t.size then some (s i) else t[i]?
  | [], t, i => by simp
  | d :: ds, t, i => by
    rw [List.foldl_cons, overlay_get s ds]
    by_cases hd : i ∈ ds
    · by_cases hl : i < t.size
      · simp [hd, hl]
      · simp [hl]
    · by_cases e : d = i
      · subst e
        by_cases hl : d < t.size
        · simp [hd, hl]
        · simp [hl]
      · have e' : ¬ i = d := fun h => e h.symm
        simp [hd, e', Array.getElem?_setIfInBounds_ne e]

theorem overlay_self {a a0 : Act} {ds : List Tmp} (h1 : a.tmps.size = a0.tmps.size) (h2 : a.defers = a0.defers) (h3 : ∀ t, t ∉ ds → a.eval (.tmp t) = a0.eval (.tmp t)) :
    a = overlay a0 ds (fun d => a.eval (.tmp d)) := by
  obtain ⟨tm, df⟩ := a
  obtain ⟨tm0, df0⟩ := a0
  simp only at h1 h2
  subst h2
  unfold overlay
  congr 1
  apply Array.ext_getElem?
  intro i
  rw [overlay_get]
  by_cases hl : i < tm.size
  · by_cases hd : i ∈ ds
    · simp [hd, ← h1, hl, Act.eval]
    · have := h3 i hd
      simp only [hd, false_and, if_false]
      simp [Act.eval, hl, show i < tm0.size by omega] at this
      simp [hl, show i < tm0.size by omega, this]
  · simp [Array.getElem?_eq_none (show tm.size ≤ i by omega), show ¬ i < tm0.size by omega]

/-- Does operation i wait for operation j? -/
def dep (md : Region.Mode) (ops : Array Oper) (i j : Nat) : Bool := ((ops[i]?).map fun o => o.after.toList.any fun e => Region.binds md e && e.on == j).getD false
/-- What is kept on the way: facts on what is written, and what stands in the world once these operations have come up. -/
structure Inv (ops : Array Oper) (a0 : Act) (G : Tmp → Value → World → Prop) (S : (Nat → Bool) → World → Prop) (listed : Array Bool) (a : Act) (w : World) : Prop where
  size : a.tmps.size = a0.tmps.size
  defers : a.defers = a0.defers
  base : ∀ t, t ∉ dstsOf ops → a.eval (.tmp t) = a0.eval (.tmp t)
  facts : ∀ j o d, ops[j]? = some o → o.dst = some d → listed.getD j false = true → G d (a.eval (.tmp d)) w
  s : S (fun j => listed.getD j false) w
  len : listed.size = ops.size
  closed : ∀ i j, dep .any ops i j = true → listed.getD i false = true → listed.getD j false = true

/-- Operation j has come up, too. -/
def upd (l : Nat → Bool) (j : Nat) : Nat → Bool := fun i => if i = j then true else l i
/-- Is operation o carried out? -/
def want (ops : Array Oper) (o : Oper) (a : Act) : Prop :=
  match o.guard with
  | none => True
  | some (g, b) => match (ops[g]?).bind (·.dst) with | some d => a.eval (.tmp d) = .bool b | none => False

/-- WHAT IS ASKED OF ONE OPERATION: with what it waits for at hand it comes to its end, leaves what is asked of its own temporary, and spoils nothing that was known; where it is not carried out, its temporary is undefined. -/
def Asked (P : Program) (md : Region.Mode) (ops : Array Oper) (a0 : Act) (Q : Exit → Act → World → Prop) (G : Tmp → Value → World → Prop) (S : (Nat → Bool) → World → Prop) (j : Nat) (o : Oper) : Prop :=
  ∀ (l : Nat → Bool) (a : Act) (w : World), l j = false → (∀ e ∈ o.after, Region.binds md e = true → l e.on = true) → (∀ i k, dep md ops i k = true → l i = true → l k = true) → S l w → (∀ t, (dstsOf ops).contains t = false → a.eval (.tmp t) = a0.eval (.tmp t)) → (∀ d, waits md ops o d = true → G d (a.eval (.tmp d)) w) →
    (want ops o a → ∀ K : Act → World → Prop, (∀ v w', (∀ d, o.dst = some d → G d v w') → S (upd l j) w' → (∀ d u, some d ≠ o.dst → G d u w → G d u w') → K (a.put o.dst v) w') → Oper.wp P o a w K Q) ∧
    (¬ want ops o a → (∀ d, o.dst = some d → G d undef w) ∧ S (upd l j) w)

/-- The same of each. -/
def AskedAll (P : Program) (md : Region.Mode) (ops : Array Oper) (a0 : Act) (Q : Exit → Act → World → Prop) (G : Tmp → Value → World → Prop) (S : (Nat → Bool) → World → Prop) : Nat → List Oper → Prop
  | _, [] => True
  | j, o :: rest => Asked P md ops a0 Q G S j o ∧ AskedAll P md ops a0 Q G S (j + 1) rest

theorem AskedAll.mem {a0 : Act} {G : Tmp → Value → World → Prop} {S : (Nat → Bool) → World → Prop} : ∀ {l : List Oper} {k : Nat}, AskedAll P md ops a0 Q G S k l → ∀ j o, l[j]? = some o → Asked P md ops a0 Q G S (k + j) o
  | [], _, _, j, o, h => by simp at h
  | x :: l, k, hA, 0, o, h => by
    simp at h
    subst h
    exact hA.1
  | x :: l, k, hA, j + 1, o, h => by
    have := AskedAll.mem hA.2 j o (by simpa using h)
    rwa [show k + 1 + j = k + (j + 1) from by omega] at this

theorem plain_dst {n : Nat} (h : plain ops n = true) {i j : Nat} {o o' : Oper} {d : Tmp} (hi : ops[i]? = some o) (hj : ops[j]? = some o') (hd : o.dst = some d) (hd' : o'.dst = some d) : i = j := by
  unfold plain at h
  simp only [Bool.and_eq_true] at h
  have h1 := List.all_eq_true.1 h.1.1 i (List.mem_range.2 (Array.getElem?_eq_some_iff.1 hi).1)
  have h2 := List.all_eq_true.1 h1 j (List.mem_range.2 (Array.getElem?_eq_some_iff.1 hj).1)
  simpa [hi, hj, hd, hd'] using h2

theorem plain_in {n : Nat} (h : plain ops n = true) {i : Nat} {o : Oper} (hi : ops[i]? = some o) :
    (∀ g b, o.guard = some (g, b) → ∃ og d e, ops[g]? = some og ∧ og.dst = some d ∧ e ∈ o.after ∧ Region.binds .any e = true ∧ e.on = g) ∧ ∀ d, o.dst = some d → d < n := by
  unfold plain at h
  simp only [Bool.and_eq_true] at h
  have h1 := Array.all_eq_true_iff_forall_mem.1 h.1.2 o (Array.mem_of_getElem? hi)
  simp only [Bool.and_eq_true] at h1
  refine ⟨fun g b hg => ?_, fun d hd => ?_⟩
  · have h2 := h1.1
    rw [hg] at h2
    simp only [Bool.and_eq_true] at h2
    obtain ⟨h3, h4⟩ := h2
    cases ho : ops[g]? with
    | none => rw [ho] at h3; simp at h3
    | some og =>
      rw [ho] at h3
      cases hd : og.dst with
      | none => simp [hd] at h3
      | some d =>
        obtain ⟨e, he, h5⟩ := List.any_eq_true.1 h4
        simp only [Bool.and_eq_true, beq_iff_eq] at h5
        exact ⟨og, d, e, rfl, hd, Array.mem_def.2 he, h5.1, h5.2⟩
  · have := h1.2
    rw [hd] at this
    simpa using this

/-- Of the first operation that has not come up all that it waits for has: so at the end all have come up. -/
theorem plain_end {n : Nat} (h : plain ops n = true) {listed : Array Bool} (hl : listed.size = ops.size) (hr : Region.ready md ops listed = []) : ∀ j, j < ops.size → listed.getD j false = true := by
  unfold plain at h
  simp only [Bool.and_eq_true] at h
  intro j
  induction j using Nat.strongRecOn with
  | ind j ih =>
    intro hj
    apply Classical.byContradiction
    intro hn
    have hf : listed.getD j true = false := by
      simp [show j < listed.size by omega] at hn ⊢
      exact hn
    have ho : ops[j]? = some ops[j] := Array.getElem?_eq_getElem hj
    have h1 := List.all_eq_true.1 h.2 j (List.mem_range.2 hj)
    simp only [ho, Option.map_some, Option.getD_some] at h1
    have : j ∈ Region.ready md ops listed := mem_ready.2 ⟨hf, ops[j], ho, fun e he _ => by
      have := Array.all_eq_true_iff_forall_mem.1 h1 e he
      simp at this
      exact ih e.on this (by omega)⟩
    rw [hr] at this
    simp at this

/-- THE LAW. -/
theorem wp_region_each {id : Nat} {a0 : Act} {w : World} (hm : P.follows .mixedOrders = true) (G : Tmp → Value → World → Prop) (S : (Nat → Bool) → World → Prop) (hp : plain ops a0.tmps.size = true)
    (hS : S (fun _ => false) w.drew) (hop : AskedAll P .any ops a0 Q G S 0 ops.toList)
    (hend : ∀ (l : Nat → Bool) (s : Tmp → Value) (w : World), (∀ j, j < ops.size → l j = true) → S l w → (∀ d, (dstsOf ops).contains d = true → G d (s d) w) → Q .normal (overlay a0 (dstsOf ops) s) w) : (Code.region id ops true).wp P Q a0 w := by
  refine wp_region_any hm ?_
  refine wpAny_inv (I := Inv ops a0 G S) ?_ ?_ _ _ _ _ ?_ ?_
  · intro j listed a w hj hI
    obtain ⟨hun, o, ho, hdeps⟩ := mem_ready.1 hj
    obtain ⟨hg, hb⟩ := plain_in hp ho
    have hjl : j < ops.size := (Array.getElem?_eq_some_iff.1 ho).1
    have hA := hop.mem j o (by simpa using ho)
    rw [Nat.zero_add] at hA
    have hlj : (fun j => listed.getD j false) j = false := by
      have hjl' : j < listed.size := by rw [hI.len]; exact hjl
      simp [hjl'] at hun ⊢
      exact hun
    have hup : (fun i => (listed.setIfInBounds j true).getD i false) = upd (fun i => listed.getD i false) j := by
      funext i
      unfold upd
      by_cases e : i = j
      · subst e
        have hjl' : i < listed.size := by rw [hI.len]; exact hjl
        simp [hjl']
      · rw [if_neg e, getD_set_ne false (fun h => e h.symm)]
    obtain ⟨hA1, hA2⟩ := hA _ a w hlj (fun e he hbe => hdeps e he hbe) hI.closed hI.s (fun t ht => hI.base t (by simpa using ht)) (by
      intro d hd
      unfold waits at hd
      obtain ⟨e, he, h1⟩ := List.any_eq_true.1 hd
      rw [← Array.mem_def] at he
      simp only [Bool.and_eq_true, beq_iff_eq] at h1
      cases hoe : ops[e.on]? with
      | none => rw [hoe] at h1; simp at h1
      | some oe =>
        rw [hoe] at h1
        exact hI.facts e.on oe d hoe (by simpa using h1.2) (hdeps e he h1.1))
    have step : ∀ v w', (∀ d, o.dst = some d → G d v w') → S (upd (fun i => listed.getD i false) j) w' → (∀ d u, some d ≠ o.dst → G d u w → G d u w') → Inv ops a0 G S (listed.setIfInBounds j true) (a.put o.dst v) w' := by
      intro v w' hG hS' hkeep
      refine ⟨?_, ?_, ?_, ?_, by rw [hup]; exact hS', ?_, ?_⟩
      · rw [← hI.size]
        cases hd : o.dst <;> simp [Act.put]
      · rw [← hI.defers]
        cases hd : o.dst <;> simp [Act.put]
      · intro t ht
        rw [Act.eval_put (fun d hd e => ht ?_)]
        · exact hI.base t ht
        · simp only [Operand.tmp.injEq] at e
          subst e
          exact List.mem_filterMap.2 ⟨o, by rw [← Array.mem_def]; exact Array.mem_of_getElem? ho, hd⟩
      · intro j' o' d ho' hd' hl'
        by_cases e : j' = j
        · subst e
          rw [ho] at ho'
          simp only [Option.some.injEq] at ho'
          subst ho'
          have hdl : d < a.tmps.size := by rw [hI.size]; exact hb d hd'
          have : (a.put o.dst v).eval (.tmp d) = v := by rw [hd']; simp [Act.put, Act.eval, hdl]
          rw [this]
          exact hG d hd'
        · rw [getD_set_ne false (fun h => e h.symm)] at hl'
          have hdd : some d ≠ o.dst := fun h => e (plain_dst hp ho' ho hd' h.symm)
          rw [Act.eval_put (fun d' hd2 h => ?_)]
          · exact hkeep d _ hdd (hI.facts j' o' d ho' hd' hl')
          · simp only [Operand.tmp.injEq] at h
            subst h
            exact hdd hd2.symm
      · simp [hI.len]
      · intro i k hik hi
        have hm : ∀ k, listed.getD k false = true → (listed.setIfInBounds j true).getD k false = true := by
          intro k hk
          have := congrFun hup k
          rw [this]
          unfold upd
          split
          · rfl
          · exact hk
        by_cases e : i = j
        · subst e
          unfold dep at hik
          rw [ho] at hik
          simp only [Option.map_some, Option.getD_some] at hik
          obtain ⟨ed, hed, h1⟩ := List.any_eq_true.1 hik
          simp only [Bool.and_eq_true, beq_iff_eq] at h1
          have := hdeps ed (Array.mem_def.2 hed) h1.1
          rw [h1.2] at this
          exact hm k this
        · rw [getD_set_ne false (fun h => e h.symm)] at hi
          exact hm k (hI.closed i k hik hi)
    have hwant : Region.wanted o (yielded ops a.tmps) = true ↔ want ops o a := by
      unfold Region.wanted want
      cases hgd : o.guard with
      | none => simp
      | some gb =>
        obtain ⟨g, b⟩ := gb
        obtain ⟨og, d, e, hog, hod, he, hbe, hon⟩ := hg g b hgd
        have hdl : d < a.tmps.size := by rw [hI.size]; exact (plain_in hp hog).2 d hod
        simp only [yielded, hog, Option.bind_some, hod, Array.getElem?_eq_getElem hdl, Act.eval]
        have hx : a.tmps.getD d undef = a.tmps[d] := by simp [hdl]
        rw [hx]
        generalize a.tmps[d] = x
        cases x <;> simp
    unfold wpOp
    simp only [ho]
    by_cases hw : want ops o a
    · rw [if_pos (hwant.2 hw)]
      exact .inl (hA1 hw _ step)
    · rw [if_neg (fun h => hw (hwant.1 h))]
      obtain ⟨h1, h2⟩ := hA2 hw
      exact step undef w h1 h2 (fun _ _ _ h => h)
  · intro listed a w hr hI
    have hall := plain_end hp hI.len hr
    rw [overlay_self hI.size hI.defers hI.base]
    refine hend _ _ w (fun j hj => hall j hj) hI.s fun d hd => ?_
    obtain ⟨o, ho, hd'⟩ := List.mem_filterMap.1 (by simpa using hd : d ∈ dstsOf ops)
    rw [← Array.mem_def] at ho
    obtain ⟨j, hj, rfl⟩ := Array.mem_iff_getElem.1 ho
    exact hI.facts j _ d (Array.getElem?_eq_getElem hj) hd' (hall j hj)
  · unfold still
    simp
  · refine ⟨rfl, rfl, fun _ _ => rfl, fun j o d ho _ hl => ?_, ?_, by simp, fun i k _ hi => ?_⟩
    · have hj := (Array.getElem?_eq_some_iff.1 ho).1
      simp [hj] at hl
    · have : (fun j => (Array.replicate ops.size false).getD j false) = fun _ => false := by
        funext j
        by_cases hj : j < ops.size <;> simp [hj]
      rw [this]
      exact hS
    · by_cases hi' : i < ops.size <;> simp [hi'] at hi

/-- One operation that yields a value, whatever it does. -/
theorem wp_value {o : Oper} {a : Act} {w w' : World} {K : Act → World → Prop} {v : Value} (h : (execOp a.eval o).run P w = .ok (.value v) w') (hK : K (a.put o.dst v) w') : Oper.wp P o a w K Q := by
  unfold Oper.wp
  rw [h]
  exact hK

variable {a0 : Act} {G : Tmp → Value → World → Prop} {S : (Nat → Bool) → World → Prop} {j : Nat} {o : Oper} {d : Tmp} {v : Value}

/-- What is at hand where an operation comes up. -/
structure Hand (md : Region.Mode) (ops : Array Oper) (a0 : Act) (G : Tmp → Value → World → Prop) (S : (Nat → Bool) → World → Prop) (j : Nat) (o : Oper) (l : Nat → Bool) (a : Act) (w : World) : Prop where
  new : l j = false
  deps : ∀ e ∈ o.after, Region.binds md e = true → l e.on = true
  closed : ∀ i k, dep md ops i k = true → l i = true → l k = true
  s : S l w
  base : ∀ t, (dstsOf ops).contains t = false → a.eval (.tmp t) = a0.eval (.tmp t)
  facts : ∀ d, waits md ops o d = true → G d (a.eval (.tmp d)) w

/-- An operation that yields one value and leaves the world as it is; not guarded. -/
theorem asked_pure (hg : o.guard = none) (hd : o.dst = some d) (hS : ∀ l w, S l w → S (upd l j) w) (hG : ∀ l w, S l w → G d v w)
    (h : ∀ l a w, Hand md ops a0 G S j o l a w → (execOp a.eval o).run P w = .ok (.value v) w) : Asked P md ops a0 Q G S j o := by
  intro l a w h1 h2 hcl h3 h4 h5
  refine ⟨fun _ K hK => wp_value (h l a w ⟨h1, h2, hcl, h3, h4, h5⟩) (hK _ _ (fun d' h' => ?_) (hS _ _ h3) (fun _ _ _ h => h)), fun hw => ?_⟩
  · rw [hd] at h'
    cases h'
    exact hG l w h3
  · exact absurd (by unfold want; rw [hg]; trivial) hw

/-- The same of a guarded one: c says whether it is carried out. -/
theorem asked_guard {g : Nat} {b c : Bool} {dg : Tmp} (hg : o.guard = some (g, b)) (hdg : (ops[g]?).bind (·.dst) = some dg) (hwt : waits md ops o dg = true) (hd : o.dst = some d) (hS : ∀ l w, S l w → S (upd l j) w)
    (hc : ∀ l u w, S l w → G dg u w → (u = .bool b ↔ c = true)) (hG : ∀ l w, S l w → G d (if c = true then v else undef) w)
    (h : c = true → ∀ l a w, Hand md ops a0 G S j o l a w → (execOp a.eval o).run P w = .ok (.value v) w) : Asked P md ops a0 Q G S j o := by
  intro l a w h1 h2 hcl h3 h4 h5
  have hiff := hc l _ w h3 (h5 dg hwt)
  have hw : want ops o a ↔ c = true := by
    unfold want
    rw [hg]
    simp only [hdg]
    exact hiff
  constructor
  · intro hwa K hK
    have hct := hw.1 hwa
    refine wp_value (h hct l a w ⟨h1, h2, hcl, h3, h4, h5⟩) (hK _ _ (fun d' h' => ?_) (hS _ _ h3) (fun _ _ _ h => h))
    rw [hd] at h'
    cases h'
    have := hG l w h3
    rwa [if_pos hct] at this
  · intro hwa
    refine ⟨fun d' h' => ?_, hS _ _ h3⟩
    rw [hd] at h'
    cases h'
    have := hG l w h3
    rwa [if_neg (fun h => hwa (hw.2 h))] at this

/-- An operation that may turn the world; not guarded. -/
theorem asked_any (hg : o.guard = none)
    (h : ∀ l a w, Hand md ops a0 G S j o l a w → ∃ v w', (execOp a.eval o).run P w = .ok (.value v) w' ∧ (∀ d, o.dst = some d → G d v w') ∧ S (upd l j) w' ∧ ∀ d u, some d ≠ o.dst → G d u w → G d u w') : Asked P md ops a0 Q G S j o := by
  intro l a w h1 h2 hcl h3 h4 h5
  refine ⟨fun _ K hK => ?_, fun hw => absurd (by unfold want; rw [hg]; trivial) hw⟩
  obtain ⟨v, w', e1, e2, e3, e4⟩ := h l a w ⟨h1, h2, hcl, h3, h4, h5⟩
  exact wp_value e1 (hK _ _ e2 e3 e4)

/-- A call of a function of the program, by its contract; not guarded. -/
theorem asked_call {f : FuncId} {fn : Func} {xs : Array Operand} {ts : Array TypeId} (hg : o.guard = none) (hf : P.funcs[f]? = some fn) (hn : (fn.name == "runtime.NumGoroutine") = false) (hbody : fn.body.isNone = false) (hd : o.dst = some d) (hop : o.op = .call { callee := .value (.func f), args := xs, argTypes := ts })
    (h : ∀ l a w, Hand md ops a0 G S j o l a w → Calls P f (xs.map a.eval) w fun e w' => ∃ v, e = .returned v ∧ G d v w' ∧ S (upd l j) w' ∧ ∀ d' u, d' ≠ d → G d' u w → G d' u w') :
    Asked P md ops a0 Q G S j o := by
  intro l a w h1 h2 hcl h3 h4 h5
  refine ⟨fun _ K hK => ?_, fun hw => absurd (by unfold want; rw [hg]; trivial) hw⟩
  have hrun : (execOp a.eval o).run P w = .ok (.enter f (xs.map a.eval)) w := by
    have : execOp a.eval o = callFunc f (#[] ++ xs.map a.eval ++ #[]) := by
      unfold execOp
      rw [hop]
      rfl
    rw [this]
    simp [callFunc, hf]
    rw [if_neg (by simpa using hn), if_neg (fun e => by rw [e] at hbody; simp at hbody)]
  unfold Oper.wp
  rw [hrun, Oper.upon_enter]
  refine (h l a w ⟨h1, h2, hcl, h3, h4, h5⟩).mono ?_
  rintro e w' ⟨v, rfl, e2, e3, e4⟩
  refine hK _ _ (fun d' h' => ?_) e3 (fun d' u hne hG => e4 d' u (fun e => hne (by rw [e, hd])) hG)
  rw [hd] at h'
  cases h'
  exact e2

/-- The same of a guarded one. -/
theorem asked_gcall {f : FuncId} {fn : Func} {xs : Array Operand} {ts : Array TypeId} {g : Nat} {b c : Bool} {dg : Tmp} (hg : o.guard = some (g, b)) (hdg : (ops[g]?).bind (·.dst) = some dg) (hwt : waits md ops o dg = true)
    (hf : P.funcs[f]? = some fn) (hn : (fn.name == "runtime.NumGoroutine") = false) (hbody : fn.body.isNone = false) (hd : o.dst = some d) (hop : o.op = .call { callee := .value (.func f), args := xs, argTypes := ts })
    (hc : ∀ l u w, S l w → G dg u w → (u = .bool b ↔ c = true)) (hno : c = false → ∀ l w, S l w → G d undef w ∧ S (upd l j) w)
    (h : c = true → ∀ l a w, Hand md ops a0 G S j o l a w → Calls P f (xs.map a.eval) w fun e w' => ∃ v, e = .returned v ∧ G d v w' ∧ S (upd l j) w' ∧ ∀ d' u, d' ≠ d → G d' u w → G d' u w') :
    Asked P md ops a0 Q G S j o := by
  intro l a w h1 h2 hcl h3 h4 h5
  have hiff := hc l _ w h3 (h5 dg hwt)
  have hw : want ops o a ↔ c = true := by
    unfold want
    rw [hg]
    simp only [hdg]
    exact hiff
  constructor
  · intro hwa K hK
    have hrun : (execOp a.eval o).run P w = .ok (.enter f (xs.map a.eval)) w := by
      have : execOp a.eval o = callFunc f (#[] ++ xs.map a.eval ++ #[]) := by
        unfold execOp
        rw [hop]
        rfl
      rw [this]
      simp [callFunc, hf]
      rw [if_neg (by simpa using hn), if_neg (fun e => by rw [e] at hbody; simp at hbody)]
    unfold Oper.wp
    rw [hrun, Oper.upon_enter]
    refine (h (hw.1 hwa) l a w ⟨h1, h2, hcl, h3, h4, h5⟩).mono ?_
    rintro e w' ⟨v, rfl, e2, e3, e4⟩
    refine hK _ _ (fun d' h' => ?_) e3 (fun d' u hne hG => e4 d' u (fun e => hne (by rw [e, hd])) hG)
    rw [hd] at h'
    cases h'
    exact e2
  · intro hwa
    have hcf : c = false := by
      cases c with
      | true => exact absurd (hw.2 rfl) hwa
      | false => rfl
    obtain ⟨e1, e2⟩ := hno hcf l w h3
    refine ⟨fun d' h' => ?_, e2⟩
    rw [hd] at h'
    cases h'
    exact e1
end
end Go.Proofs.Ytblcbccchlljhaa
namespace Go.Proofs.Ytblcbccchlljhaa.L
open Go
section
variable {P : Program} {ops : Array Oper} {Q : Exit → Act → World → Prop} {md : Region.Mode}
/-- No two operations write one temporary, each writes one of the n that there are, each waits but for earlier ones, and, if guarded, for its guard, too. -/
def plain (ops : Array Oper) (n : Nat) : Bool :=
  ((List.range ops.size).all fun i => (List.range ops.size).all fun j => i == j || ((ops[i]?).bind (·.dst)).isNone || ((ops[i]?).bind (·.dst)) != ((ops[j]?).bind (·.dst))) &&
  (ops.all fun o => (match o.guard with | some (g, _) => ((ops[g]?).bind (·.dst)).isSome && o.after.toList.any (fun e => Region.binds .any e && e.on == g) | none => true) && (match o.dst with | some d => decide (d < n) | none => true)) &&
  ((List.range ops.size).all fun i => ((ops[i]?).map fun o => o.after.all fun e => !(Region.binds .any e) || decide (e.on < i)).getD true)

/-- What is kept on the way: facts on what is written, and what stands in the world once these operations have come up. -/
structure Inv (ops : Array Oper) (a0 : Act) (G : (Nat → Bool) → Tmp → Value → World → Prop) (S : (Nat → Bool) → World → Prop) (listed : Array Bool) (a : Act) (w : World) : Prop where
  size : a.tmps.size = a0.tmps.size
  defers : a.defers = a0.defers
  base : ∀ t, t ∉ dstsOf ops → a.eval (.tmp t) = a0.eval (.tmp t)
  facts : ∀ j o d, ops[j]? = some o → o.dst = some d → listed.getD j false = true → G (fun j => listed.getD j false) d (a.eval (.tmp d)) w
  s : S (fun j => listed.getD j false) w
  len : listed.size = ops.size
  closed : ∀ i j, dep .any ops i j = true → listed.getD i false = true → listed.getD j false = true

/-- WHAT IS ASKED OF ONE OPERATION: with what it waits for at hand it comes to its end, leaves what is asked of its own temporary, and spoils nothing that was known; where it is not carried out, its temporary is undefined. -/
def Asked (P : Program) (md : Region.Mode) (ops : Array Oper) (a0 : Act) (Q : Exit → Act → World → Prop) (G : (Nat → Bool) → Tmp → Value → World → Prop) (S : (Nat → Bool) → World → Prop) (j : Nat) (o : Oper) : Prop :=
  ∀ (l : Nat → Bool) (a : Act) (w : World), l j = false → (∀ e ∈ o.after, Region.binds md e = true → l e.on = true) → (∀ i k, dep md ops i k = true → l i = true → l k = true) → S l w → (∀ t, (dstsOf ops).contains t = false → a.eval (.tmp t) = a0.eval (.tmp t)) → (∀ d, waits md ops o d = true → G l d (a.eval (.tmp d)) w) →
    (want ops o a → ∀ K : Act → World → Prop, (∀ v w', (∀ d, o.dst = some d → G (upd l j) d v w') → S (upd l j) w' → (∀ d u, some d ≠ o.dst → G l d u w → G (upd l j) d u w') → K (a.put o.dst v) w') → Oper.wp P o a w K Q) ∧
    (¬ want ops o a → (∀ d, o.dst = some d → G (upd l j) d undef w) ∧ S (upd l j) w ∧ ∀ d u, some d ≠ o.dst → G l d u w → G (upd l j) d u w)

/-- The same of each. -/
def AskedAll (P : Program) (md : Region.Mode) (ops : Array Oper) (a0 : Act) (Q : Exit → Act → World → Prop) (G : (Nat → Bool) → Tmp → Value → World → Prop) (S : (Nat → Bool) → World → Prop) : Nat → List Oper → Prop
  | _, [] => True
  | j, o :: rest => Asked P md ops a0 Q G S j o ∧ AskedAll P md ops a0 Q G S (j + 1) rest

theorem AskedAll.mem {a0 : Act} {G : (Nat → Bool) → Tmp → Value → World → Prop} {S : (Nat → Bool) → World → Prop} : ∀ {l : List Oper} {k : Nat}, AskedAll P md ops a0 Q G S k l → ∀ j o, l[j]? = some o → Asked P md ops a0 Q G S (k + j) o
  | [], _, _, j, o, h => by simp at h
  | x :: l, k, hA, 0, o, h => by
    simp at h
    subst h
    exact hA.1
  | x :: l, k, hA, j + 1, o, h => by
    have := AskedAll.mem hA.2 j o (by simpa using h)
    rwa [show k + 1 + j = k + (j + 1) from by omega] at this

theorem plain_dst {n : Nat} (h : plain ops n = true) {i j : Nat} {o o' : Oper} {d : Tmp} (hi : ops[i]? = some o) (hj : ops[j]? = some o') (hd : o.dst = some d) (hd' : o'.dst = some d) : i = j := by
  unfold plain at h
  simp only [Bool.and_eq_true] at h
  have h1 := List.all_eq_true.1 h.1.1 i (List.mem_range.2 (Array.getElem?_eq_some_iff.1 hi).1)
  have h2 := List.all_eq_true.1 h1 j (List.mem_range.2 (Array.getElem?_eq_some_iff.1 hj).1)
  simpa [hi, hj, hd, hd'] using h2

theorem plain_in {n : Nat} (h : plain ops n = true) {i : Nat} {o : Oper} (hi : ops[i]? = some o) :
    (∀ g b, o.guard = some (g, b) → ∃ og d e, ops[g]? = some og ∧ og.dst = some d ∧ e ∈ o.after ∧ Region.binds .any e = true ∧ e.on = g) ∧ ∀ d, o.dst = some d → d < n := by
  unfold plain at h
  simp only [Bool.and_eq_true] at h
  have h1 := Array.all_eq_true_iff_forall_mem.1 h.1.2 o (Array.mem_of_getElem? hi)
  simp only [Bool.and_eq_true] at h1
  refine ⟨fun g b hg => ?_, fun d hd => ?_⟩
  · have h2 := h1.1
    rw [hg] at h2
    simp only [Bool.and_eq_true] at h2
    obtain ⟨h3, h4⟩ := h2
    cases ho : ops[g]? with
    | none => rw [ho] at h3; simp at h3
    | some og =>
      rw [ho] at h3
      cases hd : og.dst with
      | none => simp [hd] at h3
      | some d =>
        obtain ⟨e, he, h5⟩ := List.any_eq_true.1 h4
        simp only [Bool.and_eq_true, beq_iff_eq] at h5
        exact ⟨og, d, e, rfl, hd, Array.mem_def.2 he, h5.1, h5.2⟩
  · have := h1.2
    rw [hd] at this
    simpa using this

/-- Of the first operation that has not come up all that it waits for has: so at the end all have come up. -/
theorem plain_end {n : Nat} (h : plain ops n = true) {listed : Array Bool} (hl : listed.size = ops.size) (hr : Region.ready .any ops listed = []) : ∀ j, j < ops.size → listed.getD j false = true := by
  unfold plain at h
  simp only [Bool.and_eq_true] at h
  intro j
  induction j using Nat.strongRecOn with
  | ind j ih =>
    intro hj
    apply Classical.byContradiction
    intro hn
    have hf : listed.getD j true = false := by
      simp [show j < listed.size by omega] at hn ⊢
      exact hn
    have ho : ops[j]? = some ops[j] := Array.getElem?_eq_getElem hj
    have h1 := List.all_eq_true.1 h.2 j (List.mem_range.2 hj)
    simp only [ho, Option.map_some, Option.getD_some] at h1
    have : j ∈ Region.ready .any ops listed := mem_ready.2 ⟨hf, ops[j], ho, fun e he hbe => by
      have := Array.all_eq_true_iff_forall_mem.1 h1 e he
      simp [hbe] at this
      exact ih e.on this (by omega)⟩
    rw [hr] at this
    simp at this

/-- THE LAW. -/
theorem wp_region_eachL {id : Nat} {a0 : Act} {w : World} (hm : P.follows .mixedOrders = true) (G : (Nat → Bool) → Tmp → Value → World → Prop) (S : (Nat → Bool) → World → Prop) (hp : plain ops a0.tmps.size = true)
    (hS : S (fun _ => false) w.drew) (hop : AskedAll P .any ops a0 Q G S 0 ops.toList)
    (hend : ∀ (l : Nat → Bool) (s : Tmp → Value) (w : World), (∀ j, j < ops.size → l j = true) → S l w → (∀ d, (dstsOf ops).contains d = true → G l d (s d) w) → Q .normal (overlay a0 (dstsOf ops) s) w) : (Code.region id ops true).wp P Q a0 w := by
  refine wp_region_any hm ?_
  refine wpAny_inv (I := Inv ops a0 G S) ?_ ?_ _ _ _ _ ?_ ?_
  · intro j listed a w hj hI
    obtain ⟨hun, o, ho, hdeps⟩ := mem_ready.1 hj
    obtain ⟨hg, hb⟩ := plain_in hp ho
    have hjl : j < ops.size := (Array.getElem?_eq_some_iff.1 ho).1
    have hA := hop.mem j o (by simpa using ho)
    rw [Nat.zero_add] at hA
    have hlj : (fun j => listed.getD j false) j = false := by
      have hjl' : j < listed.size := by rw [hI.len]; exact hjl
      simp [hjl'] at hun ⊢
      exact hun
    have hup : (fun i => (listed.setIfInBounds j true).getD i false) = upd (fun i => listed.getD i false) j := by
      funext i
      unfold upd
      by_cases e : i = j
      · subst e
        have hjl' : i < listed.size := by rw [hI.len]; exact hjl
        simp [hjl']
      · rw [if_neg e, getD_set_ne false (fun h => e h.symm)]
    obtain ⟨hA1, hA2⟩ := hA _ a w hlj (fun e he hbe => hdeps e he hbe) hI.closed hI.s (fun t ht => hI.base t (by simpa using ht)) (by
      intro d hd
      unfold waits at hd
      obtain ⟨e, he, h1⟩ := List.any_eq_true.1 hd
      rw [← Array.mem_def] at he
      simp only [Bool.and_eq_true, beq_iff_eq] at h1
      cases hoe : ops[e.on]? with
      | none => rw [hoe] at h1; simp at h1
      | some oe =>
        rw [hoe] at h1
        exact hI.facts e.on oe d hoe (by simpa using h1.2) (hdeps e he h1.1))
    have step : ∀ v w', (∀ d, o.dst = some d → G (upd (fun i => listed.getD i false) j) d v w') → S (upd (fun i => listed.getD i false) j) w' → (∀ d u, some d ≠ o.dst → G (fun i => listed.getD i false) d u w → G (upd (fun i => listed.getD i false) j) d u w') → Inv ops a0 G S (listed.setIfInBounds j true) (a.put o.dst v) w' := by
      intro v w' hG hS' hkeep
      refine ⟨?_, ?_, ?_, ?_, by rw [hup]; exact hS', ?_, ?_⟩
      · rw [← hI.size]
        cases hd : o.dst <;> simp [Act.put]
      · rw [← hI.defers]
        cases hd : o.dst <;> simp [Act.put]
      · intro t ht
        rw [Act.eval_put (fun d hd e => ht ?_)]
        · exact hI.base t ht
        · simp only [Operand.tmp.injEq] at e
          subst e
          exact List.mem_filterMap.2 ⟨o, by rw [← Array.mem_def]; exact Array.mem_of_getElem? ho, hd⟩
      · intro j' o' d ho' hd' hl'
        rw [hup]
        by_cases e : j' = j
        · subst e
          rw [ho] at ho'
          simp only [Option.some.injEq] at ho'
          subst ho'
          have hdl : d < a.tmps.size := by rw [hI.size]; exact hb d hd'
          have : (a.put o.dst v).eval (.tmp d) = v := by rw [hd']; simp [Act.put, Act.eval, hdl]
          rw [this]
          exact hG d hd'
        · rw [getD_set_ne false (fun h => e h.symm)] at hl'
          have hdd : some d ≠ o.dst := fun h => e (plain_dst hp ho' ho hd' h.symm)
          rw [Act.eval_put (fun d' hd2 h => ?_)]
          · exact hkeep d _ hdd (hI.facts j' o' d ho' hd' hl')
          · simp only [Operand.tmp.injEq] at h
            subst h
            exact hdd hd2.symm
      · simp [hI.len]
      · intro i k hik hi
        have hm : ∀ k, listed.getD k false = true → (listed.setIfInBounds j true).getD k false = true := by
          intro k hk
          have := congrFun hup k
          rw [this]
          unfold upd
          split
          · rfl
          · exact hk
        by_cases e : i = j
        · subst e
          unfold dep at hik
          rw [ho] at hik
          simp only [Option.map_some, Option.getD_some] at hik
          obtain ⟨ed, hed, h1⟩ := List.any_eq_true.1 hik
          simp only [Bool.and_eq_true, beq_iff_eq] at h1
          have := hdeps ed (Array.mem_def.2 hed) h1.1
          rw [h1.2] at this
          exact hm k this
        · rw [getD_set_ne false (fun h => e h.symm)] at hi
          exact hm k (hI.closed i k hik hi)
    have hwant : Region.wanted o (yielded ops a.tmps) = true ↔ want ops o a := by
      unfold Region.wanted want
      cases hgd : o.guard with
      | none => simp
      | some gb =>
        obtain ⟨g, b⟩ := gb
        obtain ⟨og, d, e, hog, hod, he, hbe, hon⟩ := hg g b hgd
        have hdl : d < a.tmps.size := by rw [hI.size]; exact (plain_in hp hog).2 d hod
        simp only [yielded, hog, Option.bind_some, hod, Array.getElem?_eq_getElem hdl, Act.eval]
        have hx : a.tmps.getD d undef = a.tmps[d] := by simp [hdl]
        rw [hx]
        generalize a.tmps[d] = x
        cases x <;> simp
    unfold wpOp
    simp only [ho]
    by_cases hw : want ops o a
    · rw [if_pos (hwant.2 hw)]
      exact .inl (hA1 hw _ step)
    · rw [if_neg (fun h => hw (hwant.1 h))]
      obtain ⟨h1, h2, h3⟩ := hA2 hw
      exact step undef w h1 h2 h3
  · intro listed a w hr hI
    have hall := plain_end hp hI.len hr
    rw [overlay_self hI.size hI.defers hI.base]
    refine hend _ _ w (fun j hj => hall j hj) hI.s fun d hd => ?_
    obtain ⟨o, ho, hd'⟩ := List.mem_filterMap.1 (by simpa using hd : d ∈ dstsOf ops)
    rw [← Array.mem_def] at ho
    obtain ⟨j, hj, rfl⟩ := Array.mem_iff_getElem.1 ho
    exact hI.facts j _ d (Array.getElem?_eq_getElem hj) hd' (hall j hj)
  · unfold still
    simp
  · refine ⟨rfl, rfl, fun _ _ => rfl, fun j o d ho _ hl => ?_, ?_, by simp, fun i k _ hi => ?_⟩
    · have hj := (Array.getElem?_eq_some_iff.1 ho).1
      simp [hj] at hl
    · have : (fun j => (Array.replicate ops.size false).getD j false) = fun _ => false := by
        funext j
        by_cases hj : j < ops.size <;> simp [hj]
      rw [this]
      exact hS
    · by_cases hi' : i < ops.size <;> simp [hi'] at hi

variable {a0 : Act} {G : (Nat → Bool) → Tmp → Value → World → Prop} {S : (Nat → Bool) → World → Prop} {j : Nat} {o : Oper} {d : Tmp} {v : Value}

/-- What is at hand where an operation comes up. -/
structure Hand (md : Region.Mode) (ops : Array Oper) (a0 : Act) (G : (Nat → Bool) → Tmp → Value → World → Prop) (S : (Nat → Bool) → World → Prop) (j : Nat) (o : Oper) (l : Nat → Bool) (a : Act) (w : World) : Prop where
  new : l j = false
  deps : ∀ e ∈ o.after, Region.binds md e = true → l e.on = true
  closed : ∀ i k, dep md ops i k = true → l i = true → l k = true
  s : S l w
  base : ∀ t, (dstsOf ops).contains t = false → a.eval (.tmp t) = a0.eval (.tmp t)
  facts : ∀ d, waits md ops o d = true → G l d (a.eval (.tmp d)) w


/-- An operation that yields one value and leaves the world as it is; not guarded. -/
theorem asked_pure (hg : o.guard = none) (hd : o.dst = some d) (hS : ∀ l w, S l w → S (upd l j) w) (hK : ∀ l w d u, l j = false → G l d u w → G (upd l j) d u w) (hG : ∀ l w, S l w → G (upd l j) d v w)
    (h : ∀ l a w, Hand md ops a0 G S j o l a w → (execOp a.eval o).run P w = .ok (.value v) w) : Asked P md ops a0 Q G S j o := by
  intro l a w h1 h2 hcl h3 h4 h5
  refine ⟨fun _ K hKK => wp_value (h l a w ⟨h1, h2, hcl, h3, h4, h5⟩) (hKK _ _ (fun d' h' => ?_) (hS _ _ h3) (fun _ _ _ h => hK _ _ _ _ h1 h)), fun hw => ?_⟩
  · rw [hd] at h'
    cases h'
    exact hG l w h3
  · exact absurd (by unfold want; rw [hg]; trivial) hw
/-- An operation that may turn the world; not guarded. -/
theorem asked_any (hg : o.guard = none)
    (h : ∀ l a w, Hand md ops a0 G S j o l a w → ∃ v w', (execOp a.eval o).run P w = .ok (.value v) w' ∧ (∀ d, o.dst = some d → G (upd l j) d v w') ∧ S (upd l j) w' ∧ ∀ d u, some d ≠ o.dst → G l d u w → G (upd l j) d u w') : Asked P md ops a0 Q G S j o := by
  intro l a w h1 h2 hcl h3 h4 h5
  refine ⟨fun _ K hK => ?_, fun hw => absurd (by unfold want; rw [hg]; trivial) hw⟩
  obtain ⟨v, w', e1, e2, e3, e4⟩ := h l a w ⟨h1, h2, hcl, h3, h4, h5⟩
  exact wp_value e1 (hK _ _ e2 e3 e4)
/-- A store; not guarded. -/
theorem asked_skip (hg : o.guard = none) (hd : o.dst = none)
    (h : ∀ l a w, Hand md ops a0 G S j o l a w → ∃ w', (execOp a.eval o).run P w = .ok .skip w' ∧ S (upd l j) w' ∧ ∀ d u, G l d u w → G (upd l j) d u w') : Asked P md ops a0 Q G S j o := by
  intro l a w h1 h2 hcl h3 h4 h5
  refine ⟨fun _ K hK => ?_, fun hw => absurd (by unfold want; rw [hg]; trivial) hw⟩
  obtain ⟨w', e1, e3, e4⟩ := h l a w ⟨h1, h2, hcl, h3, h4, h5⟩
  unfold Oper.wp
  rw [e1]
  exact hK undef w' (fun d h' => by rw [hd] at h'; cases h') e3 (fun d u _ => e4 d u)
/-- A call of a function of the program, by its contract; not guarded. -/
theorem asked_call {f : FuncId} {fn : Func} {xs : Array Operand} {ts : Array TypeId} (hg : o.guard = none) (hf : P.funcs[f]? = some fn) (hn : (fn.name == "runtime.NumGoroutine") = false) (hbody : fn.body.isNone = false) (hd : o.dst = some d) (hop : o.op = .call { callee := .value (.func f), args := xs, argTypes := ts })
    (h : ∀ l a w, Hand md ops a0 G S j o l a w → Calls P f (xs.map a.eval) w fun e w' => ∃ v, e = .returned v ∧ G (upd l j) d v w' ∧ S (upd l j) w' ∧ ∀ d' u, d' ≠ d → G l d' u w → G (upd l j) d' u w') :
    Asked P md ops a0 Q G S j o := by
  intro l a w h1 h2 hcl h3 h4 h5
  refine ⟨fun _ K hK => ?_, fun hw => absurd (by unfold want; rw [hg]; trivial) hw⟩
  have hrun : (execOp a.eval o).run P w = .ok (.enter f (xs.map a.eval)) w := by
    have : execOp a.eval o = callFunc f (#[] ++ xs.map a.eval ++ #[]) := by
      unfold execOp
      rw [hop]
      rfl
    rw [this]
    simp [callFunc, hf]
    rw [if_neg (by simpa using hn), if_neg (fun e => by rw [e] at hbody; simp at hbody)]
  unfold Oper.wp
  rw [hrun, Oper.upon_enter]
  refine (h l a w ⟨h1, h2, hcl, h3, h4, h5⟩).mono ?_
  rintro e w' ⟨v, rfl, e2, e3, e4⟩
  refine hK _ _ (fun d' h' => ?_) e3 (fun d' u hne hG => e4 d' u (fun e => hne (by rw [e, hd])) hG)
  rw [hd] at h'
  cases h'
  exact e2

end
end Go.Proofs.Ytblcbccchlljhaa.L
namespace Go.Proofs.Ytblcbccchlljhaa
open Go
variable {P : Program} {ops : Array Oper} {Q : Exit → Act → World → Prop} {md : Region.Mode} {a0 : Act} {G : Tmp → Value → World → Prop} {S : (Nat → Bool) → World → Prop} {j : Nat} {o : Oper}
/-- An operation that yields nothing; not guarded. -/
theorem asked_skip (hg : o.guard = none) (hd : o.dst = none)
    (h : ∀ l a w, Hand md ops a0 G S j o l a w → ∃ w', (execOp a.eval o).run P w = .ok .skip w' ∧ S (upd l j) w' ∧ ∀ d u, G d u w → G d u w') : Asked P md ops a0 Q G S j o := by
  intro l a w h1 h2 hcl h3 h4 h5
  refine ⟨fun _ K hK => ?_, fun hw => absurd (by unfold want; rw [hg]; trivial) hw⟩
  obtain ⟨w', e1, e3, e4⟩ := h l a w ⟨h1, h2, hcl, h3, h4, h5⟩
  unfold Oper.wp
  rw [e1]
  exact hK undef w' (fun d h' => by rw [hd] at h'; cases h') e3 (fun d u _ => e4 d u)
end Go.Proofs.Ytblcbccchlljhaa
