/- Plain mathematics of facts that flow from block to block (stage 11): steps, where they end, what is least; the law's own marks and rows. -/
import Derived.Test.YtblcbccchlljhaaDm
namespace Go.Proofs.Ytblcbccchlljhaa
namespace Fl
open Wy
/-- What is asked of: how many blocks; of each those from which facts come; what is known at first; what a join makes, and whether it changes something; what a block makes of facts. -/
structure Prob (α : Type) where
  n : Nat
  frm : Nat → List Nat
  first : Nat → α
  join : α → α → α
  ch : α → α → Bool
  pass : Nat → α → α
section
variable {α : Type} {p : Prob α} {fs : Nat → α}
/-- One join. -/
def Prob.step (p : Prob α) (fs : Nat → α) (b a : Nat) : Nat → α := fun x => if x = b then p.join (fs b) (p.pass a (fs a)) else fs x
def Prob.does (p : Prob α) (fs : Nat → α) (b a : Nat) : Bool := p.ch (fs b) (p.pass a (fs a))
/-- Facts that joins, in some order, lead to. -/
def Prob.Come (p : Prob α) (fs : Nat → α) : Prop := ∀ I : (Nat → α) → Prop, I p.first → (∀ gs b a, I gs → b < p.n → a < p.n → a ∈ p.frm b → I (p.step gs b a)) → I fs
theorem Prob.come_first (p : Prob α) : p.Come p.first := fun _ h _ => h
theorem Prob.Come.step (h : p.Come fs) {b a : Nat} (hb : b < p.n) (ha : a < p.n) (hm : a ∈ p.frm b) : p.Come (p.step fs b a) := fun I h0 hs => hs fs b a (h I h0 hs) hb ha hm
/-- No join changes anything any more. -/
def Prob.Still (p : Prob α) (fs : Nat → α) : Prop := ∀ b, b < p.n → ∀ a ∈ p.frm b, p.does fs b a = false
/-- Each join that changes something makes m less; one that doesn't leaves all as it was. -/
structure Prob.Ok (p : Prob α) (m : (Nat → α) → Nat) : Prop where
  frm_lt : ∀ b, b < p.n → ∀ a ∈ p.frm b, a < p.n
  less : ∀ fs b a, p.Come fs → b < p.n → a < p.n → a ∈ p.frm b → p.does fs b a = true → m (p.step fs b a) < m fs
  stay : ∀ fs b a, p.Come fs → b < p.n → a < p.n → a ∈ p.frm b → p.does fs b a = false → p.step fs b a = fs
theorem Prob.Ok.le {m : (Nat → α) → Nat} (h : p.Ok m) (hc : p.Come fs) {b a : Nat} (hb : b < p.n) (hm : a ∈ p.frm b) : m (p.step fs b a) ≤ m fs := by
  have ha := h.frm_lt b hb a hm
  cases hd : p.does fs b a
  · rw [h.stay fs b a hc hb ha hm hd]
    exact Nat.le_refl _
  · exact Nat.le_of_lt (h.less fs b a hc hb ha hm hd)
end

/-! ### Sums over blocks -/
def sum (n : Nat) (k : Nat → Nat) : Nat := ((List.range n).map k).sum
theorem sum_succ (n : Nat) (k : Nat → Nat) : sum (n + 1) k = sum n k + k n := by simp [sum, List.range_succ]
theorem sum_le {n : Nat} {k l : Nat → Nat} (h : ∀ x, x < n → l x ≤ k x) : sum n l ≤ sum n k := by
  induction n with
  | zero => simp [sum]
  | succ n ih =>
    rw [sum_succ, sum_succ]
    have := ih fun x hx => h x (by omega)
    have := h n (by omega)
    omega
theorem sum_lt {n : Nat} {k l : Nat → Nat} (h : ∀ x, x < n → l x ≤ k x) {b : Nat} (hb : b < n) (hlt : l b < k b) : sum n l < sum n k := by
  induction n with
  | zero => omega
  | succ n ih =>
    rw [sum_succ, sum_succ]
    by_cases e : b = n
    · subst e
      have := sum_le (n := b) (k := k) (l := l) fun x hx => h x (by omega)
      omega
    · have := ih (fun x hx => h x (by omega)) (by omega)
      have := h n (by omega)
      omega

/-! ### Sets as facts -/
def Fit (f : Nat → Bool) : Prop := ∀ y, f y = true → y < 4096
def sm (f g : Nat → Bool) (n : Nat) : Bool := (List.range n).all fun x => f x == g x
theorem sm_yes {f g : Nat → Bool} {n : Nat} : sm f g n = true ↔ ∀ x, x < n → f x = g x := by simp [sm]
def un (f g : Nat → Bool) : Nat → Bool := fun y => f y || g y
/-- Sets that grow: each block takes 'less' away, adds 'more'. -/
def sets (n : Nat) (frm : Nat → List Nat) (first more less : Nat → Nat → Bool) : Prob (Nat → Bool) :=
  ⟨n, frm, first, un, fun f g => !sm f (un f g) 4096, fun a f => un (fun y => f y && !less a y) (more a)⟩
structure FitS (n : Nat) (frm : Nat → List Nat) (first more : Nat → Nat → Bool) : Prop where
  frm_lt : ∀ b, b < n → ∀ a ∈ frm b, a < n
  first : ∀ b, Fit (first b)
  more : ∀ b, Fit (more b)
section
variable {n : Nat} {frm : Nat → List Nat} {first more less : Nat → Nat → Bool} {fs : Nat → Nat → Bool}
theorem sets_fit (h : FitS n frm first more) (hc : (sets n frm first more less).Come fs) : ∀ b, Fit (fs b) := by
  refine hc (fun gs => ∀ b, Fit (gs b)) h.first fun gs b a hg _ _ _ x y hy => ?_
  simp only [Prob.step] at hy
  split at hy
  · simp only [sets, un, Bool.or_eq_true, Bool.and_eq_true] at hy
    rcases hy with hy | ⟨hy, _⟩ | hy
    · exact hg b y hy
    · exact hg a y hy
    · exact h.more a y hy
  · exact hg x y hy
theorem sets_ok (h : FitS n frm first more) : (sets n frm first more less).Ok fun fs => sum n fun b => left (fs b) 4096 := by
  have up : ∀ (fs : Nat → Nat → Bool) (b a x : Nat) (y : Nat), fs x y = true → (sets n frm first more less).step fs b a x y = true := by
    intro fs b a x y hy
    simp only [Prob.step]
    split
    · rename_i e
      subst e
      simp [sets, un, hy]
    · exact hy
  refine ⟨h.frm_lt, fun fs b a hc hb ha hm hd => ?_, fun fs b a hc hb ha hm hd => ?_⟩
  · refine sum_lt (fun x _ => left_le (up fs b a x) 4096) hb ?_
    have : ∃ y, y < 4096 ∧ fs b y = false ∧ (sets n frm first more less).pass a (fs a) y = true := by
      refine Classical.byContradiction fun hno => ?_
      have : sm (fs b) (un (fs b) ((sets n frm first more less).pass a (fs a))) 4096 = true := by
        rw [sm_yes]
        intro y hy
        cases h1 : fs b y
        · cases h2 : (sets n frm first more less).pass a (fs a) y
          · simp [un, h1, h2]
          · exact absurd ⟨y, hy, h1, h2⟩ hno
        · simp [un, h1]
      simp only [Prob.does, sets] at hd
      simp only [sets] at this
      rw [this] at hd
      cases hd
    obtain ⟨y, hy, h1, h2⟩ := this
    have := left_lt (s := fs b) (t := (sets n frm first more less).step fs b a b) (up fs b a b) h1 (by simp only [Prob.step, if_true]; show un (fs b) _ y = true; simp [un, h2]) hy
    omega
  · have hf := sets_fit h hc
    have hf' := sets_fit h (hc.step hb ha hm)
    have hs : sm (fs b) (un (fs b) ((sets n frm first more less).pass a (fs a))) 4096 = true := by
      simp only [Prob.does, sets] at hd
      simpa [sets] using hd
    rw [sm_yes] at hs
    funext x y
    by_cases e : x = b
    · subst e
      cases h1 : fs x y
      · cases h2 : (sets n frm first more less).step fs x a x y
        · rfl
        · have hy := hf' x y h2
          have := hs y hy
          simp only [Prob.step, if_true] at h2
          have h3 : un (fs x) ((sets n frm first more less).pass a (fs a)) y = true := h2
          rw [← this, h1] at h3
          cases h3
      · exact up fs x a x y h1
    · simp [Prob.step, e]
/-- What is still is closed. -/
theorem sets_closed (h : FitS n frm first more) (hc : (sets n frm first more less).Come fs) (hs : (sets n frm first more less).Still fs) {b a y : Nat} (hb : b < n) (hm : a ∈ frm b) (hy : (fs a y = true ∧ less a y = false) ∨ more a y = true) : fs b y = true := by
  have hk := (sets_ok (less := less) h).stay fs b a hc hb (h.frm_lt b hb a hm) hm (hs b hb a hm)
  rw [← hk]
  simp only [Prob.step, if_true]
  show un (fs b) (un (fun y => fs a y && !less a y) (more a)) y = true
  rcases hy with ⟨h1, h2⟩ | h1
  · simp [un, h1, h2]
  · simp [un, h1]
/-- Facts are within whatever holds what was known at first and is closed. -/
theorem sets_least (hc : (sets n frm first more less).Come fs) (R : Nat → Nat → Prop) (h0 : ∀ b y, first b y = true → R b y) (hR : ∀ b a y, b < n → a < n → a ∈ frm b → (R a y ∧ less a y = false) ∨ more a y = true → R b y) : ∀ b y, fs b y = true → R b y := by
  refine hc (fun gs => ∀ b y, gs b y = true → R b y) h0 fun gs b a hg hb ha hm x y hy => ?_
  simp only [Prob.step] at hy
  split at hy
  · rename_i e
    subst e
    simp only [sets, un, Bool.or_eq_true, Bool.and_eq_true, Bool.not_eq_true'] at hy
    rcases hy with hy | ⟨hy, hl⟩ | hy
    · exact hg x y hy
    · exact hR x a y hb ha hm (.inl ⟨hg a y hy, hl⟩)
    · exact hR x a y hb ha hm (.inr hy)
  · exact hg x y hy
/-- What was known at first still is. -/
theorem sets_first (hc : (sets n frm first more less).Come fs) : ∀ b y, first b y = true → fs b y = true := by
  refine hc (fun gs => ∀ b y, first b y = true → gs b y = true) (fun _ _ h => h) fun gs b a hg hb ha hm x y hy => ?_
  simp only [Prob.step]
  split
  · rename_i e
    subst e
    simp [sets, un, hg x y hy]
  · exact hg x y hy
/-- With more that blocks add no fact is less. -/
theorem sets_more {more' : Nat → Nat → Bool} {gs : Nat → Nat → Bool} (h : FitS n frm first more') (hc : (sets n frm first more less).Come fs) (hc' : (sets n frm first more' less).Come gs) (hs' : (sets n frm first more' less).Still gs) (hm : ∀ a y, more a y = true → more' a y = true) : ∀ b y, fs b y = true → gs b y = true :=
  sets_least hc (fun b y => gs b y = true) (sets_first hc') fun b a y hb _ hm' hy => sets_closed h hc' hs' hb hm' (by
    rcases hy with hy | hy
    · exact .inl hy
    · exact .inr (hm a y hy))
/-- A join of what is there already changes nothing. -/
theorem sm_sub {f g : Nat → Bool} (h : ∀ y, g y = true → f y = true) : sm f (un f g) 4096 = true := by
  rw [sm_yes]
  intro y _
  cases hg : g y
  · simp [un, hg]
  · simp [un, hg, h y hg]
end

/-! ### The law's own marks: rounds of marking until nothing is to be marked -/
/-- Block a marks block b. -/
def mkd (seed keep : Nat → Bool) (o : Nat → Bool) (b a : Nat) : Nat → Bool := fun x => o x || (x == b && (seed a || (o a && keep a)))
/-- Block b, by the first of those it asks; a round over the first blocks. -/
def mkb (seed keep : Nat → Bool) (frm : Nat → List Nat) (o : Nat → Bool) (b : Nat) : Nat → Bool := (frm b).foldl (fun o a => mkd seed keep o b a) o
def mkr (seed keep : Nat → Bool) (frm : Nat → List Nat) (n : Nat) (o : Nat → Bool) : Nat → Bool := (List.range n).foldl (mkb seed keep frm) o
def mks (seed keep : Nat → Bool) (frm : Nat → List Nat) (n : Nat) : Nat → Nat → Bool
  | 0 => fun _ => false
  | r + 1 => mkr seed keep frm n (mks seed keep frm n r)
section
variable {seed keep : Nat → Bool} {frm : Nat → List Nat} {n : Nat} {o : Nat → Bool}
theorem mkd_more {b a x : Nat} (h : o x = true) : mkd seed keep o b a x = true := by simp [mkd, h]
theorem foldd_more {b : Nat} : ∀ (l : List Nat) (o : Nat → Bool) (x : Nat), o x = true → l.foldl (fun o a => mkd seed keep o b a) o x = true
  | [], _, _, h => h
  | _ :: l, _, x, h => foldd_more l _ x (mkd_more h)
theorem foldb_more : ∀ (l : List Nat) (o : Nat → Bool) (x : Nat), o x = true → l.foldl (mkb seed keep frm) o x = true
  | [], _, _, h => h
  | _ :: l, o, x, h => foldb_more l _ x (foldd_more _ o x h)
theorem foldd_step {b : Nat} : ∀ (l : List Nat) (o : Nat → Bool) (a : Nat), a ∈ l → (seed a = true ∨ (o a = true ∧ keep a = true)) → l.foldl (fun o a => mkd seed keep o b a) o b = true
  | [], _, _, h, _ => by cases h
  | c :: l, o, a, h, hs => by
    rcases List.mem_cons.1 h with e | e
    · subst e
      refine foldd_more l _ b ?_
      rcases hs with h1 | ⟨h1, h2⟩
      · simp [mkd, h1]
      · simp [mkd, h1, h2]
    · refine foldd_step l _ a e ?_
      rcases hs with h1 | ⟨h1, h2⟩
      · exact .inl h1
      · exact .inr ⟨mkd_more h1, h2⟩
theorem foldb_step : ∀ (l : List Nat) (o : Nat → Bool) (b a : Nat), b ∈ l → a ∈ frm b → (seed a = true ∨ (o a = true ∧ keep a = true)) → l.foldl (mkb seed keep frm) o b = true
  | [], _, _, _, h, _, _ => by cases h
  | c :: l, o, b, a, h, ha, hs => by
    rcases List.mem_cons.1 h with e | e
    · subst e
      exact foldb_more l _ b (foldd_step _ o a ha hs)
    · refine foldb_step l _ b a e ha ?_
      rcases hs with h1 | ⟨h1, h2⟩
      · exact .inl h1
      · exact .inr ⟨foldd_more _ o a h1, h2⟩
theorem foldd_sound {b : Nat} {P : Nat → Prop} : ∀ (l : List Nat) (o : Nat → Bool), (∀ a ∈ l, (seed a = true ∨ (P a ∧ keep a = true)) → P b) → (∀ x, o x = true → P x) → ∀ x, l.foldl (fun o a => mkd seed keep o b a) o x = true → P x
  | [], _, _, h, x, hx => h x hx
  | a :: l, o, hl, h, x, hx => foldd_sound l _ (fun c hc => hl c (by simp [hc])) (fun y hy => by
      simp only [mkd, Bool.or_eq_true, Bool.and_eq_true, beq_iff_eq] at hy
      rcases hy with e | ⟨rfl, e | ⟨e1, e2⟩⟩
      · exact h y e
      · exact hl a (by simp) (.inl e)
      · exact hl a (by simp) (.inr ⟨h a e1, e2⟩)) x hx
theorem foldb_sound {P : Nat → Prop} : ∀ (l : List Nat) (o : Nat → Bool), (∀ b ∈ l, ∀ a ∈ frm b, (seed a = true ∨ (P a ∧ keep a = true)) → P b) → (∀ x, o x = true → P x) → ∀ x, l.foldl (mkb seed keep frm) o x = true → P x
  | [], _, _, h, x, hx => h x hx
  | b :: l, o, hl, h, x, hx => foldb_sound l _ (fun c hc => hl c (by simp [hc])) (foldd_sound (frm b) o (hl b (by simp)) h) x hx
theorem mks_sound {P : Nat → Prop} (hP : ∀ b, b < n → ∀ a ∈ frm b, (seed a = true ∨ (P a ∧ keep a = true)) → P b) : ∀ (r x : Nat), mks seed keep frm n r x = true → P x
  | 0, _, h => by simp [mks] at h
  | r + 1, x, h => foldb_sound (List.range n) _ (fun b hb => hP b (List.mem_range.1 hb)) (mks_sound hP r) x h
/-- Nothing more is to be marked. -/
def Full (seed keep : Nat → Bool) (frm : Nat → List Nat) (n : Nat) (o : Nat → Bool) : Prop := ∀ b, b < n → ∀ a ∈ frm b, (seed a = true ∨ (o a = true ∧ keep a = true)) → o b = true
theorem full_stays (hf : Full seed keep frm n o) : mkr seed keep frm n o = o := by
  have hd : ∀ b, b < n → ∀ l : List Nat, (∀ a ∈ l, a ∈ frm b) → l.foldl (fun o a => mkd seed keep o b a) o = o := by
    intro b hb l
    induction l with
    | nil => intro _; rfl
    | cons a l ih =>
      intro hl
      have e : mkd seed keep o b a = o := by
        funext x
        simp only [mkd]
        by_cases hx : x = b
        · subst hx
          cases ho : o x
          · cases h1 : seed a
            · cases h2 : (o a && keep a)
              · simp
              · have := hf x hb a (hl a (by simp)) (.inr (by simpa using h2))
                rw [ho] at this
                cases this
            · have := hf x hb a (hl a (by simp)) (.inl h1)
              rw [ho] at this
              cases this
          · simp
        · simp [hx]
      rw [List.foldl_cons, e]
      exact ih fun c hc => hl c (by simp [hc])
  have hb : ∀ l : List Nat, (∀ b ∈ l, b < n) → l.foldl (mkb seed keep frm) o = o := by
    intro l
    induction l with
    | nil => intro _; rfl
    | cons b l ih =>
      intro hl
      have e : mkb seed keep frm o b = o := hd b (hl b (by simp)) (frm b) fun _ h => h
      rw [List.foldl_cons, e]
      exact ih fun c hc => hl c (by simp [hc])
  exact hb _ fun b h => List.mem_range.1 h
/-- Each round marks one more, or all is marked. -/
theorem mks_left : ∀ r : Nat, Full seed keep frm n (mks seed keep frm n r) ∨ left (mks seed keep frm n r) n + r ≤ n
  | 0 => .inr (by rw [mks, left_none]; omega)
  | r + 1 => by
    rcases mks_left r with h | h
    · left
      rw [mks, full_stays h]
      exact h
    · by_cases hf : Full seed keep frm n (mks seed keep frm n r)
      · left
        rw [mks, full_stays hf]
        exact hf
      · right
        have : ∃ b a, b < n ∧ a ∈ frm b ∧ (seed a = true ∨ (mks seed keep frm n r a = true ∧ keep a = true)) ∧ mks seed keep frm n r b = false := by
          refine Classical.byContradiction fun hno => hf fun b hb a ha hs => ?_
          cases ho : mks seed keep frm n r b
          · exact absurd ⟨b, a, hb, ha, hs, ho⟩ hno
          · rfl
        obtain ⟨b, a, hb, ha, hs, ho⟩ := this
        have := left_lt (s := mks seed keep frm n r) (t := mks seed keep frm n (r + 1)) (fun x hx => foldb_more _ _ x hx) ho (foldb_step _ _ b a (List.mem_range.2 hb) ha hs) hb
        omega
/-- After as many rounds as there are blocks nothing is to be marked. -/
theorem mks_full : Full seed keep frm n (mks seed keep frm n n) := by
  rcases mks_left (seed := seed) (keep := keep) (frm := frm) (n := n) n with h | h
  · exact h
  · intro b hb a _ _
    cases ho : mks seed keep frm n n b
    · have := left_pos ho hb
      omega
    · rfl
end
/-- The facts, asked for one number, are the law's marks. -/
theorem sets_marks {n : Nat} {frm : Nat → List Nat} {more less : Nat → Nat → Bool} {fs : Nat → Nat → Bool} (h : FitS n frm (fun _ _ => false) more) (hc : (sets n frm (fun _ _ => false) more less).Come fs) (hs : (sets n frm (fun _ _ => false) more less).Still fs) (y : Nat) :
    ∀ b, b < n → fs b y = mks (fun a => more a y) (fun a => !less a y) frm n n b := by
  intro b hb
  have h1 : fs b y = true → mks (fun a => more a y) (fun a => !less a y) frm n n b = true := by
    intro hf
    refine sets_least hc (fun b z => z = y → mks (fun a => more a y) (fun a => !less a y) frm n n b = true) (fun _ _ e => by cases e) (fun b a z hb _ hm hz e => ?_) b y hf rfl
    subst e
    refine mks_full b hb a hm ?_
    rcases hz with ⟨h1, h2⟩ | h1
    · exact .inr ⟨h1 rfl, by simp [h2]⟩
    · exact .inl h1
  have h2 : mks (fun a => more a y) (fun a => !less a y) frm n n b = true → fs b y = true := by
    refine mks_sound (P := fun b => fs b y = true) (fun b hb a ha hz => ?_) n b
    refine sets_closed h hc hs hb ha ?_
    rcases hz with h1 | ⟨h1, h2⟩
    · exact .inr h1
    · exact .inl ⟨h1, by simpa using h2⟩
  cases hf : fs b y
  · cases hm : mks (fun a => more a y) (fun a => !less a y) frm n n b
    · rfl
    · rw [h2 hm] at hf
      cases hf
  · exact (h1 hf).symm

/-! ### Least numbers of steps -/
/-- Facts that fall: no more than 99. -/
def least (n : Nat) (frm : Nat → List Nat) : Prob Nat :=
  ⟨n, frm, fun b => if b = 0 then 0 else 99, fun f g => min f g, fun f g => decide (min f g < f), fun _ f => min (f + 1) 99⟩
section
variable {n : Nat} {frm : Nat → List Nat} {nx : Nat → List Nat} {d : Nat → Nat}
theorem least_ok (hl : ∀ b, b < n → ∀ a ∈ frm b, a < n) : (least n frm).Ok fun fs => sum n fs := by
  refine ⟨hl, fun fs b a _ hb _ _ hd => ?_, fun fs b a _ hb _ _ hd => ?_⟩
  · simp only [Prob.does, least, decide_eq_true_eq] at hd
    refine sum_lt (b := b) (fun x _ => ?_) hb ?_
    · simp only [Prob.step, least]
      split
      · rename_i e; subst e; omega
      · exact Nat.le_refl _
    · simp only [Prob.step, least, if_true]
      exact hd
  · simp only [Prob.does, least, decide_eq_false_iff_not] at hd
    funext x
    simp only [Prob.step, least]
    split
    · rename_i e; subst e; omega
    · rfl
theorem least_99 (hc : (least n frm).Come d) : ∀ b, d b ≤ 99 := by
  refine hc (fun gs => ∀ b, gs b ≤ 99) (fun b => ?_) fun gs b a hg hb ha hm x => ?_
  · simp only [least]
    split <;> omega
  · simp only [Prob.step, least]
    split
    · have := hg b
      omega
    · exact hg x
theorem least_zero (hc : (least n frm).Come d) : d 0 = 0 := by
  refine hc (fun gs => gs 0 = 0) (by simp [least]) fun gs b a hg hb ha hm => ?_
  simp only [Prob.step, least]
  split
  · rename_i e
    subst e
    omega
  · exact hg
/-- What is told is the number of steps of some way. -/
theorem least_way (hf : ∀ b a, a ∈ frm b → b ∈ nx a) (hc : (least n frm).Come d) : ∀ b, d b < 99 → Rk nx (d b) 0 b := by
  refine hc (fun gs => ∀ b, gs b < 99 → Rk nx (gs b) 0 b) (fun b h => ?_) fun gs b a hg hb ha hm x hx => ?_
  · simp only [least] at h ⊢
    split at h
    · rename_i e
      subst e
      rw [if_pos rfl]
      rfl
    · omega
  · simp only [Prob.step, least] at hx ⊢
    split
    · rename_i e
      subst e
      rw [if_pos rfl] at hx
      by_cases h1 : gs x ≤ min (gs a + 1) 99
      · rw [Nat.min_eq_left h1] at hx ⊢
        exact hg x hx
      · have h2 : min (gs x) (min (gs a + 1) 99) = gs a + 1 := by omega
        rw [h2] at hx ⊢
        exact ⟨a, hg a (by omega), hf x a hm⟩
    · rename_i e
      rw [if_neg e] at hx
      exact hg x hx
/-- No way has fewer. -/
theorem least_least (hnx : ∀ x, x < n → ∀ c ∈ nx x, c < n) (h0 : 0 < n) (hf : ∀ b a, a < n → b ∈ nx a → a ∈ frm b) (hc : (least n frm).Come d) (hs : (least n frm).Still d) : ∀ (k b : Nat), Rk nx k 0 b → b < n ∧ d b ≤ k
  | 0, b, h => by
    have : b = 0 := h.symm
    subst this
    exact ⟨h0, by rw [least_zero hc]; exact Nat.le_refl _⟩
  | k + 1, b, h => by
    obtain ⟨c, h1, h2⟩ := h
    obtain ⟨h3, h4⟩ := least_least hnx h0 hf hc hs k c h1
    have hb := hnx c h3 b h2
    refine ⟨hb, ?_⟩
    have := hs b hb c (hf b c h3 h2)
    simp only [Prob.does, least, decide_eq_false_iff_not] at this
    omega
end
/-- One more that follows, if it wasn't seen; all that follow a row. -/
def put (seen next : List Nat) (x : Nat) : List Nat := if x ∈ seen ++ next then next else next ++ [x]
def puts (seen : List Nat) (xs : List Nat) : List Nat := xs.foldl (put seen) []
theorem puts_snoc (seen xs : List Nat) (x : Nat) : puts seen (xs ++ [x]) = put seen (puts seen xs) x := by simp [puts, List.foldl_append]
theorem fold_mem (seen : List Nat) : ∀ (xs next : List Nat), next.Nodup → (∀ y ∈ next, y ∉ seen) → (xs.foldl (put seen) next).Nodup ∧ (∀ y, y ∈ xs.foldl (put seen) next ↔ y ∈ next ∨ (y ∈ xs ∧ y ∉ seen)) ∧ ∀ y ∈ xs.foldl (put seen) next, y ∉ seen
  | [], next, h1, h2 => ⟨h1, fun y => by simp, h2⟩
  | x :: xs, next, h1, h2 => by
    rw [List.foldl_cons]
    by_cases hx : x ∈ seen ++ next
    · rw [put, if_pos hx]
      obtain ⟨q1, q2, q3⟩ := fold_mem seen xs next h1 h2
      refine ⟨q1, fun y => ?_, q3⟩
      rw [q2 y]
      constructor
      · rintro (h | ⟨h, k⟩)
        · exact .inl h
        · exact .inr ⟨by simp [h], k⟩
      · rintro (h | ⟨h, k⟩)
        · exact .inl h
        · rcases List.mem_cons.1 h with e | e
          · subst e
            rcases List.mem_append.1 hx with h' | h'
            · exact absurd h' k
            · exact .inl h'
          · exact .inr ⟨e, k⟩
    · rw [put, if_neg hx]
      have hx1 : x ∉ seen := fun h => hx (List.mem_append.2 (.inl h))
      have hx2 : x ∉ next := fun h => hx (List.mem_append.2 (.inr h))
      obtain ⟨q1, q2, q3⟩ := fold_mem seen xs (next ++ [x]) (by
        rw [List.nodup_append]
        refine ⟨h1, by simp, ?_⟩
        intro a ha b hb
        simp at hb
        subst hb
        intro e
        subst e
        exact hx2 ha) (fun y hy => by
        rcases List.mem_append.1 hy with h | h
        · exact h2 y h
        · simp at h; subst h; exact hx1)
      refine ⟨q1, fun y => ?_, q3⟩
      rw [q2 y]
      constructor
      · rintro (h | ⟨h, k⟩)
        · rcases List.mem_append.1 h with h | h
          · exact .inl h
          · simp at h; subst h; exact .inr ⟨by simp, hx1⟩
        · exact .inr ⟨by simp [h], k⟩
      · rintro (h | ⟨h, k⟩)
        · exact .inl (by simp [h])
        · rcases List.mem_cons.1 h with e | e
          · subst e; exact .inl (by simp)
          · exact .inr ⟨e, k⟩
theorem puts_mem (seen xs : List Nat) : (puts seen xs).Nodup ∧ (∀ y, y ∈ puts seen xs ↔ y ∈ xs ∧ y ∉ seen) := by
  obtain ⟨h1, h2, _⟩ := fold_mem seen xs [] (by simp) (by simp)
  exact ⟨h1, fun y => by rw [puts, h2 y]; simp⟩
/-- What the law holds behind k rounds: those seen are come to in at most k steps, those in the row in k and no fewer. -/
structure Bf (nx : Nat → List Nat) (n k : Nat) (row seen : List Nat) : Prop where
  seenI : ∀ x, x ∈ seen ↔ ∃ j, j ≤ k ∧ Rk nx j 0 x
  rowI : ∀ x, x ∈ row ↔ Rk nx k 0 x ∧ ∀ j, j < k → ¬ Rk nx j 0 x
  nodup : seen.Nodup
  lt : ∀ x ∈ seen, x < n
  long : row ≠ [] → k + 1 ≤ seen.length
section
variable {nx : Nat → List Nat} {n k : Nat} {row seen : List Nat}
theorem nodup_len {l : List Nat} (h : l.Nodup) (hl : ∀ x ∈ l, x < n) : l.length ≤ n := by
  have := List.Nodup.length_le_of_subset h (l₂ := List.range n) fun x hx => List.mem_range.2 (hl x hx)
  simpa using this
theorem Bf.start (nx : Nat → List Nat) (h0 : 0 < n) : Bf nx n 0 [0] [0] := by
  refine ⟨fun x => ?_, fun x => ?_, by simp, fun x hx => ?_, fun _ => by simp⟩
  · constructor
    · intro h
      simp at h
      subst h
      exact ⟨0, Nat.le_refl _, rfl⟩
    · rintro ⟨j, hj, h⟩
      obtain rfl : j = 0 := by omega
      have : x = 0 := h.symm
      simp [this]
  · constructor
    · intro h
      simp at h
      subst h
      exact ⟨rfl, fun j hj => by omega⟩
    · rintro ⟨h, _⟩
      have : x = 0 := h.symm
      simp [this]
  · simp at hx
    subst hx
    exact h0
theorem Bf.next (h : Bf nx n k row seen) (hnx : ∀ x, x < n → ∀ c ∈ nx x, c < n) : Bf nx n (k + 1) (puts seen (row.flatMap nx)) (seen ++ puts seen (row.flatMap nx)) := by
  obtain ⟨p1, p2⟩ := puts_mem seen (row.flatMap nx)
  have hrow : ∀ x, x ∈ puts seen (row.flatMap nx) ↔ Rk nx (k + 1) 0 x ∧ ∀ j, j < k + 1 → ¬ Rk nx j 0 x := by
    intro x
    rw [p2 x, List.mem_flatMap]
    constructor
    · rintro ⟨⟨b, hb, hx⟩, hs⟩
      refine ⟨⟨b, ((h.rowI b).1 hb).1, hx⟩, fun j hj hr => hs ((h.seenI x).2 ⟨j, by omega, hr⟩)⟩
    · rintro ⟨⟨b, hb, hx⟩, hno⟩
      have hns : x ∉ seen := fun hs => by
        obtain ⟨j, hj, hr⟩ := (h.seenI x).1 hs
        exact hno j (by omega) hr
      refine ⟨⟨b, (h.rowI b).2 ⟨hb, fun j hj hr => hno (j + 1) (by omega) ⟨b, hr, hx⟩⟩, hx⟩, hns⟩
  have hseen : ∀ x, x ∈ seen ++ puts seen (row.flatMap nx) ↔ ∃ j, j ≤ k + 1 ∧ Rk nx j 0 x := by
    intro x
    rw [List.mem_append, h.seenI x, hrow x]
    constructor
    · rintro (⟨j, hj, hr⟩ | ⟨hr, _⟩)
      · exact ⟨j, by omega, hr⟩
      · exact ⟨k + 1, Nat.le_refl _, hr⟩
    · rintro ⟨j, hj, hr⟩
      by_cases e : ∃ i, i ≤ k ∧ Rk nx i 0 x
      · exact .inl e
      · obtain rfl : j = k + 1 := by
          refine Classical.byContradiction fun hne => e ⟨j, by omega, hr⟩
        exact .inr ⟨hr, fun i hi hri => e ⟨i, by omega, hri⟩⟩
  refine ⟨hseen, hrow, ?_, fun x hx => ?_, fun hne => ?_⟩
  · rw [List.nodup_append]
    refine ⟨h.nodup, p1, ?_⟩
    intro a ha b hb e
    subst e
    exact ((p2 a).1 hb).2 ha
  · rcases List.mem_append.1 hx with hx | hx
    · exact h.lt x hx
    · obtain ⟨b, hb, hx⟩ := List.mem_flatMap.1 ((p2 x).1 hx).1
      exact hnx b (h.lt b ((h.seenI b).2 ⟨k, Nat.le_refl _, ((h.rowI b).1 hb).1⟩)) x hx
  · rw [List.length_append]
    have h1 : row ≠ [] := by
      intro e
      subst e
      exact hne rfl
    have h2 : 0 < (puts seen (row.flatMap nx)).length := List.length_pos_iff.2 hne
    have := h.long h1
    omega
/-- Where nothing is left in the row all that is come to was seen. -/
theorem Bf.done (h : Bf nx n k [] seen) : ∀ (j x : Nat), Rk nx j 0 x → x ∈ seen
  | 0, x, hx => (h.seenI x).2 ⟨0, Nat.zero_le _, hx⟩
  | j + 1, x, ⟨c, h1, h2⟩ => by
    refine Classical.byContradiction fun hno => ?_
    have hc := Bf.done h j c h1
    obtain ⟨i, hi, hr⟩ := (h.seenI c).1 hc
    have hik : i = k := by
      refine Classical.byContradiction fun hne => hno ((h.seenI x).2 ⟨i + 1, by omega, ⟨c, hr, h2⟩⟩)
    subst hik
    have : c ∈ ([] : List Nat) := (h.rowI c).2 ⟨hr, fun l hl hrl => hno ((h.seenI x).2 ⟨l + 1, by omega, ⟨c, hrl, h2⟩⟩)⟩
    cases this
/-- Those in the row are told as k. -/
theorem Bf.told {frm : Nat → List Nat} {d : Nat → Nat} (h : Bf nx n k row seen) (hn : n ≤ 99) (hnx : ∀ x, x < n → ∀ c ∈ nx x, c < n) (h0 : 0 < n) (hf : ∀ b a, a < n → (a ∈ frm b ↔ b ∈ nx a)) (hl : ∀ b a, a ∈ frm b → a < n) (hc : (least n frm).Come d) (hs : (least n frm).Still d) : ∀ b ∈ row, d b = k := by
  intro b hb
  obtain ⟨h1, h2⟩ := (h.rowI b).1 hb
  have hle := (least_least hnx h0 (fun b a ha hm => (hf b a ha).2 hm) hc hs k b h1).2
  have hk := h.long (fun e => by subst e; cases hb)
  have := nodup_len h.nodup h.lt
  have hw := least_way (nx := nx) (fun b a hm => (hf b a (hl b a hm)).1 hm) hc b (by omega)
  refine Nat.le_antisymm hle ?_
  refine Classical.byContradiction fun hno => h2 (d b) (by omega) hw
/-- Those that were never seen stay at 99. -/
theorem Bf.other {frm : Nat → List Nat} {d : Nat → Nat} (h : Bf nx n k [] seen) (hf : ∀ b a, a ∈ frm b → b ∈ nx a) (hc : (least n frm).Come d) : ∀ b, b ∉ seen → d b = 99 := by
  intro b hb
  have := least_99 hc b
  refine Classical.byContradiction fun hno => hb (h.done (d b) b (least_way hf hc b (by omega)))
end
end Fl
end Go.Proofs.Ytblcbccchlljhaa
namespace Go.Proofs.Ytblcbccchlljhaa.Fl
open Wy
section
variable {α : Type} {p : Prob α} {m : (Nat → α) → Nat} {b i : Nat} {fs0 fs : Nat → α} {ch : Bool}
/-- A sweep over the first i of those from which block b's facts come. -/
structure Swp (p : Prob α) (m : (Nat → α) → Nat) (b : Nat) (fs0 fs : Nat → α) (i : Nat) (ch : Bool) : Prop where
  come : p.Come fs
  other : ∀ x, x ≠ b → fs x = fs0 x
  no : ch = false → fs = fs0 ∧ ∀ a ∈ (p.frm b).take i, p.does fs0 b a = false
  yes : ch = true → m fs < m fs0
theorem Swp.start (hc : p.Come fs0) : Swp p m b fs0 fs0 0 false := ⟨hc, fun _ _ => rfl, fun _ => ⟨rfl, fun a h => by simp at h⟩, fun h => by cases h⟩
theorem Swp.step (h : Swp p m b fs0 fs i ch) (ok : p.Ok m) (hb : b < p.n) {a : Nat} (hi : (p.frm b)[i]? = some a) : Swp p m b fs0 (p.step fs b a) (i + 1) (ch || p.does fs b a) := by
  have hm : a ∈ p.frm b := List.mem_of_getElem? hi
  have ha := ok.frm_lt b hb a hm
  have hlt := (List.getElem?_eq_some_iff.1 hi).1
  refine ⟨h.come.step hb ha hm, fun x hx => ?_, fun hno => ?_, fun hyes => ?_⟩
  · simp only [Prob.step, if_neg hx]
    exact h.other x hx
  · simp only [Bool.or_eq_false_iff] at hno
    obtain ⟨e, hall⟩ := h.no hno.1
    refine ⟨(ok.stay fs b a h.come hb ha hm hno.2).trans e, fun c hc => ?_⟩
    rw [List.take_succ_eq_append_getElem hlt] at hc
    rcases List.mem_append.1 hc with q | q
    · exact hall c q
    · simp only [List.mem_singleton] at q
      have : c = a := by
        rw [q]
        exact (List.getElem?_eq_some_iff.1 hi).2
      rw [this, ← e]
      exact hno.2
  · cases hd : p.does fs b a
    · rw [ok.stay fs b a h.come hb ha hm hd]
      exact h.yes (by simpa [hd] using hyes)
    · have h1 := ok.less fs b a h.come hb ha hm hd
      cases hch : ch
      · rw [(h.no hch).1] at h1 ⊢
        exact h1
      · exact Nat.lt_trans h1 (h.yes hch)
/-- All but those in the row are settled. -/
def Settled (p : Prob α) (fs : Nat → α) (q : List Nat) : Prop := ∀ x, x < p.n → ¬ x ∈ q → ∀ a ∈ p.frm x, p.does fs x a = false
theorem Settled.still (h : Settled p fs []) : p.Still fs := fun b hb a ha => h b hb (by simp) a ha
theorem Settled.start (p : Prob α) (fs : Nat → α) {q : List Nat} (hq : ∀ x, x < p.n → x ∈ q) : Settled p fs q := fun x hx hn => absurd (hq x hx) hn
/-- The first one is settled. -/
theorem Settled.no {x : Nat} {q : List Nat} (h : Settled p fs0 (x :: q)) (hs : Swp p m x fs0 fs (p.frm x).length false) : Settled p fs q := by
  obtain ⟨rfl, hall⟩ := hs.no rfl
  intro y hy hn a ha
  by_cases e : y = x
  · subst e
    exact hall a (by rw [List.take_length]; exact ha)
  · exact h y hy (by simp [e, hn]) a ha
/-- The first one has changed: it and all that its facts go to come into the row. -/
theorem Settled.yes {x : Nat} {q q' : List Nat} (h : Settled p fs0 (x :: q)) (hs : Swp p m x fs0 fs (p.frm x).length true) (hx : x ∈ q') (hsub : ∀ y ∈ q, y ∈ q') (hto : ∀ y, y < p.n → x ∈ p.frm y → y ∈ q') : Settled p fs q' := by
  intro y hy hn a ha
  have hyx : y ≠ x := fun e => hn (by rw [e]; exact hx)
  have hax : a ≠ x := fun e => hn (hto y hy (by rw [← e]; exact ha))
  have := h y hy (by
    intro hm
    rcases List.mem_cons.1 hm with e | e
    · exact hyx e
    · exact hn (hsub y e)) a ha
  unfold Prob.does at this ⊢
  rw [hs.other y hyx, hs.other a hax]
  exact this
end
/-- The least of the numbers that fit. -/
theorem least_ex {R : Nat → Prop} (h : ∃ M, R M) : ∃ M, R M ∧ ∀ M', R M' → M ≤ M' := by
  obtain ⟨M, hM⟩ := h
  induction M using Nat.strongRecOn with
  | ind M ih =>
    by_cases e : ∃ M', M' < M ∧ R M'
    · obtain ⟨M', h1, h2⟩ := e
      exact ih M' h1 h2
    · refine ⟨M, hM, fun M' h' => ?_⟩
      refine Classical.byContradiction fun hn => e ⟨M', by omega, h'⟩
open Classical in
noncomputable def mu (R : Nat → Prop) : Nat := if h : ∃ M, R M ∧ ∀ M', R M' → M ≤ M' then Classical.choose h else 0
theorem mu_at {R : Nat → Prop} (h : ∃ M, R M) : R (mu R) := by
  have h' := least_ex h
  unfold mu
  rw [dif_pos h']
  exact (Classical.choose_spec h').1
theorem mu_le {R : Nat → Prop} {M : Nat} (h : R M) : mu R ≤ M := by
  have h' := least_ex ⟨M, h⟩
  unfold mu
  rw [dif_pos h']
  exact (Classical.choose_spec h').2 M h
end Go.Proofs.Ytblcbccchlljhaa.Fl
