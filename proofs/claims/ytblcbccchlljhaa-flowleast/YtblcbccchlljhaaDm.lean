/- Plain mathematics of ways through blocks: what is come to, the order of going down. -/
import Derived.ProofKit
namespace Go.Proofs.Ytblcbccchlljhaa
namespace Wy
/-- With b, too. -/
def mk (seen : Nat → Bool) (b : Nat) : Nat → Bool := fun x => seen x || x == b
/-- Going down from b, f deep at most: what follows b first, each that was not gone down from; then b is next in the row. -/
def dn (nx : Nat → List Nat) : Nat → Nat → List Nat × (Nat → Bool) → List Nat × (Nat → Bool)
  | 0, _, s => s
  | f + 1, b, s =>
    let t := (nx b).foldl (fun s c => if s.2 c then s else dn nx f c s) (s.1, mk s.2 b)
    (t.1 ++ [b], t.2)
/-- How many below n are not marked. -/
def left (seen : Nat → Bool) (n : Nat) : Nat := ((List.range n).filter fun x => !seen x).length
theorem left_le {s t : Nat → Bool} (h : ∀ x, s x = true → t x = true) (n : Nat) : left t n ≤ left s n := by
  unfold left
  induction n with
  | zero => simp
  | succ n ih =>
    simp only [List.range_succ, List.filter_append, List.length_append, List.filter_cons, List.filter_nil]
    cases hs : s n
    · cases t n <;> simp <;> omega
    · simp [h n hs]; omega
theorem left_lt {s t : Nat → Bool} {b : Nat} (h : ∀ x, s x = true → t x = true) (hs : s b = false) (ht : t b = true) {n : Nat} (hb : b < n) : left t n + 1 ≤ left s n := by
  unfold left
  induction n with
  | zero => omega
  | succ n ih =>
    simp only [List.range_succ, List.filter_append, List.length_append, List.filter_cons, List.filter_nil]
    by_cases e : b = n
    · subst e
      have := left_le h b
      unfold left at this
      simp [hs, ht]
      omega
    · have := ih (by omega)
      cases hs' : s n
      · cases t n <;> simp <;> omega
      · simp [h n hs']; omega
theorem left_pos {s : Nat → Bool} {b n : Nat} (hs : s b = false) (hb : b < n) : 0 < left s n := by
  have := left_lt (s := s) (t := fun _ => true) (fun _ _ => rfl) hs rfl hb
  omega
/-- What going down from cs has done: the row has grown by 'new'. -/
structure Vs (nx : Nat → List Nat) (n : Nat) (cs : List Nat) (s t : List Nat × (Nat → Bool)) (new : List Nat) : Prop where
  row : t.1 = s.1 ++ new
  seen : ∀ x, t.2 x = true ↔ s.2 x = true ∨ x ∈ new
  nodup : new.Nodup
  fresh : ∀ x ∈ new, s.2 x = false ∧ x < n
  closed : ∀ x ∈ new, ∀ c ∈ nx x, t.2 c = true
  all : ∀ c ∈ cs, t.2 c = true
  pred : ∀ p x q, new = p ++ x :: q → x ∈ cs ∨ ∃ a ∈ q, x ∈ nx a
theorem Vs.mono {nx : Nat → List Nat} {n : Nat} {cs new : List Nat} {s t : List Nat × (Nat → Bool)} (h : Vs nx n cs s t new) : ∀ x, s.2 x = true → t.2 x = true := fun x e => (h.seen x).2 (.inl e)
theorem Vs.nil {nx : Nat → List Nat} {n : Nat} (s : List Nat × (Nat → Bool)) : Vs nx n [] s s [] :=
  ⟨by simp, by simp, by simp, by simp, by simp, by simp, fun p x q e => by simp at e⟩
/-- One that was gone down from already. -/
theorem Vs.skip {nx : Nat → List Nat} {n c : Nat} {cs new : List Nat} {s t : List Nat × (Nat → Bool)} (hc : s.2 c = true) (h : Vs nx n cs s t new) : Vs nx n (c :: cs) s t new :=
  ⟨h.row, h.seen, h.nodup, h.fresh, h.closed, fun x hx => by
    rcases List.mem_cons.1 hx with e | e
    · rw [e]; exact h.mono c hc
    · exact h.all x e, fun p x q e => by
    rcases h.pred p x q e with q1 | q1
    · exact .inl (List.mem_cons_of_mem _ q1)
    · exact .inr q1⟩
/-- One, then others. -/
theorem Vs.then {nx : Nat → List Nat} {n c : Nat} {cs n1 n2 : List Nat} {s t u : List Nat × (Nat → Bool)} (h : Vs nx n [c] s t n1) (k : Vs nx n cs t u n2) : Vs nx n (c :: cs) s u (n1 ++ n2) := by
  refine ⟨by rw [k.row, h.row, List.append_assoc], fun x => ?_, ?_, fun x hx => ?_, fun x hx c' hc => ?_, fun x hx => ?_, fun p x q e => ?_⟩
  · rw [k.seen x, h.seen x, List.mem_append, or_assoc]
  · refine List.nodup_append.2 ⟨h.nodup, k.nodup, fun a ha b hb e => ?_⟩
    have := (k.fresh b hb).1
    rw [← e, (h.seen a).2 (.inr ha)] at this
    cases this
  · rcases List.mem_append.1 hx with e | e
    · exact h.fresh x e
    · refine ⟨?_, (k.fresh x e).2⟩
      cases hs : s.2 x
      · rfl
      · have := (k.fresh x e).1
        rw [h.mono x hs] at this
        cases this
  · rcases List.mem_append.1 hx with e | e
    · exact k.mono c' (h.closed x e c' hc)
    · exact k.closed x e c' hc
  · rcases List.mem_cons.1 hx with e | e
    · exact k.mono x (h.all x (by simp [e]))
    · exact k.all x e
  · rcases List.append_eq_append_iff.1 e with ⟨a', e1, e2⟩ | ⟨c', e1, e2⟩
    · rcases k.pred a' x q e2 with q1 | q1
      · exact .inl (List.mem_cons_of_mem _ q1)
      · exact .inr q1
    · cases c' with
      | nil =>
        simp at e2
        rcases k.pred [] x q (by simpa using e2.symm) with q1 | q1
        · exact .inl (List.mem_cons_of_mem _ q1)
        · exact .inr q1
      | cons y r =>
        simp at e2
        obtain ⟨rfl, rfl⟩ := e2
        rcases h.pred p x r e1 with q1 | ⟨a, q1, q2⟩
        · exact .inl (by simp at q1; simp [q1])
        · exact .inr ⟨a, by simp [q1], q2⟩
theorem fold_vs {nx : Nat → List Nat} {n f : Nat} (ih : ∀ b s, b < n → s.2 b = false → left s.2 n ≤ f → ∃ new, Vs nx n [b] s (dn nx f b s) (new ++ [b])) :
    ∀ (cs : List Nat) (s : List Nat × (Nat → Bool)), (∀ c ∈ cs, c < n) → left s.2 n ≤ f → ∃ new, Vs nx n cs s (cs.foldl (fun s c => if s.2 c then s else dn nx f c s) s) new
  | [], s, _, _ => ⟨[], Vs.nil s⟩
  | c :: cs, s, hn, hl => by
    rw [List.foldl_cons]
    cases hc : s.2 c
    · obtain ⟨n1, h1⟩ := ih c s (hn c (by simp)) hc hl
      obtain ⟨n2, h2⟩ := fold_vs ih cs (dn nx f c s) (fun x hx => hn x (by simp [hx])) (Nat.le_trans (left_le h1.mono n) hl)
      rw [if_neg (by simp)]
      exact ⟨n1 ++ [c] ++ n2, h1.then h2⟩
    · obtain ⟨n2, h2⟩ := fold_vs ih cs s (fun x hx => hn x (by simp [hx])) hl
      rw [if_pos rfl]
      exact ⟨n2, h2.skip hc⟩
/-- Going down from b, deep enough. -/
theorem dn_vs {nx : Nat → List Nat} {n : Nat} (hnx : ∀ x, x < n → ∀ c ∈ nx x, c < n) : ∀ (f b : Nat) (s : List Nat × (Nat → Bool)), b < n → s.2 b = false → left s.2 n ≤ f → ∃ new, Vs nx n [b] s (dn nx f b s) (new ++ [b])
  | 0, b, s, hb, hs, hl => by have := left_pos hs hb; omega
  | f + 1, b, s, hb, hs, hl => by
    have hm : ∀ x, mk s.2 b x = true ↔ s.2 x = true ∨ x = b := fun x => by simp [mk]
    have hl' : left (mk s.2 b) n ≤ f := by
      have := left_lt (s := s.2) (t := mk s.2 b) (fun x e => (hm x).2 (.inl e)) hs ((hm b).2 (.inr rfl)) hb
      omega
    obtain ⟨new, h⟩ := fold_vs (dn_vs hnx f) (nx b) (s.1, mk s.2 b) (fun c hc => hnx b hb c hc) hl'
    have hbn : ¬ b ∈ new := fun e => by
      have : mk s.2 b b = false := (h.fresh b e).1
      rw [(hm b).2 (.inr rfl)] at this
      cases this
    refine ⟨new, ⟨by simp only [dn]; rw [h.row, List.append_assoc], fun x => ?_, ?_, fun x hx => ?_, fun x hx c hc => ?_, fun c hc => ?_, fun p x q e => ?_⟩⟩
    · simp only [dn]
      rw [h.seen x, hm x]
      simp only [List.mem_append, List.mem_singleton]
      constructor
      · rintro ((e | e) | e)
        · exact .inl e
        · exact .inr (.inr e)
        · exact .inr (.inl e)
      · rintro (e | e | e)
        · exact .inl (.inl e)
        · exact .inr e
        · exact .inl (.inr e)
    · exact List.nodup_append.2 ⟨h.nodup, by simp, fun a ha c hc e => hbn (by simp at hc; rw [← hc, ← e]; exact ha)⟩
    · rcases List.mem_append.1 hx with e | e
      · refine ⟨?_, (h.fresh x e).2⟩
        cases hx' : s.2 x
        · rfl
        · have : mk s.2 b x = false := (h.fresh x e).1
          rw [(hm x).2 (.inl hx')] at this
          cases this
      · simp at e
        subst e
        exact ⟨hs, hb⟩
    · simp only [dn]
      rcases List.mem_append.1 hx with e | e
      · exact h.closed x e c hc
      · simp at e
        subst e
        exact h.all c hc
    · simp at hc
      subst hc
      simp only [dn]
      exact h.mono _ ((hm _).2 (.inr rfl))
    · rcases List.eq_nil_or_concat q with rfl | ⟨r, y, rfl⟩
      · have := congrArg List.reverse e
        simp at this
        exact .inl (by simp [this.1])
      · have e2 : new ++ [b] = (p ++ x :: r) ++ [y] := by simpa using e
        have e3 := List.append_inj' e2 rfl
        obtain ⟨e4, e5⟩ := e3
        simp at e5
        subst e5
        rcases h.pred p x r e4 with q1 | ⟨a, q1, q2⟩
        · exact .inr ⟨b, by simp, q1⟩
        · exact .inr ⟨a, by simp [q1], q2⟩
/-- b is come to from a in k steps. -/
def Rk (nx : Nat → List Nat) : Nat → Nat → Nat → Prop
  | 0, a, b => a = b
  | k + 1, a, b => ∃ c, Rk nx k a c ∧ b ∈ nx c
/-- b is come to from a. -/
def Rch (nx : Nat → List Nat) (a b : Nat) : Prop := ∃ k, Rk nx k a b
theorem Rch.refl (nx : Nat → List Nat) (a : Nat) : Rch nx a a := ⟨0, rfl⟩
theorem Rch.next {nx : Nat → List Nat} {a b c : Nat} (h : Rch nx a b) (hc : c ∈ nx b) : Rch nx a c := by
  obtain ⟨k, h⟩ := h
  exact ⟨k + 1, b, h, hc⟩
theorem Rch.ind {nx : Nat → List Nat} {a : Nat} {p : Nat → Prop} (h0 : p a) (h1 : ∀ b c, p b → c ∈ nx b → p c) {b : Nat} (h : Rch nx a b) : p b := by
  obtain ⟨k, h⟩ := h
  induction k generalizing b with
  | zero => cases h; exact h0
  | succ k ih =>
    obtain ⟨c, h2, h3⟩ := h
    exact h1 c b (ih h2) h3
theorem Rch.lt {nx : Nat → List Nat} {n a b : Nat} (hnx : ∀ x, x < n → ∀ c ∈ nx x, c < n) (ha : a < n) (h : Rch nx a b) : b < n := h.ind (p := fun x => x < n) ha fun b c hb hc => hnx b hb c hc
/-- The document's row, and its order. -/
def rowD (nx : Nat → List Nat) (n : Nat) : List Nat := (dn nx n 0 ([], fun _ => false)).1
def ordD (nx : Nat → List Nat) (n : Nat) : List Nat := (rowD nx n).reverse
theorem left_none (n : Nat) : left (fun _ => false) n = n := by
  have : (List.range n).filter (fun x => !(fun _ => false : Nat → Bool) x) = List.range n := List.filter_eq_self.2 (fun _ _ => rfl)
  unfold left
  rw [this, List.length_range]
/-- What the order holds: what is come to, each once, block 0 first, each other one behind one that it follows. -/
structure OrdOk (nx : Nat → List Nat) (l : List Nat) : Prop where
  nodup : l.Nodup
  mem : ∀ x, x ∈ l ↔ Rch nx 0 x
  first : ∃ r, l = 0 :: r
  led : ∀ p x q, l = p ++ x :: q → p = [] ∧ x = 0 ∨ ∃ a ∈ p, x ∈ nx a
theorem ord_ok {nx : Nat → List Nat} {n : Nat} (hnx : ∀ x, x < n → ∀ c ∈ nx x, c < n) (h0 : 0 < n) : OrdOk nx (ordD nx n) := by
  obtain ⟨new, h⟩ := dn_vs hnx n 0 ([], fun _ => false) h0 rfl (by rw [left_none]; exact Nat.le_refl n)
  have hrow : rowD nx n = new ++ [0] := by unfold rowD; rw [h.row]; simp
  have hz : ∀ x, (dn nx n 0 ([], fun _ => false)).2 x = true ↔ x ∈ new ++ [0] := fun x => by rw [h.seen x]; simp
  have sound : ∀ (k : Nat) (p q : List Nat) (x : Nat), q.length = k → new ++ [0] = p ++ x :: q → Rch nx 0 x := by
    intro k
    induction k using Nat.strongRecOn with
    | _ k ih =>
      intro p q x hk e
      rcases h.pred p x q e with q1 | ⟨a, q1, q2⟩
      · simp at q1
        subst q1
        exact Rch.refl nx 0
      · obtain ⟨q3, q4, rfl⟩ := List.append_of_mem q1
        exact (ih q4.length (by rw [← hk]; simp; omega) (p ++ x :: q3) q4 a rfl (by rw [e]; simp)).next q2
  have hord : ordD nx n = 0 :: new.reverse := by unfold ordD; rw [hrow]; simp
  refine ⟨?_, fun x => ?_, ⟨_, hord⟩, fun p x q e => ?_⟩
  · unfold ordD
    rw [hrow]
    exact (List.reverse_perm _).nodup_iff.2 h.nodup
  · unfold ordD
    rw [List.mem_reverse, hrow]
    constructor
    · intro hx
      obtain ⟨p, q, e⟩ := List.append_of_mem hx
      exact sound q.length p q x rfl e
    · intro hx
      exact hx.ind (p := fun x => x ∈ new ++ [0]) (by simp) fun b c hb hc => (hz c).1 (h.closed b hb c hc)
  · have e2 : new ++ [0] = q.reverse ++ x :: p.reverse := by
      have := congrArg List.reverse (show (rowD nx n).reverse = p ++ x :: q from e)
      rw [List.reverse_reverse, hrow] at this
      simpa using this
    rcases h.pred _ x _ e2 with q1 | ⟨a, q1, q2⟩
    · simp at q1
      subst q1
      left
      rw [hord] at e
      cases p with
      | nil => exact ⟨rfl, rfl⟩
      | cons y r =>
        simp at e
        obtain ⟨rfl, e⟩ := e
        have hn := h.nodup
        have : (0 : Nat) ∈ new := by rw [← List.mem_reverse, e]; simp
        exact absurd rfl ((List.nodup_append.1 hn).2.2 0 this 0 (by simp))
    · exact .inr ⟨a, by simpa using q1, q2⟩
/-- One block's followers marked, if it is come to. -/
def stepR (nx : Nat → List Nat) (o : Nat → Bool) (b : Nat) : Nat → Bool := fun x => o x || (o b && (nx b).contains x)
/-- A round over all blocks. -/
def rnd (nx : Nat → List Nat) (n : Nat) (o : Nat → Bool) : Nat → Bool := (List.range n).foldl (stepR nx) o
/-- The document's rounds. -/
def rnds (nx : Nat → List Nat) (n : Nat) : Nat → (Nat → Bool) → Nat → Bool
  | 0, o => o
  | r + 1, o => rnds nx n r (rnd nx n o)
theorem step_more (nx : Nat → List Nat) (o : Nat → Bool) (b x : Nat) (h : o x = true) : stepR nx o b x = true := by simp [stepR, h]
theorem fold_more (nx : Nat → List Nat) : ∀ (l : List Nat) (o : Nat → Bool) (x : Nat), o x = true → l.foldl (stepR nx) o x = true
  | [], _, _, h => h
  | b :: l, o, x, h => fold_more nx l _ x (step_more nx o b x h)
theorem fold_step (nx : Nat → List Nat) : ∀ (l : List Nat) (o : Nat → Bool) (b c : Nat), b ∈ l → o b = true → c ∈ nx b → l.foldl (stepR nx) o c = true
  | [], _, _, _, h, _, _ => by cases h
  | a :: l, o, b, c, h, hb, hc => by
    rcases List.mem_cons.1 h with e | e
    · subst e
      exact fold_more nx l _ c (by simp [stepR, hb, hc])
    · exact fold_step nx l _ b c e (step_more nx o a b hb) hc
theorem fold_sound (nx : Nat → List Nat) {p : Nat → Prop} (hp : ∀ b c, p b → c ∈ nx b → p c) : ∀ (l : List Nat) (o : Nat → Bool), (∀ x, o x = true → p x) → ∀ x, l.foldl (stepR nx) o x = true → p x
  | [], _, h, x, hx => h x hx
  | b :: l, o, h, x, hx => fold_sound nx hp l (stepR nx o b) (fun y hy => by
      simp only [stepR, Bool.or_eq_true, Bool.and_eq_true, List.contains_iff_mem] at hy
      rcases hy with e | ⟨e1, e2⟩
      · exact h y e
      · exact hp b y (h b e1) e2) x hx
theorem rnds_more (nx : Nat → List Nat) (n : Nat) : ∀ (r : Nat) (o : Nat → Bool) (x : Nat), o x = true → rnds nx n r o x = true
  | 0, _, _, h => h
  | r + 1, o, x, h => rnds_more nx n r _ x (fold_more nx _ o x h)
theorem rnds_sound (nx : Nat → List Nat) (n : Nat) {p : Nat → Prop} (hp : ∀ b c, p b → c ∈ nx b → p c) : ∀ (r : Nat) (o : Nat → Bool), (∀ x, o x = true → p x) → ∀ x, rnds nx n r o x = true → p x
  | 0, _, h, x, hx => h x hx
  | r + 1, o, h, x, hx => rnds_sound nx n hp r _ (fold_sound nx hp _ o h) x hx
/-- Nothing more is to be marked. -/
def Shut (nx : Nat → List Nat) (n : Nat) (o : Nat → Bool) : Prop := ∀ b, b < n → o b = true → ∀ c ∈ nx b, o c = true
theorem rnds_shut (nx : Nat → List Nat) {n : Nat} (hnx : ∀ x, x < n → ∀ c ∈ nx x, c < n) : ∀ (r : Nat) (o : Nat → Bool), left o n ≤ r → Shut nx n (rnds nx n r o)
  | 0, o, h => fun b hb hob c hc => by
    cases hoc : o c
    · have := left_pos hoc (hnx b hb c hc); omega
    · exact hoc
  | r + 1, o, h => by
    by_cases hs : Shut nx n o
    · have stay : ∀ l : List Nat, (∀ x ∈ l, x < n) → ∀ x, l.foldl (stepR nx) o x = o x := by
        intro l
        induction l with
        | nil => intro _ x; rfl
        | cons b l ih =>
          intro hl x
          have e : stepR nx o b = o := by
            funext y
            simp only [stepR]
            cases hb : o b
            · simp
            · cases hy : o y
              · cases hc : (nx b).contains y
                · simp
                · have := hs b (hl b (by simp)) hb y (by simpa using hc)
                  rw [hy] at this
                  cases this
              · simp
          rw [List.foldl_cons, e]
          exact ih (fun z hz => hl z (by simp [hz])) x
      have e : rnd nx n o = o := by funext x; exact stay _ (fun y hy => List.mem_range.1 hy) x
      have all : ∀ r, rnds nx n r o = o := by
        intro r
        induction r with
        | zero => rfl
        | succ r ih => rw [rnds, e, ih]
      rw [all]
      exact hs
    · have : ∃ b c, b < n ∧ o b = true ∧ c ∈ nx b ∧ o c = false := by
        refine Classical.byContradiction fun hno => hs fun b hb hob c hc => ?_
        cases hoc : o c
        · exact absurd ⟨b, c, hb, hob, hc, hoc⟩ hno
        · rfl
      obtain ⟨b, c, hb, hob, hc, hoc⟩ := this
      have hlt := left_lt (s := o) (t := rnd nx n o) (fun x hx => fold_more nx _ o x hx) hoc (fold_step nx _ o b c (List.mem_range.2 hb) hob hc) (hnx b hb c hc)
      exact rnds_shut nx hnx r (rnd nx n o) (by omega)
/-- What the document's rounds mark: what is come to. -/
theorem rnds_rch {nx : Nat → List Nat} {n : Nat} (hnx : ∀ x, x < n → ∀ c ∈ nx x, c < n) (h0 : 0 < n) (x : Nat) : rnds nx n n (fun y => y == 0) x = true ↔ Rch nx 0 x := by
  constructor
  · exact rnds_sound nx n (p := Rch nx 0) (fun b c hb hc => hb.next hc) n _ (fun y hy => by simp at hy; subst hy; exact Rch.refl nx 0) x
  · intro hx
    have hl : left (fun y => y == 0) n ≤ n := by
      have := left_le (s := fun _ => false) (t := fun y => y == 0) (fun _ h => by cases h) n
      rwa [left_none] at this
    have hs := rnds_shut nx hnx n (fun y => y == 0) hl
    have : x < n ∧ rnds nx n n (fun y => y == 0) x = true := hx.ind (p := fun x => x < n ∧ rnds nx n n (fun y => y == 0) x = true) ⟨h0, rnds_more nx n n _ 0 rfl⟩ fun b c hb hc => ⟨hnx b hb.1 c hc, hs b hb.1 hb.2 c hc⟩
    exact this.2
/-- What follows more is come to more. -/
theorem Rch.mono {nx ny : Nat → List Nat} (h : ∀ b c, c ∈ nx b → c ∈ ny b) {a b : Nat} (k : Rch nx a b) : Rch ny a b := k.ind (p := Rch ny a) (Rch.refl ny a) fun b c hb hc => hb.next (h b c hc)
end Wy
end Go.Proofs.Ytblcbccchlljhaa
