/- What the laws on runs say, in plain mathematics: fuel, calls, answers, moves. -/
import Derived.Test.YtljnngblhfhhaaaDo
namespace Go.Proofs.Ytljnngblhfhhaaa.Ir

/-! ### More fuel -/
def more (m : Nat) (s : St) : St := { s with left := s.left + m }
/-- What a run does with more fuel, where it goes on. -/
theorem act_more {r : Int} {i : Ins} {s : St} (m : Nat) : act r i (more m s) = match act r i s with | .inl s' => .inl (more m s') | .inr o => .inr { o with left := o.left + m } := by
  unfold act more
  by_cases e1 : i.k = 1
  · simp [e1]
  by_cases e2 : i.k = 2
  · simp [e2]
  by_cases e3 : i.k = 3
  · by_cases e : i.op = 7 ∧ pg s.p i.b = 0
    · simp [e3, e]
    · simp [e3, e]
  by_cases e4 : i.k = 4
  · simp [e4]
  by_cases e5 : i.k = 5
  · simp [e5]
  by_cases e6 : i.k = 6
  · simp [e6]
  by_cases e7 : i.k = 7
  · simp [e7]
  simp [e1, e2, e3, e4, e5, e6, e7]
/-- How the same goes with more fuel: it goes on alike; it is over alike; or it starved, and has come as far. -/
def RelS {α : Type} (m : Nat) (up : α → α) (cl : α → List Cl) (x x' : Rs α) : Prop :=
  match x with
  | .inl a => x' = .inl (up a)
  | .inr o => (o.how ≠ 3 → x' = .inr { o with left := o.left + m }) ∧ (o.how = 3 → o.left = 0 ∧ o.val = 0 ∧ match x' with | .inl a => o.calls <+: cl a | .inr o' => o.calls <+: o'.calls)
/-- Calls are only added. -/
def ExtS {β : Type} (cl : β → List Cl) (cs : List Cl) (x : Rs β) : Prop := match x with | .inl b => cs <+: cl b | .inr o => cs <+: o.calls
theorem RelS.bind {α β : Type} {m : Nat} {up : α → α} {cl : α → List Cl} {up' : β → β} {cl' : β → List Cl} {x x' : Rs α} {f : α → Rs β} (h : RelS m up cl x x') (hf : ∀ a, RelS m up' cl' (f a) (f (up a))) (he : ∀ a, ExtS cl' (cl a) (f a)) : RelS m up' cl' (x.bind f) (x'.bind f) := by
  cases x with
  | inl a =>
    have h : x' = .inl (up a) := h
    subst h
    exact hf a
  | inr o =>
    obtain ⟨h1, h2⟩ := h
    refine ⟨fun hh => by rw [h1 hh]; rfl, fun hh => ?_⟩
    obtain ⟨q1, q2, q3⟩ := h2 hh
    refine ⟨q1, q2, ?_⟩
    cases x' with
    | inr o' => exact q3
    | inl a =>
      have e := he a
      show match f a with | .inl a => o.calls <+: cl' a | .inr o' => o.calls <+: o'.calls
      unfold ExtS at e
      cases hfa : f a with
      | inl b => rw [hfa] at e; exact q3.trans e
      | inr o' => rw [hfa] at e; exact q3.trans e
theorem ExtS.bind {α β : Type} {cl : α → List Cl} {cl' : β → List Cl} {cs : List Cl} {x : Rs α} {f : α → Rs β} (h : ExtS cl cs x) (hf : ∀ a, ExtS cl' (cl a) (f a)) : ExtS cl' cs (x.bind f) := by
  cases x with
  | inr o => exact h
  | inl a =>
    have h : cs <+: cl a := h
    have e := hf a
    show ExtS cl' cs (f a)
    unfold ExtS at e ⊢
    cases hfa : f a with
    | inl b => rw [hfa] at e; exact h.trans e
    | inr o' => rw [hfa] at e; exact h.trans e
theorem act_ext (r : Int) (i : Ins) (s : St) : ExtS St.calls s.calls (act r i s) := by
  unfold act
  repeat' split
  all_goals first | exact List.prefix_append _ _ | exact List.prefix_refl _
theorem paid_ext (s : St) : ExtS St.calls s.calls (paid s) := by
  unfold paid
  split <;> exact List.prefix_refl _
theorem one_ext (r : Int) (i : Ins) (s : St) : ExtS St.calls s.calls (one r i s) := by
  unfold one
  split
  · exact act_ext r i s
  · exact (paid_ext s).bind (act_ext r i)
theorem insts_ext (r : Int) : ∀ (is : List Ins) (s : St), ExtS St.calls s.calls (insts r is s)
  | [], _ => List.prefix_refl _
  | i :: is, s => (one_ext r i s).bind (insts_ext r is)
theorem leave_ext (e : En) (s : St) : ExtS (fun x : Int × St => x.2.calls) s.calls (leave e s) := by
  unfold leave
  repeat' split
  all_goals exact List.prefix_refl _
theorem fini_ext (e : En) (s : St) : ExtS (fun x : Int × St => x.2.calls) s.calls (fini e s) := (paid_ext s).bind (leave_ext e)
theorem blk_ext (r : Int) (b : Blk) (s : St) : ExtS (fun x : Int × St => x.2.calls) s.calls (blk r b s) := (insts_ext r b.ins s).bind (fini_ext b.e)
theorem play_ext (r : Int) (bs : List Blk) (t : Int) (s : St) : s.calls <+: (play r bs t s).calls := by
  refine play_ind (Q := fun _ s o => s.calls <+: o.calls) (fun t s o h => ?_) (fun t s t' s' o h ih => ?_) t s
  · have := blk_ext r (bs.getD t.toNat Blk.zero) s
    rw [h] at this
    exact this
  · have := blk_ext r (bs.getD t.toNat Blk.zero) s
    rw [h] at this
    exact List.IsPrefix.trans this ih
theorem act_rel (m : Nat) (r : Int) (i : Ins) (s : St) : RelS m (more m) St.calls (act r i s) (act r i (more m s)) := by
  rw [act_more]
  cases h : act r i s with
  | inl s' => rfl
  | inr o =>
    have := act_how h
    exact ⟨fun _ => rfl, fun h3 => by rw [this] at h3; cases h3⟩
theorem paid_rel (m : Nat) (s : St) : RelS m (more m) St.calls (paid s) (paid (more m s)) := by
  by_cases h0 : s.left = 0
  · have e : paid s = .inr ⟨3, 0, s.calls, s.mem, 0⟩ := by unfold paid; rw [if_pos h0]
    rw [e]
    refine ⟨fun h => absurd rfl h, fun _ => ⟨rfl, rfl, ?_⟩⟩
    have := paid_ext (more m s)
    unfold ExtS at this
    cases hp : paid (more m s) with
    | inl a => rw [hp] at this; exact this
    | inr o => rw [hp] at this; exact this
  · have e : paid s = .inl { s with left := s.left - 1 } := by unfold paid; rw [if_neg h0]
    rw [e]
    show paid (more m s) = .inl (more m { s with left := s.left - 1 })
    unfold paid more
    rw [if_neg (by simp only; omega)]
    simp only
    congr 2
    omega
theorem one_rel (m : Nat) (r : Int) (i : Ins) (s : St) : RelS m (more m) St.calls (one r i s) (one r i (more m s)) := by
  unfold one
  split
  · exact act_rel m r i s
  · exact (paid_rel m s).bind (act_rel m r i) (act_ext r i)
theorem insts_rel (m : Nat) (r : Int) : ∀ (is : List Ins) (s : St), RelS m (more m) St.calls (insts r is s) (insts r is (more m s))
  | [], _ => rfl
  | i :: is, s => (one_rel m r i s).bind (insts_rel m r is) (insts_ext r is)
theorem leave_rel (m : Nat) (e : En) (s : St) : RelS m (fun x : Int × St => (x.1, more m x.2)) (fun x => x.2.calls) (leave e s) (leave e (more m s)) := by
  unfold leave more
  by_cases e3 : e.k = 3
  · simp only [e3, if_true]
    exact ⟨fun _ => rfl, fun h => by cases h⟩
  · by_cases e2 : e.k = 2 ∧ pg s.p e.a = 0
    · rw [if_neg e3, if_neg e3, if_pos e2, if_pos e2]
      rfl
    · rw [if_neg e3, if_neg e3, if_neg e2, if_neg e2]
      rfl
theorem fini_rel (m : Nat) (e : En) (s : St) : RelS m (fun x : Int × St => (x.1, more m x.2)) (fun x => x.2.calls) (fini e s) (fini e (more m s)) := (paid_rel m s).bind (leave_rel m e) (leave_ext e)
theorem blk_rel (m : Nat) (r : Int) (b : Blk) (s : St) : RelS m (fun x : Int × St => (x.1, more m x.2)) (fun x => x.2.calls) (blk r b s) (blk r b (more m s)) := (insts_rel m r b.ins s).bind (fini_rel m b.e) (fini_ext b.e)
/-- With more fuel a run that is over ends alike, with that more left; one that starved has done what it does with more, up to there. -/
theorem play_more (m : Nat) (r : Int) (bs : List Blk) (t : Int) (s : St) : ((play r bs t s).how ≠ 3 → play r bs t (more m s) = { play r bs t s with left := (play r bs t s).left + m }) ∧ ((play r bs t s).how = 3 → (play r bs t s).left = 0 ∧ (play r bs t s).val = 0 ∧ (play r bs t s).calls <+: (play r bs t (more m s)).calls) := by
  refine play_ind (Q := fun t s o => (o.how ≠ 3 → play r bs t (more m s) = { o with left := o.left + m }) ∧ (o.how = 3 → o.left = 0 ∧ o.val = 0 ∧ o.calls <+: (play r bs t (more m s)).calls)) (fun t s o h => ?_) (fun t s t' s' o h ih => ?_) t s
  · have hr := blk_rel m r (bs.getD t.toNat Blk.zero) s
    rw [h] at hr
    refine ⟨fun hh => ?_, fun hh => ?_⟩
    · rw [play_eq, hr.1 hh]
    · obtain ⟨q1, q2, q3⟩ := hr.2 hh
      refine ⟨q1, q2, ?_⟩
      rw [play_eq]
      cases hb : blk r (bs.getD t.toNat Blk.zero) (more m s) with
      | inr o' => rw [hb] at q3; exact q3
      | inl a =>
        rw [hb] at q3
        exact List.IsPrefix.trans q3 (play_ext r bs a.1 a.2)
  · have hr := blk_rel m r (bs.getD t.toNat Blk.zero) s
    rw [h] at hr
    have hr : blk r (bs.getD t.toNat Blk.zero) (more m s) = .inl (t', more m s') := hr
    have e : play r bs t (more m s) = play r bs t' (more m s') := by rw [play_eq, hr]
    rw [e]
    exact ih

/-! ### How runs end, and their calls -/
/-- Each call that a run makes is an instruction's. -/
def FromI (bs : List Blk) (c : Cl) : Prop := ∃ b ∈ bs, ∃ i ∈ b.ins, i.k = 6 ∧ i.n = c.n ∧ i.args.length = c.args.length
def CallI (is : List Ins) (c : Cl) : Prop := ∃ i ∈ is, i.k = 6 ∧ i.n = c.n ∧ i.args.length = c.args.length
def EndsS {β : Type} (cl : β → List Cl) (P : Cl → Prop) (cs : List Cl) (x : Rs β) : Prop :=
  match x with
  | .inl b => ∀ c ∈ cl b, c ∈ cs ∨ P c
  | .inr o => (∀ c ∈ o.calls, c ∈ cs ∨ P c) ∧ (o.how = 1 ∨ o.how = 2 ∧ o.val = 0 ∨ o.how = 3 ∧ o.val = 0 ∧ o.left = 0)
theorem EndsS.bind {α β : Type} {cl : α → List Cl} {cl' : β → List Cl} {P : Cl → Prop} {cs : List Cl} {x : Rs α} {f : α → Rs β} (h : EndsS cl P cs x) (hf : ∀ a, EndsS cl' P (cl a) (f a)) : EndsS cl' P cs (x.bind f) := by
  cases x with
  | inr o => exact h
  | inl a =>
    have e := hf a
    show EndsS cl' P cs (f a)
    unfold EndsS at e ⊢
    have step : ∀ l : List Cl, (∀ c ∈ l, c ∈ cl a ∨ P c) → ∀ c ∈ l, c ∈ cs ∨ P c := fun l hl c hc => by
      rcases hl c hc with h1 | h1
      · exact h c h1
      · exact .inr h1
    cases hfa : f a with
    | inl b => rw [hfa] at e; exact step _ e
    | inr o' => rw [hfa] at e; exact ⟨step _ e.1, e.2⟩
theorem EndsS.mono {β : Type} {cl : β → List Cl} {P P' : Cl → Prop} {cs : List Cl} {x : Rs β} (h : EndsS cl P cs x) (hp : ∀ c, P c → P' c) : EndsS cl P' cs x := by
  have step : ∀ l : List Cl, (∀ c ∈ l, c ∈ cs ∨ P c) → ∀ c ∈ l, c ∈ cs ∨ P' c := fun l hl c hc => (hl c hc).imp id (hp c)
  cases x with
  | inl b => exact step _ h
  | inr o => exact ⟨step _ h.1, h.2⟩
theorem act_ends (r : Int) (i : Ins) (s : St) : EndsS St.calls (CallI [i]) s.calls (act r i s) := by
  unfold act
  by_cases e6 : i.k = 6
  · simp only [e6, show ¬ ((6 : Int) = 1) by decide, show ¬ ((6 : Int) = 2) by decide, show ¬ ((6 : Int) = 3) by decide, show ¬ ((6 : Int) = 4) by decide, show ¬ ((6 : Int) = 5) by decide, if_false, if_true]
    intro c hc
    simp only [List.mem_append, List.mem_singleton] at hc
    rcases hc with hc | rfl
    · exact .inl hc
    · exact .inr ⟨i, by simp, e6, rfl, by simp⟩
  · repeat' split
    all_goals first | (exact fun c hc => .inl hc) | exact ⟨fun c hc => .inl hc, .inr (.inl ⟨rfl, rfl⟩)⟩ | (exact absurd (by assumption) e6)
theorem paid_ends (P : Cl → Prop) (s : St) : EndsS St.calls P s.calls (paid s) := by
  unfold paid
  split
  · exact ⟨fun c hc => .inl hc, .inr (.inr ⟨rfl, rfl, rfl⟩)⟩
  · exact fun c hc => .inl hc
theorem one_ends (r : Int) (i : Ins) (s : St) : EndsS St.calls (CallI [i]) s.calls (one r i s) := by
  unfold one
  split
  · exact act_ends r i s
  · exact (paid_ends _ s).bind (act_ends r i)
theorem insts_ends (r : Int) : ∀ (is : List Ins) (s : St), EndsS St.calls (CallI is) s.calls (insts r is s)
  | [], _ => fun c hc => .inl hc
  | i :: is, s => ((one_ends r i s).mono fun c hc => by
      obtain ⟨j, hj, h⟩ := hc
      simp at hj
      subst hj
      exact ⟨j, by simp, h⟩).bind fun a => (insts_ends r is a).mono fun c hc => by
      obtain ⟨j, hj, h⟩ := hc
      exact ⟨j, by simp [hj], h⟩
theorem leave_ends (P : Cl → Prop) (e : En) (s : St) : EndsS (fun x : Int × St => x.2.calls) P s.calls (leave e s) := by
  unfold leave
  repeat' split
  all_goals first | (exact fun c hc => .inl hc) | exact ⟨fun c hc => .inl hc, .inl rfl⟩
theorem blk_ends (r : Int) (b : Blk) (s : St) : EndsS (fun x : Int × St => x.2.calls) (CallI b.ins) s.calls (blk r b s) := (insts_ends r b.ins s).bind fun a => (paid_ends _ a).bind (leave_ends _ b.e)
theorem play_ends (r : Int) (bs : List Blk) (t : Int) (s : St) (hs : ∀ c ∈ s.calls, FromI bs c) : (∀ c ∈ (play r bs t s).calls, FromI bs c) ∧ ((play r bs t s).how = 1 ∨ (play r bs t s).how = 2 ∧ (play r bs t s).val = 0 ∨ (play r bs t s).how = 3 ∧ (play r bs t s).val = 0 ∧ (play r bs t s).left = 0) := by
  have hC : ∀ (t : Int) (c : Cl), CallI (bs.getD t.toNat Blk.zero).ins c → FromI bs c := by
    intro t c hc
    by_cases h : t.toNat < bs.length
    · obtain ⟨i, hi, hh⟩ := hc
      exact ⟨_, by simp [h], i, hi, hh⟩
    · obtain ⟨i, hi, _⟩ := hc
      have : bs.getD t.toNat Blk.zero = Blk.zero := by simp [List.getElem?_eq_none (by omega : bs.length ≤ t.toNat)]
      rw [this] at hi
      simp [Blk.zero] at hi
  refine play_ind (Q := fun _ s o => (∀ c ∈ s.calls, FromI bs c) → (∀ c ∈ o.calls, FromI bs c) ∧ (o.how = 1 ∨ o.how = 2 ∧ o.val = 0 ∨ o.how = 3 ∧ o.val = 0 ∧ o.left = 0)) (fun t s o h hs => ?_) (fun t s t' s' o h ih hs => ?_) t s hs
  · have := blk_ends r (bs.getD t.toNat Blk.zero) s
    rw [h] at this
    exact ⟨fun c hc => (this.1 c hc).elim (hs c) (hC t c), this.2⟩
  · have := blk_ends r (bs.getD t.toNat Blk.zero) s
    rw [h] at this
    exact ih fun c hc => (this c hc).elim (hs c) (hC t c)
/-- No run makes more calls, nor spends more, than its fuel. -/
def SpendS {β : Type} (sp : β → Nat) (n : Nat) (x : Rs β) : Prop := match x with | .inl b => sp b ≤ n | .inr o => o.calls.length + o.left ≤ n
theorem insts_spend (r : Int) (is : List Ins) (s : St) : SpendS (fun s => s.calls.length + s.left) (s.calls.length + s.left) (insts r is s) := by
  induction is generalizing s with
  | nil => exact Nat.le_refl _
  | cons i is ih =>
    unfold insts
    cases h : one r i s with
    | inl s1 =>
      have h1 := (one_keeps h).2.2
      have h2 := ih s1
      show SpendS _ _ (insts r is s1)
      unfold SpendS at h2 ⊢
      cases hq : insts r is s1 with
      | inl s2 => rw [hq] at h2; simp only at h2 ⊢; omega
      | inr o => rw [hq] at h2; simp only at h2 ⊢; omega
    | inr o =>
      show o.calls.length + o.left ≤ _
      unfold one at h
      split at h
      · rw [act_fin h]
        exact Nat.le_refl _
      · cases hp : paid s with
        | inr o' => rw [hp] at h; cases h; rw [(paid_fin hp).2]; simp
        | inl s1 =>
          rw [hp] at h
          obtain ⟨_, rfl⟩ := paid_go hp
          rw [act_fin h]
          simp only
          omega
theorem play_spend (r : Int) (bs : List Blk) (t : Int) (s : St) : (play r bs t s).calls.length + (play r bs t s).left ≤ s.calls.length + s.left := by
  refine play_ind (Q := fun _ s o => o.calls.length + o.left ≤ s.calls.length + s.left) (fun t s o h => ?_) (fun t s t' s' o h ih => ?_) t s
  · unfold blk at h
    have h1 := insts_spend r (bs.getD t.toNat Blk.zero).ins s
    cases hp : insts r (bs.getD t.toNat Blk.zero).ins s with
    | inr o' => rw [hp] at h h1; cases h; exact h1
    | inl s1 =>
      rw [hp] at h h1
      have h1 : s1.calls.length + s1.left ≤ s.calls.length + s.left := h1
      replace h : fini (bs.getD t.toNat Blk.zero).e s1 = .inr o := h
      unfold fini at h
      cases hq : paid s1 with
      | inr o' => rw [hq] at h; cases h; rw [(paid_fin hq).2]; simp only; omega
      | inl s2 =>
        rw [hq] at h
        obtain ⟨_, rfl⟩ := paid_go hq
        rw [leave_fin h]
        simp only
        omega
  · have := (blk_keeps h).2.2
    omega
end Go.Proofs.Ytljnngblhfhhaaa.Ir
