/- Answers behind the last call say nothing: in plain mathematics. -/
import Derived.Test.YtljnngblhfhhaaaPf
namespace Go.Proofs.Ytljnngblhfhhaaa.Ir

/-- Answers that agree, as many as are asked for. -/
def AG (k : Nat) (a b : List Int) : Prop := ∀ i, i < k → a.getD i 0 = b.getD i 0
theorem AG.less {k k' : Nat} {a b : List Int} (h : AG k a b) (hk : k' ≤ k) : AG k' a b := fun i hi => h i (by omega)
theorem AG.head {k : Nat} {a b : List Int} (h : AG k a b) (hk : 0 < k) : a.headD 0 = b.headD 0 := by
  have := h 0 hk
  cases a <;> cases b <;> simp at this ⊢ <;> exact this
theorem getD_tail (a : List Int) (i : Nat) : a.tail.getD i 0 = a.getD (i + 1) 0 := by cases a <;> simp
theorem AG.tail {k : Nat} {a b : List Int} (h : AG (k + 1) a b) : AG k a.tail b.tail := fun i hi => by
  rw [getD_tail, getD_tail]
  exact h (i + 1) (by omega)
def wa (b : List Int) (s : St) : St := { s with ans := b }
def mapS {α : Type} (f : α → α) (x : Rs α) : Rs α := match x with | .inl s => .inl (f s) | .inr o => .inr o
/-- With other answers that agree as far as calls are made (K: how many in all). -/
def RelA {α : Type} (K : Nat) (cl : α → St) (up : List Int → α → α) (x : Rs α) (x' : List Int → Rs α) (a : List Int) (c : Nat) : Prop :=
  match x with
  | .inl s => (cl s).calls.length ≤ K → ∀ b, AG (K - c) a b → ∃ b', AG (K - (cl s).calls.length) (cl s).ans b' ∧ x' b = .inl (up b' s)
  | .inr o => o.calls.length ≤ K → ∀ b, AG (K - c) a b → x' b = .inr o
theorem act_wa {r : Int} {i : Ins} (s : St) (b : List Int) (h : ¬ i.k = 6) : act r i (wa b s) = mapS (wa b) (act r i s) := by
  unfold act wa
  by_cases e1 : i.k = 1
  · simp [e1, mapS]
  by_cases e2 : i.k = 2
  · simp [e2, mapS]
  by_cases e3 : i.k = 3
  · by_cases e : i.op = 7 ∧ pg s.p i.b = 0
    · simp [e3, e, mapS]
    · simp [e3, e, mapS]
  by_cases e4 : i.k = 4
  · simp [e4, mapS]
  by_cases e5 : i.k = 5
  · simp [e5, mapS]
  by_cases e7 : i.k = 7
  · simp [e7, mapS]
  simp [e1, e2, e3, e4, e5, h, e7, mapS]
theorem act_same {r : Int} {i : Ins} {s s' : St} (h : ¬ i.k = 6) (e : act r i s = .inl s') : s'.ans = s.ans ∧ s'.calls = s.calls := by
  unfold act at e
  rw [if_neg h] at e
  repeat' split at e
  all_goals first | (cases e; exact ⟨rfl, rfl⟩) | cases e
theorem act_ans (K : Nat) (r : Int) (i : Ins) (s : St) : RelA K id wa (act r i s) (fun b => act r i (wa b s)) s.ans s.calls.length := by
  by_cases e6 : i.k = 6
  · have e : ∀ s : St, act r i s = .inl { s with p := pst s.p i.d (s.ans.headD 0), calls := s.calls ++ [⟨i.n, i.args.map (pg s.p)⟩], ans := s.ans.tail } := by
      intro s
      unfold act
      simp only [e6, show ¬ ((6 : Int) = 1) by decide, show ¬ ((6 : Int) = 2) by decide, show ¬ ((6 : Int) = 3) by decide, show ¬ ((6 : Int) = 4) by decide, show ¬ ((6 : Int) = 5) by decide, if_false, if_true]
    simp only [e]
    intro hK b hb
    simp only [id, List.length_append, List.length_singleton] at hK ⊢
    have hk : K - s.calls.length = (K - (s.calls.length + 1)) + 1 := by omega
    rw [hk] at hb
    refine ⟨b.tail, hb.tail, ?_⟩
    simp only [wa, hb.head (by omega)]
  · cases h : act r i s with
    | inl s' =>
      obtain ⟨h1, h2⟩ := act_same e6 h
      intro hK b hb
      refine ⟨b, ?_, ?_⟩
      · show AG (K - s'.calls.length) s'.ans b
        rw [h1, h2]
        exact hb
      · show act r i (wa b s) = _
        rw [act_wa s b e6, h]
        rfl
    | inr o =>
      intro hK b hb
      show act r i (wa b s) = _
      rw [act_wa s b e6, h]
      rfl
theorem paid_ans (K : Nat) (s : St) : RelA K id wa (paid s) (fun b => paid (wa b s)) s.ans s.calls.length := by
  by_cases h0 : s.left = 0
  · have e : ∀ b, paid (wa b s) = .inr ⟨3, 0, s.calls, s.mem, 0⟩ := fun b => by unfold paid wa; rw [if_pos h0]
    have e' : paid s = .inr ⟨3, 0, s.calls, s.mem, 0⟩ := e s.ans
    rw [e']
    exact fun _ b _ => e b
  · have e : ∀ b, paid (wa b s) = .inl (wa b { s with left := s.left - 1 }) := fun b => by unfold paid wa; rw [if_neg h0]
    have e' : paid s = .inl { s with left := s.left - 1 } := e s.ans
    rw [e']
    exact fun _ b hb => ⟨b, hb, e b⟩
theorem RelA.bind {α β : Type} {K : Nat} {cl : α → St} {up : List Int → α → α} {cl' : β → St} {up' : List Int → β → β} {x : Rs α} {x' : List Int → Rs α} {a : List Int} {c : Nat} {f : α → Rs β} (h : RelA K cl up x x' a c) (hf : ∀ s, RelA K cl' up' (f s) (fun b => f (up b s)) (cl s).ans (cl s).calls.length) (he : ∀ s, ExtS (fun y => (cl' y).calls) (cl s).calls (f s)) : RelA K cl' up' (x.bind f) (fun b => (x' b).bind f) a c := by
  cases x with
  | inr o =>
    intro hK b hb
    show (x' b).bind f = _
    rw [h hK b hb]
    rfl
  | inl s =>
    have hs := hf s
    have hE := he s
    show RelA K cl' up' (f s) _ a c
    cases hfs : f s with
    | inr o =>
      rw [hfs] at hs hE
      intro hK b hb
      obtain ⟨b', h1, h2⟩ := h (Nat.le_trans (List.IsPrefix.length_le hE) hK) b hb
      show (x' b).bind f = _
      rw [h2]
      exact hs hK b' h1
    | inl y =>
      rw [hfs] at hs hE
      intro hK b hb
      obtain ⟨b', h1, h2⟩ := h (Nat.le_trans (List.IsPrefix.length_le hE) hK) b hb
      obtain ⟨b2, h3, h4⟩ := hs hK b' h1
      refine ⟨b2, h3, ?_⟩
      show (x' b).bind f = _
      rw [h2]
      exact h4
theorem one_ans (K : Nat) (r : Int) (i : Ins) (s : St) : RelA K id wa (one r i s) (fun b => one r i (wa b s)) s.ans s.calls.length := by
  unfold one
  split
  · exact act_ans K r i s
  · exact (paid_ans K s).bind (act_ans K r i) (act_ext r i)
theorem insts_ans (K : Nat) (r : Int) : ∀ (is : List Ins) (s : St), RelA K id wa (insts r is s) (fun b => insts r is (wa b s)) s.ans s.calls.length
  | [], _ => fun _ b hb => ⟨b, hb, rfl⟩
  | i :: is, s => (one_ans K r i s).bind (insts_ans K r is) (insts_ext r is)
def wa2 (b : List Int) (x : Int × St) : Int × St := (x.1, wa b x.2)
theorem leave_ans (K : Nat) (e : En) (s : St) : RelA K (fun x : Int × St => x.2) wa2 (leave e s) (fun b => leave e (wa b s)) s.ans s.calls.length := by
  by_cases e3 : e.k = 3
  · have q : ∀ b, leave e (wa b s) = .inr ⟨1, pg s.p e.a, s.calls, s.mem, s.left⟩ := fun b => by unfold leave wa; rw [if_pos e3]
    have q' : leave e s = .inr ⟨1, pg s.p e.a, s.calls, s.mem, s.left⟩ := q s.ans
    rw [q']
    exact fun _ b _ => q b
  · by_cases e2 : e.k = 2 ∧ pg s.p e.a = 0
    · have q : ∀ b, leave e (wa b s) = .inl (e.el, wa b s) := fun b => by unfold leave; rw [if_neg e3, if_pos (show e.k = 2 ∧ pg (wa b s).p e.a = 0 from e2)]
      have q' : leave e s = .inl (e.el, s) := q s.ans
      rw [q']
      exact fun _ b hb => ⟨b, hb, q b⟩
    · have q : ∀ b, leave e (wa b s) = .inl (e.to, wa b s) := fun b => by unfold leave; rw [if_neg e3, if_neg (show ¬ (e.k = 2 ∧ pg (wa b s).p e.a = 0) from e2)]
      have q' : leave e s = .inl (e.to, s) := q s.ans
      rw [q']
      exact fun _ b hb => ⟨b, hb, q b⟩
theorem blk_ans (K : Nat) (r : Int) (b : Blk) (s : St) : RelA K (fun x : Int × St => x.2) wa2 (blk r b s) (fun c => blk r b (wa c s)) s.ans s.calls.length := (insts_ans K r b.ins s).bind (fun s => (paid_ans K s).bind (leave_ans K b.e) (leave_ext b.e)) (fini_ext b.e)
/-- Answers that agree as far as calls are made give the same run. -/
theorem play_ans (r : Int) (bs : List Blk) (t : Int) (s : St) (b : List Int) (hb : AG ((play r bs t s).calls.length - s.calls.length) s.ans b) : play r bs t (wa b s) = play r bs t s := by
  refine play_ind (Q := fun t s o => ∀ b, AG (o.calls.length - s.calls.length) s.ans b → play r bs t (wa b s) = o) (fun t s o h b hb => ?_) (fun t s t' s' o h ih b hb => ?_) t s b hb
  · have hr := blk_ans o.calls.length r (bs.getD t.toNat Blk.zero) s
    rw [h] at hr
    have hr : blk r (bs.getD t.toNat Blk.zero) (wa b s) = .inr o := hr (Nat.le_refl _) b hb
    rw [play_eq, hr]
  · by_cases hc : s'.calls.length ≤ o.calls.length
    · have hr := blk_ans o.calls.length r (bs.getD t.toNat Blk.zero) s
      rw [h] at hr
      obtain ⟨b', h1, h2⟩ := hr hc b hb
      rw [play_eq]
      simp only at h2
      rw [h2]
      exact ih b' h1
    · exfalso
      have := ih s'.ans (fun i hi => rfl)
      have h2 := List.IsPrefix.length_le (play_ext r bs t' s')
      have h3 : wa s'.ans s' = s' := rfl
      rw [h3] at this
      rw [this] at h2
      exact hc h2
/-- The first n answers, and more behind them where none is asked for. -/
theorem ag_cut (N : Nat) (ans more : List Int) : AG N ans (if min N ans.length = N then ans.take (min N ans.length) ++ more else ans.take (min N ans.length)) := by
  intro i hi
  by_cases h : min N ans.length = N
  · rw [if_pos h, h]
    have hl : i < (ans.take N).length := by simp; omega
    simp [List.getElem?_append_left hl, List.getElem?_take_of_lt hi]
  · rw [if_neg h]
    have : min N ans.length = ans.length := by omega
    rw [this, List.take_length]
end Go.Proofs.Ytljnngblhfhhaaa.Ir
