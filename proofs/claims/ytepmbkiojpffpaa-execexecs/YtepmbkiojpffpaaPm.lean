/- More on runs in plain mathematics: what a step keeps. -/
import Derived.Test.YtepmbkiojpffpaaPl
namespace Go.Proofs.Ytepmbkiojpffpaa.Ir

theorem act_keeps {r : Int} {i : Ins} {s s' : St} (h : act r i s = .inl s') : s'.p.length = s.p.length ∧ s'.left = s.left ∧ s'.calls.length ≤ s.calls.length + (if i.k = 6 then 1 else 0) := by
  unfold act at h
  by_cases e1 : i.k = 1
  · rw [if_pos e1] at h; cases h; simp [pst]
  rw [if_neg e1] at h
  by_cases e2 : i.k = 2
  · rw [if_pos e2] at h; cases h; simp [pst]
  rw [if_neg e2] at h
  by_cases e3 : i.k = 3
  · rw [if_pos e3] at h
    split at h
    · cases h
    · cases h; simp [pst]
  rw [if_neg e3] at h
  by_cases e4 : i.k = 4
  · rw [if_pos e4] at h; cases h; simp [pst]
  rw [if_neg e4] at h
  by_cases e5 : i.k = 5
  · rw [if_pos e5] at h; cases h; simp
  rw [if_neg e5] at h
  by_cases e6 : i.k = 6
  · rw [if_pos e6] at h; cases h; simp [pst, e6]
  rw [if_neg e6] at h
  by_cases e7 : i.k = 7
  · rw [if_pos e7] at h; cases h; simp [pst]
  rw [if_neg e7] at h
  cases h
  simp [pst]
theorem paid_go {s s' : St} (h : paid s = .inl s') : s.left ≠ 0 ∧ s' = { s with left := s.left - 1 } := by
  unfold paid at h
  split at h
  · cases h
  · cases h
    exact ⟨by assumption, rfl⟩
theorem one_keeps {r : Int} {i : Ins} {s s' : St} (h : one r i s = .inl s') : s'.p.length = s.p.length ∧ s'.left ≤ s.left ∧ s'.calls.length + s'.left ≤ s.calls.length + s.left := by
  unfold one at h
  split at h
  · rename_i hf
    obtain ⟨h1, h2, h3⟩ := act_keeps h
    have : i.k ≠ 6 := by intro e; simp [free, e] at hf
    rw [if_neg this] at h3
    exact ⟨h1, by omega, by omega⟩
  · cases hp : paid s with
    | inr o => rw [hp] at h; cases h
    | inl s1 =>
      rw [hp] at h
      obtain ⟨h0, rfl⟩ := paid_go hp
      obtain ⟨h1, h2, h3⟩ := act_keeps (r := r) (i := i) h
      simp only at h1 h2 h3
      split at h3 <;> exact ⟨h1, by omega, by omega⟩
theorem insts_keeps {r : Int} : ∀ {is : List Ins} {s s' : St}, insts r is s = .inl s' → s'.p.length = s.p.length ∧ s'.left ≤ s.left ∧ s'.calls.length + s'.left ≤ s.calls.length + s.left
  | [], s, s', h => by cases h; exact ⟨rfl, Nat.le_refl _, Nat.le_refl _⟩
  | i :: is, s, s', h => by
    unfold insts at h
    cases hp : one r i s with
    | inr o => rw [hp] at h; cases h
    | inl s1 =>
      rw [hp] at h
      obtain ⟨h1, h2, h3⟩ := one_keeps hp
      obtain ⟨q1, q2, q3⟩ := insts_keeps (is := is) (s := s1) h
      exact ⟨by omega, by omega, by omega⟩
theorem fini_keeps {e : En} {s s' : St} {t : Int} (h : fini e s = .inl (t, s')) : s'.p.length = s.p.length ∧ s'.left ≤ s.left ∧ s'.calls.length + s'.left ≤ s.calls.length + s.left := by
  unfold fini at h
  cases hp : paid s with
  | inr o => rw [hp] at h; cases h
  | inl s1 =>
    rw [hp] at h
    obtain ⟨h0, rfl⟩ := paid_go hp
    have h2 := leave_left (e := e) h
    subst h2
    exact ⟨rfl, by simp only; omega, by simp only; omega⟩
theorem blk_keeps {r : Int} {b : Blk} {s s' : St} {t : Int} (h : blk r b s = .inl (t, s')) : s'.p.length = s.p.length ∧ s'.left ≤ s.left ∧ s'.calls.length + s'.left ≤ s.calls.length + s.left := by
  unfold blk at h
  cases hp : insts r b.ins s with
  | inr o => rw [hp] at h; cases h
  | inl s1 =>
    rw [hp] at h
    obtain ⟨h1, h2, h3⟩ := insts_keeps hp
    obtain ⟨q1, q2, q3⟩ := fini_keeps (e := b.e) h
    exact ⟨by omega, by omega, by omega⟩
/-- Where a block goes on to. -/
theorem blk_to {r : Int} {b : Blk} {s s' : St} {t : Int} {n nb : Nat} (hb : OkE n nb b.e) (h : blk r b s = .inl (t, s')) : 0 ≤ t ∧ t < nb := by
  unfold blk at h
  cases hp : insts r b.ins s with
  | inr o => rw [hp] at h; cases h
  | inl s1 =>
    rw [hp] at h
    replace h : fini b.e s1 = .inl (t, s') := h
    unfold fini at h
    cases hq : paid s1 with
    | inr o => rw [hq] at h; cases h
    | inl s2 =>
      rw [hq] at h
      replace h : leave b.e s2 = .inl (t, s') := h
      unfold leave at h
      by_cases e3 : b.e.k = 3
      · rw [if_pos e3] at h; cases h
      · rw [if_neg e3] at h
        split at h
        · rename_i hc
          cases h
          exact hb.el hc.1
        · cases h
          exact hb.to e3
/-- The run's end: how it ended is not 0. -/
theorem act_how {r : Int} {i : Ins} {s : St} {o : Out} (h : act r i s = .inr o) : o.how = 2 := by
  unfold act at h
  repeat' split at h
  all_goals first | (cases h; rfl) | cases h
theorem paid_how {s : St} {o : Out} (h : paid s = .inr o) : o.how = 3 ∧ s.left = 0 := by
  unfold paid at h
  split at h
  · cases h
    exact ⟨rfl, by assumption⟩
  · cases h
theorem insts_drop {r : Int} {is : List Ins} {j : Nat} (h : j < is.length) (s : St) : insts r (is.drop j) s = (one r (is.getD j Ins.zero) s).bind (insts r (is.drop (j + 1))) := by
  rw [List.drop_eq_getElem_cons h]
  simp [insts, List.getElem?_eq_getElem h]
theorem one_free {r : Int} {i : Ins} {s : St} (h : free i.k = true) : one r i s = act r i s := by unfold one; rw [h]; rfl
theorem one_paid {r : Int} {i : Ins} {s : St} (h : free i.k = false) : one r i s = (paid s).bind (act r i) := by unfold one; rw [h]; rfl
theorem act_fin {r : Int} {i : Ins} {s : St} {o : Out} (h : act r i s = .inr o) : o = ⟨2, 0, s.calls, s.mem, s.left⟩ := by
  unfold act at h
  repeat' split at h
  all_goals first | (cases h; rfl) | cases h
theorem paid_fin {s : St} {o : Out} (h : paid s = .inr o) : s.left = 0 ∧ o = ⟨3, 0, s.calls, s.mem, 0⟩ := by
  unfold paid at h
  split at h
  · cases h
    exact ⟨by assumption, rfl⟩
  · cases h
theorem leave_fin {e : En} {s : St} {o : Out} (h : leave e s = .inr o) : o = ⟨1, pg s.p e.a, s.calls, s.mem, s.left⟩ := by
  unfold leave at h
  repeat' split at h
  all_goals first | (cases h; rfl) | cases h
theorem one_fin {r : Int} {i : Ins} {s : St} {o : Out} (h : one r i s = .inr o) : o.left ≤ s.left ∧ o.how ≠ 0 := by
  unfold one at h
  split at h
  · rw [act_fin h]
    simp
  · cases hp : paid s with
    | inr o' =>
      rw [hp] at h
      cases h
      rw [(paid_fin hp).2]
      simp
    | inl s1 =>
      rw [hp] at h
      obtain ⟨_, rfl⟩ := paid_go hp
      rw [act_fin h]
      exact ⟨by simp only; omega, by simp⟩
theorem insts_fin {r : Int} : ∀ {is : List Ins} {s : St} {o : Out}, insts r is s = .inr o → o.left ≤ s.left ∧ o.how ≠ 0
  | [], s, o, h => by cases h
  | i :: is, s, o, h => by
    unfold insts at h
    cases hp : one r i s with
    | inr o' => rw [hp] at h; cases h; exact one_fin hp
    | inl s1 =>
      rw [hp] at h
      have h1 := one_left hp
      have h2 := insts_fin (is := is) (s := s1) h
      exact ⟨by omega, h2.2⟩
theorem fini_fin {e : En} {s : St} {o : Out} (h : fini e s = .inr o) : o.left ≤ s.left ∧ o.how ≠ 0 := by
  unfold fini at h
  cases hp : paid s with
  | inr o' => rw [hp] at h; cases h; rw [(paid_fin hp).2]; simp
  | inl s1 =>
    rw [hp] at h
    obtain ⟨_, rfl⟩ := paid_go hp
    rw [leave_fin h]
    exact ⟨by simp only; omega, by simp⟩
theorem blk_fin {r : Int} {b : Blk} {s : St} {o : Out} (h : blk r b s = .inr o) : o.left ≤ s.left ∧ o.how ≠ 0 := by
  unfold blk at h
  cases hp : insts r b.ins s with
  | inr o' => rw [hp] at h; cases h; exact insts_fin hp
  | inl s1 =>
    rw [hp] at h
    have h1 := insts_left hp
    have h2 := fini_fin (e := b.e) h
    exact ⟨by omega, h2.2⟩
end Go.Proofs.Ytepmbkiojpffpaa.Ir
