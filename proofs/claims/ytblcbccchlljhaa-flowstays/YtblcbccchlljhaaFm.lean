/- Plain mathematics of a sweep over those from which facts come, and of what is settled. -/
import Derived.Test.YtblcbccchlljhaaFl
namespace Go.Proofs.Ytblcbccchlljhaa.Fl
open Wy
section
variable {α : Type} {p : Prob α} {m : (Nat → α) → Nat} {b i : Nat} {fs0 fs : Nat → α} {ch : Bool}
/-- A sweep over the first i of those from which block b's facts come. -/
structure Swp (p : Prob α) (m : (Nat → α) → Nat) (b : Nat) (fs0 fs : Nat → α) (i : Nat) (ch : Bool) : Prop where
  come : p.Come fs
  other : ∀ x, x ≠ b → fs x = fs0 x
  no : ch = false → fs = fs0 ∧ ∀ a ∈ (p.frm b).take i, p.does fs0 b a = false
  yes : ch = true → m fs < m fs0
theorem Swp.start (hc : p.Come fs0) : Swp p m b fs0 fs0 0 false := ⟨hc, fun _ _ => rfl, fun _ => ⟨rfl, fun a h => by simp at h⟩, fun h => by cases h⟩
theorem Swp.step (h : Swp p m b fs0 fs i ch) (ok : p.Ok m) (hb : b < p.n) {a : Nat} (hi : (p.frm b)[i]? = some a) : Swp p m b fs0 (p.step fs b a) (i + 1) (ch || p.does fs b a) := by
  have hm : a ∈ p.frm b := List.mem_of_getElem? hi
  have ha := ok.frm_lt b hb a hm
  have hlt := (List.getElem?_eq_some_iff.1 hi).1
  refine ⟨h.come.step hb ha hm, fun x hx => ?_, fun hno => ?_, fun hyes => ?_⟩
  · simp only [Prob.step, if_neg hx]
    exact h.other x hx
  · simp only [Bool.or_eq_false_iff] at hno
    obtain ⟨e, hall⟩ := h.no hno.1
    refine ⟨(ok.stay fs b a h.come hb ha hm hno.2).trans e, fun c hc => ?_⟩
    rw [List.take_succ_eq_append_getElem hlt] at hc
    rcases List.mem_append.1 hc with q | q
    · exact hall c q
    · simp only [List.mem_singleton] at q
      have : c = a := by
        rw [q]
        exact (List.getElem?_eq_some_iff.1 hi).2
      rw [this, ← e]
      exact hno.2
  · cases hd : p.does fs b a
    · rw [ok.stay fs b a h.come hb ha hm hd]
      exact h.yes (by simpa [hd] using hyes)
    · have h1 := ok.less fs b a h.come hb ha hm hd
      cases hch : ch
      · rw [(h.no hch).1] at h1 ⊢
        exact h1
      · exact Nat.lt_trans h1 (h.yes hch)
/-- All but those in the row are settled. -/
def Settled (p : Prob α) (fs : Nat → α) (q : List Nat) : Prop := ∀ x, x < p.n → ¬ x ∈ q → ∀ a ∈ p.frm x, p.does fs x a = false
theorem Settled.still (h : Settled p fs []) : p.Still fs := fun b hb a ha => h b hb (by simp) a ha
theorem Settled.start (p : Prob α) (fs : Nat → α) {q : List Nat} (hq : ∀ x, x < p.n → x ∈ q) : Settled p fs q := fun x hx hn => absurd (hq x hx) hn
/-- The first one is settled. -/
theorem Settled.no {x : Nat} {q : List Nat} (h : Settled p fs0 (x :: q)) (hs : Swp p m x fs0 fs (p.frm x).length false) : Settled p fs q := by
  obtain ⟨rfl, hall⟩ := hs.no rfl
  intro y hy hn a ha
  by_cases e : y = x
  · subst e
    exact hall a (by rw [List.take_length]; exact ha)
  · exact h y hy (by simp [e, hn]) a ha
/-- The first one has changed: it and all that its facts go to come into the row. -/
theorem Settled.yes {x : Nat} {q q' : List Nat} (h : Settled p fs0 (x :: q)) (hs : Swp p m x fs0 fs (p.frm x).length true) (hx : x ∈ q') (hsub : ∀ y ∈ q, y ∈ q') (hto : ∀ y, y < p.n → x ∈ p.frm y → y ∈ q') : Settled p fs q' := by
  intro y hy hn a ha
  have hyx : y ≠ x := fun e => hn (by rw [e]; exact hx)
  have hax : a ≠ x := fun e => hn (hto y hy (by rw [← e]; exact ha))
  have := h y hy (by
    intro hm
    rcases List.mem_cons.1 hm with e | e
    · exact hyx e
    · exact hn (hsub y e)) a ha
  unfold Prob.does at this ⊢
  rw [hs.other y hyx, hs.other a hax]
  exact this
end
/-- The least of the numbers that fit. -/
theorem least_ex {R : Nat → Prop} (h : ∃ M, R M) : ∃ M, R M ∧ ∀ M', R M' → M ≤ M' := by
  obtain ⟨M, hM⟩ := h
  induction M using Nat.strongRecOn with
  | ind M ih =>
    by_cases e : ∃ M', M' < M ∧ R M'
    · obtain ⟨M', h1, h2⟩ := e
      exact ih M' h1 h2
    · refine ⟨M, hM, fun M' h' => ?_⟩
      refine Classical.byContradiction fun hn => e ⟨M', by omega, h'⟩
open Classical in
noncomputable def mu (R : Nat → Prop) : Nat := if h : ∃ M, R M ∧ ∀ M', R M' → M ≤ M' then Classical.choose h else 0
theorem mu_at {R : Nat → Prop} (h : ∃ M, R M) : R (mu R) := by
  have h' := least_ex h
  unfold mu
  rw [dif_pos h']
  exact (Classical.choose_spec h').1
theorem mu_le {R : Nat → Prop} {M : Nat} (h : R M) : mu R ≤ M := by
  have h' := least_ex ⟨M, h⟩
  unfold mu
  rw [dif_pos h']
  exact (Classical.choose_spec h').2 M h
end Go.Proofs.Ytblcbccchlljhaa.Fl
