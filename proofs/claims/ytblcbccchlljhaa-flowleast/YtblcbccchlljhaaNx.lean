/- The ends of blocks as ways: what follows, what each follows, what is come to. -/
import Derived.Test.YtblcbccchlljhaaDm
import Derived.Test.YtblcbccchlljhaaIr
namespace Go.Proofs.Ytblcbccchlljhaa
namespace Wy
open Ir
theorem getD_get {α : Type} (l : List α) (i : Nat) (d : α) (h : i < l.length) : l.getD i d = l[i] := by simp [h]
/-- The numbers that follow an end. -/
def fol (e : En) : List Int := if e.k = 1 then [e.to] else if e.k = 2 then (if e.to = e.el then [e.to] else [e.to, e.el]) else []
theorem fol_len (e : En) : (fol e).length ≤ 2 := by
  unfold fol
  split
  · simp
  · split
    · split <;> simp
    · simp
theorem fol_nodup (e : En) : (fol e).Nodup := by
  unfold fol
  split
  · simp
  · split
    · split
      · simp
      · rename_i h; simp [h]
    · simp
theorem fol_mem (e : En) (x : Int) : x ∈ fol e ↔ x ∈ targets e := by
  unfold fol targets
  split
  · simp
  · split
    · split
      · rename_i h; simp [← h]
      · simp
    · simp
/-- All ends lead to blocks that are there. -/
def EndsIn (es : List En) : Prop := ∀ e ∈ es, ∀ x ∈ fol e, 0 ≤ x ∧ x < es.length
/-- What follows block b. -/
def nxE (es : List En) (b : Nat) : List Nat := (fol (es.getD b En.zero)).map Int.toNat
theorem fol_zero : fol En.zero = [] := by unfold fol En.zero; simp
theorem EndsIn.at {es : List En} (h : EndsIn es) (b : Nat) : ∀ x ∈ fol (es.getD b En.zero), 0 ≤ x ∧ x < es.length := by
  intro x hx
  by_cases hb : b < es.length
  · refine h (es.getD b En.zero) ?_ x hx
    simp [hb]
  · rw [show es.getD b En.zero = En.zero by simp [List.getElem?_eq_none (Nat.le_of_not_lt hb)], fol_zero] at hx
    cases hx
theorem EndsIn.nx {es : List En} (h : EndsIn es) : ∀ x, x < es.length → ∀ c ∈ nxE es x, c < es.length := by
  intro x _ c hc
  obtain ⟨y, hy, rfl⟩ := List.mem_map.1 hc
  have := h.at x y hy
  omega
theorem EndsIn.ints {es : List En} (h : EndsIn es) (b : Nat) : (nxE es b).map (fun c : Nat => (c : Int)) = fol (es.getD b En.zero) := by
  unfold nxE
  rw [List.map_map]
  conv => rhs; rw [← List.map_id (fol (es.getD b En.zero))]
  refine List.map_congr_left fun x hx => ?_
  have := h.at b x hx
  simp
  omega
theorem nx_len (es : List En) (b : Nat) : (nxE es b).length ≤ 2 := by
  unfold nxE
  rw [List.length_map]
  exact fol_len _
theorem EndsIn.nodup {es : List En} (h : EndsIn es) (b : Nat) : (nxE es b).Nodup := by
  have h1 := fol_nodup (es.getD b En.zero)
  rw [← h.ints b] at h1
  have h2 := List.pairwise_map.1 h1
  exact h2.imp fun hab e => hab (by rw [e])
theorem nx_getD {es : List En} (h : EndsIn es) (b i : Nat) (hi : i < (nxE es b).length) : (fol (es.getD b En.zero)).getD i 0 = (((nxE es b).getD i 0 : Nat) : Int) ∧ (nxE es b).getD i 0 < es.length := by
  have hl : i < (fol (es.getD b En.zero)).length := by unfold nxE at hi; rwa [List.length_map] at hi
  have h1 : (nxE es b).getD i 0 = ((fol (es.getD b En.zero)).getD i 0).toNat := by
    rw [getD_get _ _ _ hi, getD_get _ _ _ hl]
    simp [nxE]
  have h2 := h.at b ((fol (es.getD b En.zero)).getD i 0) (by rw [getD_get _ _ _ hl]; exact List.getElem_mem hl)
  rw [h1]
  omega
/-- What block b follows, among the first n. -/
def ahd (nx : Nat → List Nat) (n b : Nat) : List Nat := (List.range n).filter fun a => (nx a).contains b
theorem ahd_succ (nx : Nat → List Nat) (n b : Nat) : ahd nx (n + 1) b = ahd nx n b ++ (if b ∈ nx n then [n] else []) := by
  unfold ahd
  rw [List.range_succ, List.filter_append]
  congr 1
  by_cases h : b ∈ nx n <;> simp [h]
theorem mem_ahd (nx : Nat → List Nat) (n b a : Nat) : a ∈ ahd nx n b ↔ a < n ∧ b ∈ nx a := by
  unfold ahd
  simp
theorem ahd_len (nx : Nat → List Nat) (n b : Nat) : (ahd nx n b).length ≤ n := by
  unfold ahd
  refine Nat.le_trans (List.length_filter_le _ _) ?_
  simp
/-- Of each block those that it follows, behind a blocks whole and j followers of the next. -/
def ahr (nx : Nat → List Nat) (a j b : Nat) : List Nat := ahd nx a b ++ (if b ∈ (nx a).take j then [a] else [])
theorem ahr_zero (nx : Nat → List Nat) (a b : Nat) : ahr nx a 0 b = ahd nx a b := by simp [ahr]
theorem ahr_all (nx : Nat → List Nat) (a b : Nat) : ahr nx a (nx a).length b = ahd nx (a + 1) b := by
  rw [ahd_succ, ahr, List.take_length]
theorem ahr_len (nx : Nat → List Nat) (a j b : Nat) : (ahr nx a j b).length ≤ a + 1 := by
  unfold ahr
  have := ahd_len nx a b
  rw [List.length_append]
  split <;> simp <;> omega
theorem ahr_hit {nx : Nat → List Nat} {a j : Nat} (hj : j < (nx a).length) (hn : (nx a).Nodup) : ahr nx a (j + 1) ((nx a).getD j 0) = ahr nx a j ((nx a).getD j 0) ++ [a] := by
  unfold ahr
  have h0 : (nx a).getD j 0 = (nx a)[j] := getD_get _ _ _ hj
  have h1 : (nx a).getD j 0 ∈ (nx a).take (j + 1) := by
    rw [h0, List.mem_take_iff_getElem]
    exact ⟨j, by omega, rfl⟩
  have h2 : ¬ (nx a).getD j 0 ∈ (nx a).take j := by
    rw [h0, List.mem_take_iff_getElem]
    rintro ⟨i, hi, e⟩
    exact absurd e (List.pairwise_iff_getElem.1 hn i j (by omega) hj (by omega))
  rw [if_pos h1, if_neg h2, List.append_nil]
theorem ahr_miss {nx : Nat → List Nat} {a j b : Nat} (hj : j < (nx a).length) (hb : b ≠ (nx a).getD j 0) : ahr nx a (j + 1) b = ahr nx a j b := by
  unfold ahr
  have h0 : (nx a).getD j 0 = (nx a)[j] := getD_get _ _ _ hj
  congr 1
  rw [List.take_succ_eq_append_getElem hj]
  rw [← h0]
  simp only [List.mem_append, List.mem_singleton, hb, or_false]
/-- Going down from what follows, i of them already. -/
def dnF (nx : Nat → List Nat) (f : Nat) (s : List Nat × (Nat → Bool)) (l : List Nat) : List Nat × (Nat → Bool) := l.foldl (fun s c => if s.2 c then s else dn nx f c s) s
theorem dnF_nil (nx : Nat → List Nat) (f : Nat) (s : List Nat × (Nat → Bool)) : dnF nx f s [] = s := rfl
theorem dnF_skip {nx : Nat → List Nat} {f c : Nat} {s : List Nat × (Nat → Bool)} {l : List Nat} (h : s.2 c = true) : dnF nx f s (c :: l) = dnF nx f s l := by unfold dnF; rw [List.foldl_cons, if_pos h]
theorem dnF_down {nx : Nat → List Nat} {f c : Nat} {s : List Nat × (Nat → Bool)} {l : List Nat} (h : s.2 c = false) : dnF nx f s (c :: l) = dnF nx f (dn nx f c s) l := by unfold dnF; rw [List.foldl_cons, if_neg (by simp [h])]
theorem dn_succ (nx : Nat → List Nat) (f b : Nat) (s : List Nat × (Nat → Bool)) : dn nx (f + 1) b s = ((dnF nx f (s.1, mk s.2 b) (nx b)).1 ++ [b], (dnF nx f (s.1, mk s.2 b) (nx b)).2) := rfl
/-- How long the row may grow. -/
theorem dn_len {nx : Nat → List Nat} {n : Nat} (hnx : ∀ x, x < n → ∀ c ∈ nx x, c < n) {f b : Nat} {s : List Nat × (Nat → Bool)} (hb : b < n) (hs : s.2 b = false) (hl : left s.2 n ≤ f) : (dn nx f b s).1.length + left (dn nx f b s).2 n ≤ s.1.length + left s.2 n ∧ (∀ x, s.2 x = true → (dn nx f b s).2 x = true) ∧ left (dn nx f b s).2 n ≤ left s.2 n := by
  obtain ⟨new, h⟩ := dn_vs hnx f b s hb hs hl
  refine ⟨?_, h.mono, left_le h.mono n⟩
  rw [h.row, List.length_append]
  have key : ∀ (l : List Nat) (p q : Nat → Bool), l.Nodup → (∀ x ∈ l, p x = false ∧ x < n) → (∀ x, q x = true ↔ p x = true ∨ x ∈ l) → left q n + l.length ≤ left p n := by
    intro l
    induction l with
    | nil =>
      intro p q _ _ hq
      have : left q n ≤ left p n := left_le (fun x hx => (hq x).2 (.inl hx)) n
      simpa using this
    | cons c l ih =>
      intro p q hn hf hq
      have hc := hf c (by simp)
      have hn' := List.nodup_cons.1 hn
      have h1 := left_lt (s := p) (t := mk p c) (b := c) (fun x hx => by simp [mk, hx]) hc.1 (by simp [mk]) hc.2
      have h2 := ih (mk p c) q hn'.2 (fun x hx => ⟨by
        have := (hf x (by simp [hx])).1
        have hne : x ≠ c := fun e => hn'.1 (e ▸ hx)
        simp [mk, this, hne], (hf x (by simp [hx])).2⟩) (fun x => by
        rw [hq x]
        simp only [mk, List.mem_cons, Bool.or_eq_true, beq_iff_eq]
        constructor
        · rintro (e | e | e)
          · exact .inl (.inl e)
          · exact .inl (.inr e)
          · exact .inr e
        · rintro ((e | e) | e)
          · exact .inl e
          · exact .inr (.inl e)
          · exact .inr (.inr e))
      simp only [List.length_cons]
      omega
  have := key (new ++ [b]) s.2 (dn nx f b s).2 h.nodup h.fresh h.seen
  omega
end Wy
end Go.Proofs.Ytblcbccchlljhaa
