/- Certificates as bytes, in plain mathematics; whole readings (what is left is a fault, and what is not right); what right functions and code are written as. -/
import Derived.Test.YtbjnhicikkjadabWr
namespace Go.Proofs.Ytbjnhicikkjadab.Wire
open Leb Ir

structure Pair where
  v : Int
  l : Int
def prP (xs : List Int) : Pr Pair := (belP 4096 xs).bind fun v r => (belP 4096 r).bind fun l r => .inl (⟨v, l⟩, r)
def prsP : Nat → List Int → Pr (List Pair)
  | 0, xs => .inl ([], xs)
  | c + 1, xs => (prP xs).bind fun a r => (prsP c r).bind fun as r => .inl (a :: as, r)
def lstP (xs : List Int) : Pr (List Pair) := (belP 65536 xs).bind fun n r => prsP n.toNat r
def lstsP : Nat → List Int → Pr (List (List Pair))
  | 0, xs => .inl ([], xs)
  | c + 1, xs => (lstP xs).bind fun a r => (lstsP c r).bind fun as r => .inl (a :: as, r)
def cerP (xs : List Int) : Pr (List (List Pair)) := (belP 17 xs).bind fun n r => lstsP n.toNat r
theorem lc_pr : Lc prP := Lc.bind (lc_bel _) fun _ => Lc.bind (lc_bel _) fun _ => Lc.pure _
theorem lc_prs : ∀ c, Lc (prsP c)
  | 0 => Lc.pure _
  | c + 1 => Lc.bind lc_pr fun _ => Lc.bind (lc_prs c) fun _ => Lc.pure _
theorem lc_lst : Lc lstP := Lc.bind (lc_bel _) fun n => lc_prs n.toNat
theorem lc_lsts : ∀ c, Lc (lstsP c)
  | 0 => Lc.pure _
  | c + 1 => Lc.bind lc_lst fun _ => Lc.bind (lc_lsts c) fun _ => Lc.pure _
theorem lc_cer : Lc cerP := Lc.bind (lc_bel _) fun n => lc_lsts n.toNat
def prB (p : Pair) : List Int := nb p.v ++ nb p.l
def lstB (l : List Pair) : List Int := enc l.length ++ l.flatMap prB
def cerB (l : List (List Pair)) : List Int := enc l.length ++ l.flatMap lstB
def WfP (p : Pair) : Prop := (0 ≤ p.v ∧ p.v < 4096) ∧ 0 ≤ p.l ∧ p.l < 4096
def WfC (l : List (List Pair)) : Prop := l.length ≤ 16 ∧ ∀ x ∈ l, x.length < 65536 ∧ ∀ p ∈ x, WfP p
theorem prP_back {p : Pair} (h : WfP p) (r : List Int) : prP (prB p ++ r) = .inl (p, r) := by
  unfold prP prB
  rw [List.append_assoc, belP_4 h.1, inl_bind, belP_4 h.2, inl_bind]
theorem prsP_back : ∀ (l : List Pair), (∀ p ∈ l, WfP p) → ∀ r, prsP l.length (l.flatMap prB ++ r) = .inl (l, r)
  | [], _, _ => rfl
  | x :: l, h, r => by
    show (prP ((prB x ++ l.flatMap prB) ++ r)).bind _ = _
    rw [List.append_assoc, prP_back (h x (by simp)), inl_bind, prsP_back l (fun y hy => h y (by simp [hy])) r]
    rfl
theorem lstP_back {l : List Pair} (hl : l.length < 65536) (h : ∀ p ∈ l, WfP p) (r : List Int) : lstP (lstB l ++ r) = .inl (l, r) := by
  unfold lstP lstB
  rw [List.append_assoc, belP_enc (lim := 65536) hl (by omega), inl_bind, Int.toNat_natCast, prsP_back l h]
theorem lstsP_back : ∀ (l : List (List Pair)), (∀ x ∈ l, x.length < 65536 ∧ ∀ p ∈ x, WfP p) → ∀ r, lstsP l.length (l.flatMap lstB ++ r) = .inl (l, r)
  | [], _, _ => rfl
  | x :: l, h, r => by
    show (lstP ((lstB x ++ l.flatMap lstB) ++ r)).bind _ = _
    rw [List.append_assoc, lstP_back (h x (by simp)).1 (h x (by simp)).2, inl_bind, lstsP_back l (fun y hy => h y (by simp [hy])) r]
    rfl
theorem cerP_back {l : List (List Pair)} (h : WfC l) (r : List Int) : cerP (cerB l ++ r) = .inl (l, r) := by
  unfold cerP cerB
  rw [List.append_assoc, belP_enc (lim := 17) (by have := h.1; omega) (by omega), inl_bind, Int.toNat_natCast, lstsP_back l h.2]
theorem prP_inv {xs r : List Int} {p : Pair} (hx : Bs xs) (h : prP xs = .inl (p, r)) : xs = prB p ++ r ∧ WfP p := by
  obtain ⟨v, r1, h1, h2⟩ := bind_inl h
  obtain ⟨rfl, v0, v1⟩ := belP_inv hx h1
  obtain ⟨l, r2, h3, h4⟩ := bind_inl h2
  obtain ⟨rfl, l0, l1⟩ := belP_inv hx.right h3
  obtain ⟨rfl, rfl⟩ := inl_eq h4
  exact ⟨by simp [prB], ⟨v0, v1⟩, l0, l1⟩
theorem prsP_inv : ∀ (c : Nat) {xs r : List Int} {l : List Pair}, Bs xs → prsP c xs = .inl (l, r) → l.length = c ∧ xs = l.flatMap prB ++ r ∧ ∀ p ∈ l, WfP p
  | 0, xs, r, l, _, h => by
    obtain ⟨rfl, rfl⟩ := inl_eq h
    exact ⟨rfl, rfl, fun x hx => by simp at hx⟩
  | c + 1, xs, r, l, hx, h => by
    obtain ⟨a, r1, h1, h2⟩ := bind_inl h
    obtain ⟨rfl, hw⟩ := prP_inv hx h1
    obtain ⟨as, r2, h3, h4⟩ := bind_inl h2
    obtain ⟨g1, rfl, g3⟩ := prsP_inv c hx.right h3
    obtain ⟨rfl, rfl⟩ := inl_eq h4
    refine ⟨by simp [g1], by simp, fun x hx => ?_⟩
    rcases List.mem_cons.1 hx with rfl | hx
    · exact hw
    · exact g3 x hx
theorem lstP_inv {xs r : List Int} {l : List Pair} (hx : Bs xs) (h : lstP xs = .inl (l, r)) : xs = lstB l ++ r ∧ l.length < 65536 ∧ ∀ p ∈ l, WfP p := by
  obtain ⟨m, r1, h1, h2⟩ := bind_inl h
  obtain ⟨rfl, m0, m1⟩ := belP_inv hx h1
  obtain ⟨g1, rfl, g3⟩ := prsP_inv _ hx.right h2
  exact ⟨by simp [lstB, nb, g1], by omega, g3⟩
theorem lstsP_inv : ∀ (c : Nat) {xs r : List Int} {l : List (List Pair)}, Bs xs → lstsP c xs = .inl (l, r) → l.length = c ∧ xs = l.flatMap lstB ++ r ∧ ∀ x ∈ l, x.length < 65536 ∧ ∀ p ∈ x, WfP p
  | 0, xs, r, l, _, h => by
    obtain ⟨rfl, rfl⟩ := inl_eq h
    exact ⟨rfl, rfl, fun x hx => by simp at hx⟩
  | c + 1, xs, r, l, hx, h => by
    obtain ⟨a, r1, h1, h2⟩ := bind_inl h
    obtain ⟨rfl, hw⟩ := lstP_inv hx h1
    obtain ⟨as, r2, h3, h4⟩ := bind_inl h2
    obtain ⟨g1, rfl, g3⟩ := lstsP_inv c hx.right h3
    obtain ⟨rfl, rfl⟩ := inl_eq h4
    refine ⟨by simp [g1], by simp, fun x hx => ?_⟩
    rcases List.mem_cons.1 hx with rfl | hx
    · exact hw
    · exact g3 x hx
theorem cerP_inv {xs r : List Int} {l : List (List Pair)} (hx : Bs xs) (h : cerP xs = .inl (l, r)) : xs = cerB l ++ r ∧ WfC l := by
  obtain ⟨m, r1, h1, h2⟩ := bind_inl h
  obtain ⟨rfl, m0, m1⟩ := belP_inv hx h1
  obtain ⟨g1, rfl, g3⟩ := lstsP_inv _ hx.right h2
  exact ⟨by simp [cerB, nb, g1], by omega, g3⟩

/-! ### Whole readings -/
/-- What is read of all bytes: z, with the fault's number, where there is one. -/
def rd {α : Type} (z : α) (p : List Int → Pr α) (ok : α → Bool) (xs : List Int) : α × Int :=
  match p xs with
  | .inr c => (z, c)
  | .inl x => if x.2 ≠ [] then (z, 5) else if ok x.1 then (x.1, 0) else (z, 30)
theorem rd_of {α : Type} {z a : α} {p : List Int → Pr α} {ok : α → Bool} {xs : List Int} (h : p xs = .inl (a, [])) (h2 : ok a = true) : rd z p ok xs = (a, 0) := by
  unfold rd
  rw [h]
  simp [h2]
theorem rd_cut {α : Type} {z a : α} {p : List Int → Pr α} {ok : α → Bool} {xs : List Int} (hp : Lc p) (h : p xs = .inl (a, [])) {c : Nat} (hc : c < xs.length) : rd z p ok (xs.take c) = (z, 3) := by
  obtain ⟨pre, e, _, h3⟩ := hp xs a [] h
  rw [List.append_nil] at e
  subst e
  unfold rd
  rw [h3 c hc]
theorem rd_more {α : Type} {z a : α} {p : List Int → Pr α} {ok : α → Bool} {xs ys : List Int} (hp : Lc p) (h : p xs = .inl (a, [])) (hy : ys ≠ []) : rd z p ok (xs ++ ys) = (z, 5) := by
  obtain ⟨pre, e, h2, _⟩ := hp xs a [] h
  rw [List.append_nil] at e
  subst e
  unfold rd
  rw [h2 ys]
  simp [hy]
theorem rd_zero {α : Type} {z a : α} {p : List Int → Pr α} {ok : α → Bool} {xs : List Int} (h : rd z p ok xs = (a, 0)) (hp : ∀ c, p xs = .inr c → c ≠ 0) : p xs = .inl (a, []) ∧ ok a = true := by
  unfold rd at h
  cases hq : p xs with
  | inr c =>
    rw [hq] at h
    simp only [Prod.mk.injEq] at h
    exact absurd h.2 (hp c hq)
  | inl x =>
    obtain ⟨b, r⟩ := x
    rw [hq] at h
    by_cases hr : r = []
    · subst hr
      by_cases ho : ok b = true
      · simp [ho] at h
        subst h
        exact ⟨rfl, ho⟩
      · simp [ho] at h
    · simp [hr] at h

/-! ### What is right can be written -/
/-- Constants and numbers of calls are such as an int64 has. -/
def Rng (i : Ins) : Prop := -9223372036854775808 ≤ i.n ∧ i.n ≤ 9223372036854775807
theorem kindOf {i : Ins} {v : Int} (h : inF i v = 0) : 1 ≤ i.k ∧ i.k ≤ 6 := by
  have h1 := (inF_all h).1
  unfold formed at h1
  by_cases e1 : i.k = 1
  · omega
  by_cases e2 : i.k = 2 ∨ i.k = 4
  · omega
  by_cases e3 : i.k = 3
  · omega
  by_cases e5 : i.k = 5
  · omega
  by_cases e6 : i.k = 6
  · omega
  simp [e1, e2, e3, e5, e6] at h1
theorem wfI_of {i : Ins} {v : Int} (h : inF i v = 0) (hv : v ≤ 4096) (hn : Rng i) : WfI i := by
  obtain ⟨h1, h2, h3⟩ := inF_all h
  have hx : ∀ x ∈ named i, 0 ≤ x ∧ x < v := h3
  have hk := kindOf h
  unfold formed at h1
  simp only [named, uses, gives] at hx
  unfold Rng at hn
  by_cases e1 : i.k = 1
  · simp [e1] at hx h1
    constructor <;> simp [e1, h1] <;> omega
  by_cases e2 : i.k = 2
  · simp [e2] at hx h1
    constructor <;> simp [e2, h1] <;> omega
  by_cases e3 : i.k = 3
  · simp [e3] at hx h1
    constructor <;> simp [e3, h1] <;> omega
  by_cases e4 : i.k = 4
  · simp [e4] at hx h1
    constructor <;> simp [e4, h1] <;> omega
  by_cases e5 : i.k = 5
  · simp [e5] at hx h1
    constructor <;> simp [e5, h1] <;> omega
  have e6 : i.k = 6 := by omega
  simp [e6] at hx h1
  constructor <;> simp [e6, h1]
  · have := hx i.d (.inr rfl)
    omega
  · omega
  · exact ⟨by omega, fun x h => by have := hx x (.inl h); omega⟩
theorem wfE_of {e : En} {v nb : Int} (h : endF e v nb = 0) (hv : v ≤ 4096) (hn : nb ≤ 4096) : WfE e := by
  obtain ⟨h1, h2, h3⟩ := endF_all h
  unfold endFormed at h1
  unfold targets at h3
  unfold takes at h2
  by_cases e1 : e.k = 1
  · simp [e1] at h1 h3
    constructor <;> simp [e1, h1] <;> omega
  by_cases e2 : e.k = 2
  · simp [e2] at h2 h3
    constructor <;> simp [e2] <;> omega
  by_cases e3 : e.k = 3
  · simp [e3] at h1 h2
    constructor <;> simp [e3, h1] <;> omega
  simp [e1, e2, e3] at h1
theorem wfB_of {b : Blk} {v nb : Int} (h : (blkF b v nb).1 = 0) (hv : v ≤ 4096) (hn : nb ≤ 4096) (hr : ∀ i ∈ b.ins, Rng i) : WfB 32 b := by
  obtain ⟨h1, h2, h3⟩ := blkF_all h
  exact ⟨h1, fun i hi => wfI_of (h2 i hi) hv (hr i hi), wfE_of h3 hv hn⟩
theorem wfM_of {i : Ins} {r s : Int} (h : mF i r s = 0) (hr : r ≤ 4096) (hs : s ≤ 4096) (hn : Rng i) : WfI i := by
  unfold mF at h
  by_cases k7 : i.k = 7
  · rw [if_pos k7] at h
    obtain ⟨g1, g2, g3⟩ := slF_all h
    have ha : i.args = [] := List.eq_nil_of_length_eq_zero g1.2.2.2
    constructor <;> simp [k7, g1, ha] <;> omega
  · rw [if_neg k7] at h
    by_cases k8 : i.k = 8
    · rw [if_pos k8] at h
      obtain ⟨g1, g2, g3⟩ := slF_all h
      have ha : i.args = [] := List.eq_nil_of_length_eq_zero g1.2.2.2
      constructor <;> simp [k8, g1, ha] <;> omega
    · rw [if_neg k8] at h
      exact wfI_of (ofR_zero.1 h) hr hn
theorem wfMB_of {b : Blk} {r s nb : Int} (h : (mbF b r s nb).1 = 0) (hr : r ≤ 4096) (hs : s ≤ 4096) (hn : nb ≤ 4096) (hg : ∀ i ∈ b.ins, Rng i) : WfB 400 b := by
  obtain ⟨h1, h2, h3⟩ := mbF_all h
  exact ⟨h1, fun i hi => wfM_of (h2 i hi) hr hs (hg i hi), wfE_of (ofR_zero.1 h3) hr hn⟩
theorem funP_right {F : Fun} (h : (chk F).1 = 0) (hr : ∀ b ∈ F.bs, ∀ i ∈ b.ins, Rng i) (r : List Int) : funP (funB F ++ r) = .inl (F, r) := by
  obtain ⟨h1, h2⟩ := chk_all h
  simp only [sized, decide_eq_true_eq] at h1
  exact funP_back (by omega) (by omega) (by omega) (fun b hb => wfB_of (h2 b hb) (by omega) (by omega) (hr b hb)) r
theorem codP_right {C : Cod} (h : (mchk C).1 = 0) (hr : ∀ b ∈ C.bs, ∀ i ∈ b.ins, Rng i) (r : List Int) : codP (codB C ++ r) = .inl (C, r) := by
  obtain ⟨h1, h2⟩ := mchk_all h
  simp only [msz, decide_eq_true_eq] at h1
  exact codP_back (by omega) (by omega) (by omega) (by omega) (fun b hb => wfMB_of (h2 b hb) (by omega) (by omega) (by omega) (hr b hb)) r
/-- Unlike functions have unlike bytes. -/
theorem funB_inj {F G : Fun} (hF : (chk F).1 = 0) (hG : (chk G).1 = 0) (rF : ∀ b ∈ F.bs, ∀ i ∈ b.ins, Rng i) (rG : ∀ b ∈ G.bs, ∀ i ∈ b.ins, Rng i) (h : funB F = funB G) : F = G := by
  have h1 := funP_right hF rF []
  have h2 := funP_right hG rG []
  rw [h] at h1
  rw [h1] at h2
  exact (inl_eq h2).1
end Go.Proofs.Ytbjnhicikkjadab.Wire
