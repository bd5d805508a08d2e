/- What a reader has taken: the number, the instruction, what is left, the fault; how readings are put together. -/
import Derived.Test.YtbjnhicikkjadaaWs
import Derived.Test.YtbjnhicikkjadaaL3
namespace Go.Proofs.Ytbjnhicikkjadaa.Wire
open Leb Ir

/-- From xs on, with the fault c0 so far, P was read: a, and ys is left, the fault is c. -/
def Took {α : Type} (P : List Int → Pr α) (xs : List Int) (c0 : Int) (a : α) (ys : List Int) (c : Int) : Prop :=
  (c0 = 0 ∧ P xs = .inl (a, ys) ∧ c = 0) ∨ (c0 = 0 ∧ P xs = .inr c ∧ c ≠ 0) ∨ (c0 ≠ 0 ∧ c = c0)
theorem Took.bind {α β : Type} {P : List Int → Pr α} {Q : α → List Int → Pr β} {xs ys zs : List Int} {c0 c1 c2 : Int} {a : α} {b : β} (h1 : Took P xs c0 a ys c1) (h2 : Took (Q a) ys c1 b zs c2) : Took (fun xs => (P xs).bind Q) xs c0 b zs c2 := by
  rcases h1 with ⟨h, hp, hc⟩ | ⟨h, hp, hc⟩ | ⟨h, hc⟩
  · subst h hc
    rcases h2 with ⟨_, hq, hd⟩ | ⟨_, hq, hd⟩ | ⟨h, _⟩
    · exact .inl ⟨rfl, by simp only [hp, Pr.bind]; exact hq, hd⟩
    · exact .inr (.inl ⟨rfl, by simp only [hp, Pr.bind]; exact hq, hd⟩)
    · exact absurd rfl h
  · rcases h2 with ⟨h', _⟩ | ⟨h', _⟩ | ⟨h', hd⟩
    · exact absurd h' hc
    · exact absurd h' hc
    · subst hd
      exact .inr (.inl ⟨h, by simp only [hp, Pr.bind], hc⟩)
  · rcases h2 with ⟨h', _⟩ | ⟨h', _⟩ | ⟨h', hd⟩
    · exact absurd (hc.symm.trans h') h
    · exact absurd (hc.symm.trans h') h
    · exact .inr (.inr ⟨h, hd.trans hc⟩)
theorem Took.pure {α : Type} (a : α) (xs : List Int) (c : Int) : Took (fun xs => .inl (a, xs)) xs c a xs c := by
  by_cases h : c = 0
  · exact .inl ⟨h, rfl, h⟩
  · exact .inr (.inr ⟨h, rfl⟩)
theorem Took.fail {α : Type} (a : α) (xs : List Int) (c k : Int) (hk : k ≠ 0) : Took (fun _ => (.inr k : Pr α)) xs c a xs (failed c k) := by
  by_cases h : c = 0
  · subst h
    rw [failed_zero]
    exact .inr (.inl ⟨rfl, rfl, hk⟩)
  · rw [failed_ne h]
    exact .inr (.inr ⟨h, rfl⟩)
theorem Took.any {α : Type} {P : List Int → Pr α} {xs ys : List Int} {c0 c : Int} {a : α} (h : Took P xs c0 a ys c) (hc : c ≠ 0) (a' : α) (ys' : List Int) : Took P xs c0 a' ys' c := by
  rcases h with ⟨_, _, h⟩ | h | h
  · exact absurd h hc
  · exact .inr (.inl h)
  · exact .inr (.inr h)
/-- Where there is a fault nothing is taken. -/
theorem Took.stay {α : Type} (P : List Int → Pr α) {c : Int} (hc : c ≠ 0) (a : α) (xs : List Int) : Took P xs c a xs c := .inr (.inr ⟨hc, rfl⟩)
theorem took_num (xs : List Int) (c : Int) : Took numP xs c (numA xs c) (numL xs c) (numC xs c) := by
  by_cases h : c = 0
  · subst h
    by_cases h2 : (num 0 0 xs).2.2 = 0
    · refine .inl ⟨rfl, ?_, ?_⟩
      · unfold numP numA numL
        rw [if_pos h2]
        rfl
      · unfold numC
        rw [if_pos rfl, h2]
    · refine .inr (.inl ⟨rfl, ?_, ?_⟩)
      · unfold numP numC
        rw [if_neg h2]
        rfl
      · unfold numC
        rw [if_pos rfl]
        exact h2
  · refine .inr (.inr ⟨h, ?_⟩)
    unfold numC
    rw [if_neg h]
theorem took_bel (xs : List Int) (c : Int) (lim : Nat) (hl : 0 < lim) : Took (belP lim) xs c (belA (numA xs c) lim) (numL xs c) (belC (numA xs c) (numC xs c) lim) := by
  refine Took.bind (took_num xs c) ?_
  by_cases h : numA xs c < lim
  · have e1 : belA (numA xs c) lim = numA xs c := by unfold belA; rw [if_neg (by omega)]
    have e2 : belC (numA xs c) (numC xs c) lim = numC xs c := by unfold belC; rw [if_neg (by omega)]
    rw [e1, e2]
    simp only [if_pos h]
    exact Took.pure _ _ _
  · have e2 : belC (numA xs c) (numC xs c) lim = failed (numC xs c) 2 := by unfold belC; rw [if_pos (by omega)]
    rw [e2]
    simp only [if_neg h]
    exact Took.fail _ _ _ _ (by decide)
theorem belA_in (n lim : Nat) (hl : 0 < lim) : 0 ≤ belA n lim ∧ belA n lim < lim := by
  unfold belA
  split <;> omega
theorem took_int (xs : List Int) (c : Int) : Took (fun xs => (numP xs).bind fun n r => .inl (zag n, r)) xs c (zag (numA xs c)) (numL xs c) (numC xs c) := Took.bind (took_num xs c) (Took.pure _ _ _)
/-- So many of them. -/
def repP {α : Type} (P : List Int → Pr α) : Nat → List Int → Pr (List α)
  | 0, xs => .inl ([], xs)
  | c + 1, xs => (P xs).bind fun a r => (repP P c r).bind fun l r => .inl (a :: l, r)
def listP {α : Type} (P : List Int → Pr α) (most : Nat) (xs : List Int) : Pr (List α) := (belP (most + 1) xs).bind fun n r => repP P n.toNat r
theorem Took.cons {α : Type} {P : List Int → Pr α} {n : Nat} {xs ys zs : List Int} {c0 c1 c2 : Int} {a : α} {l : List α} (h1 : Took P xs c0 a ys c1) (h2 : Took (repP P n) ys c1 l zs c2) : Took (repP P (n + 1)) xs c0 (a :: l) zs c2 :=
  Took.bind h1 (Took.bind h2 (Took.pure _ _ _))
theorem argsP_rep : ∀ c xs, argsP c xs = repP (belP 4096) c xs
  | 0, _ => rfl
  | c + 1, xs => by simp only [argsP, repP, argsP_rep c]
theorem inssP_rep : ∀ c xs, inssP c xs = repP insP c xs
  | 0, _ => rfl
  | c + 1, xs => by simp only [inssP, repP, inssP_rep c]
theorem blksP_rep (most : Nat) : ∀ c xs, blksP most c xs = repP (blkP most) c xs
  | 0, _ => rfl
  | c + 1, xs => by simp only [blksP, repP, blksP_rep most c]
theorem prsP_rep : ∀ c xs, prsP c xs = repP prP c xs
  | 0, _ => rfl
  | c + 1, xs => by simp only [prsP, repP, prsP_rep c]
theorem lstsP_rep : ∀ c xs, lstsP c xs = repP lstP c xs
  | 0, _ => rfl
  | c + 1, xs => by simp only [lstsP, repP, lstsP_rep c]
theorem Took.congr {α : Type} {P Q : List Int → Pr α} {xs ys : List Int} {c0 c : Int} {a : α} (h : Took P xs c0 a ys c) (e : P xs = Q xs) : Took Q xs c0 a ys c := by
  unfold Took at *
  rw [← e]
  exact h
end Go.Proofs.Ytbjnhicikkjadaa.Wire
