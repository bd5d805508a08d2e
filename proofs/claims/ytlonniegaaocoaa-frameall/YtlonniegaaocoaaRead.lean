/- The reader's calls Fail, Code, Left, End, Num: what each answers and what it leaves of the reader. -/
import Derived.Test.YtlonniegaaocoaaNumber
namespace Go.Proofs.Ytlonniegaaocoaa
open Go.RowKit

set_option maxHeartbeats 400000 in
theorem fail_any (p b : Nat) (xs : List Int) (code c : Int) (w : World) (h : RdrAt w p b xs code) :
    Calls Try.prog 31 #[.pointer (some ⟨p, 0, none⟩), .int .i64 c] w fun e w' => e = .returned (.tuple #[]) ∧ RdrAt w' p b xs (Leb.failed code c) ∧ w.grownBy w' (some p) := by
  have hR := h
  obtain ⟨v, h1, h2, h3, h4, h5, h6⟩ := h
  by_cases hc : code = 0
  · subst hc
    have hS := hR.setCode c
    have hG := grownBy_setCell w p 1 (.int .i64 c)
    clear hR h5
    rw [Leb.failed_zero]
    go_enter Try.func31, Try.ntmps31
    go_wp2
    go_end0
    exact ⟨rfl, hS, hG⟩
  · rw [Leb.failed_ne hc]
    have hb : (code == 0) = false := by simp [hc]
    clear h5
    go_enter Try.func31, Try.ntmps31
    go_wp2
    go_end0
    exact ⟨rfl, hR, grownBy_refl _ _⟩

set_option maxHeartbeats 400000 in
theorem code_any (p b : Nat) (xs : List Int) (code : Int) (w : World) (h : RdrAt w p b xs code) :
    Calls Try.prog 27 #[.pointer (some ⟨p, 0, none⟩)] w fun e w' => e = .returned (.int .i64 code) ∧ w' = w := by
  obtain ⟨v, h1, h2, h3, h4, h5, h6⟩ := h
  clear h5
  go_enter Try.func27, Try.ntmps27
  go_wp2
  go_ret
  exact ⟨rfl, rfl⟩

set_option maxHeartbeats 400000 in
theorem left_any (p b : Nat) (xs : List Int) (code : Int) (w : World) (h : RdrAt w p b xs code) :
    Calls Try.prog 28 #[.pointer (some ⟨p, 0, none⟩)] w fun e w' => e = .returned (.int .i64 (xs.length : Nat)) ∧ w' = w := by
  obtain ⟨v, h1, h2, h3, h4, h5, h6⟩ := h
  obtain ⟨h0, ao, cap, rfl, _⟩ := h5
  go_enter Try.func28, Try.ntmps28
  go_wp2
  go_ret
  exact ⟨rfl, rfl⟩

set_option maxHeartbeats 400000 in
set_option maxRecDepth 100000 in
theorem num_any (p b : Nat) (xs : List Int) (code : Int) (w : World) (h : RdrAt w p b xs code) :
    Calls Try.prog 26 #[.pointer (some ⟨p, 0, none⟩)] w fun e w' => e = .returned (.int .u64 (Leb.numA xs code)) ∧ RdrAt w' p b (Leb.numL xs code) (Leb.numC xs code) ∧ w.grownBy w' (some p) := by
  have hR := h
  obtain ⟨v, h1, h2, h3, h4, h5, h6⟩ := h
  by_cases hc : code = 0
  · subst hc
    have eA : Leb.numA xs 0 = (Leb.num 0 0 xs).1 := rfl
    have eL : Leb.numL xs 0 = xs.drop (Leb.num 0 0 xs).2.1 := rfl
    have eC : Leb.numC xs 0 = (Leb.num 0 0 xs).2.2 := rfl
    rw [eA, eL, eC]
    clear eA eL eC
    have hnum := number_any v xs w ⟨b, h5⟩
    by_cases hf : (Leb.num 0 0 xs).2.2 = 0
    · have hsz := Leb.num_size xs 0 0 hf
      generalize Leb.num 0 0 xs = r at *
      obtain ⟨n, sz, cd⟩ := r
      simp only at hf hsz hnum
      subst hf
      obtain ⟨off, cap, rfl, hlc, hcm, hcell⟩ : ∃ off cap, v = .slice (some ⟨b, off, none⟩) xs.length cap ∧ xs.length ≤ cap ∧ cap ≤ maxLen ∧ True := by
        obtain ⟨_, ao, cap, rfl, hlc, hcm, _, h⟩ := h5
        obtain ⟨off, rfl, _⟩ := h (by omega)
        exact ⟨off, cap, rfl, hlc, hcm, trivial⟩
      unfold maxLen at hcm
      have hs1 := hsz.1
      have hs2 := hsz.2
      have HN := hide hnum
      clear hnum hsz
      by_cases hcs : sz < cap
      · have hB := h5.drop sz (by omega) (some ⟨b, off + sz, none⟩) (fun o ho _ => by simp at ho; rw [ho]) (by simp)
        have hR2 := hR.setRest hB
        have hG := grownBy_setCell w p 0 (.slice (some ⟨b, off + sz, none⟩) (xs.length - sz) (cap - sz))
        clear h5 hB hR
        go_enter Try.func26, Try.ntmps26
        go_wp2_with fail
        refine HN.out.mono ?_
        rintro e w1 ⟨rfl, rfl⟩
        go_wp2_with fail
        go_ret
        exact ⟨rfl, hR2, hG⟩
      · obtain rfl : sz = xs.length := by omega
        obtain rfl : cap = xs.length := by omega
        have hB := h5.drop xs.length (by omega) (some ⟨b, off, none⟩) (fun o ho hl => by omega) (by simp)
        rw [Nat.sub_self] at hB
        have hR2 := hR.setRest hB
        have hG := grownBy_setCell w p 0 (.slice (some ⟨b, off, none⟩) 0 0)
        have hdn : xs.drop xs.length = [] := by simp
        rw [hdn] at hR2 ⊢
        clear h5 hB hR hdn
        go_enter Try.func26, Try.ntmps26
        go_wp2_with fail
        refine HN.out.mono ?_
        rintro e w1 ⟨rfl, rfl⟩
        go_wp2_with fail
        go_ret
        exact ⟨rfl, hR2, hG⟩
    · have hz := Leb.num_fault xs 0 0 hf
      generalize Leb.num 0 0 xs = r at *
      obtain ⟨n, sz, cd⟩ := r
      simp only at hf hz hnum
      obtain ⟨rfl, rfl⟩ := hz
      have hbf : (cd == 0) = false := by simp [hf]
      have HN := hide hnum
      have HF := hide hf
      clear hnum hf h5
      go_enter Try.func26, Try.ntmps26
      go_wp2_with fail
      refine HN.out.mono ?_
      rintro e w1 ⟨rfl, rfl⟩
      go_wp2_with fail
      refine (fail_any p b xs 0 cd w1 hR).mono ?_
      rintro e w2 ⟨rfl, hR1, hG⟩
      rw [Leb.failed_zero] at hR1
      go_wp2
      go_ret
      exact ⟨rfl, hR1, hG⟩
  · have eA : Leb.numA xs code = 0 := by unfold Leb.numA; rw [if_neg hc]
    have eL : Leb.numL xs code = xs := by unfold Leb.numL; rw [if_neg hc]
    have eC : Leb.numC xs code = code := by unfold Leb.numC; rw [if_neg hc]
    rw [eA, eL, eC]
    have hb : (code == 0) = false := by simp [hc]
    clear h5 eA eL eC
    go_enter Try.func26, Try.ntmps26
    go_wp2
    go_ret
    exact ⟨rfl, hR, grownBy_refl _ _⟩

end Go.Proofs.Ytlonniegaaocoaa
