/- Awake: the chapter's example. -/
import Derived.Test.YtblcbccchlljhaaSw
namespace Go.Proofs.Ytblcbccchlljhaa
open Go.RowKit Ir Wy

def afrm : Nat → List Nat
  | 1 => [0]
  | 2 => [1]
  | _ => []
def aP : Fl.Prob Nat := ⟨3, afrm, fun b => if b = 0 then 1 else 0, fun f g => max f g, fun f g => decide (f < max f g), fun _ f => f + 1⟩
theorem aCome {fs : Nat → Nat} (h : aP.Come fs) : fs 0 = 1 ∧ fs 1 ≤ 2 ∧ fs 2 ≤ 3 := by
  refine h (fun fs => fs 0 = 1 ∧ fs 1 ≤ 2 ∧ fs 2 ≤ 3) ⟨rfl, by decide, by decide⟩ fun gs b a hg hb ha hm => ?_
  obtain ⟨h0, h1, h2⟩ := hg
  have hb : b < 3 := hb
  match b, hb with
  | 0, _ => cases hm
  | 1, _ =>
    have : a = 0 := by simpa [aP, afrm] using hm
    subst this
    simp [Fl.Prob.step, aP]
    omega
  | 2, _ =>
    have : a = 1 := by simpa [aP, afrm] using hm
    subst this
    simp [Fl.Prob.step, aP]
    omega
theorem aOk : aP.Ok fun fs => (2 - fs 1) + (3 - fs 2) := by
  refine ⟨fun b hb a ha => ?_, fun fs b a hc hb ha hm hd => ?_, fun fs b a hc hb ha hm hd => ?_⟩
  · have hb : b < 3 := hb
    match b, hb with
    | 0, _ => cases ha
    | 1, _ => have : a = 0 := by simpa [aP, afrm] using ha
              subst this; decide
    | 2, _ => have : a = 1 := by simpa [aP, afrm] using ha
              subst this; decide
  · obtain ⟨h0, h1, h2⟩ := aCome hc
    obtain ⟨k0, k1, k2⟩ := aCome (hc.step hb ha hm)
    have hb : b < 3 := hb
    simp only [Fl.Prob.does, aP, decide_eq_true_eq] at hd
    match b, hb with
    | 0, _ => cases hm
    | 1, _ =>
      have e1 : aP.step fs 1 a 1 = max (fs 1) (fs a + 1) := rfl
      have e2 : aP.step fs 1 a 2 = fs 2 := rfl
      show 2 - aP.step fs 1 a 1 + (3 - aP.step fs 1 a 2) < 2 - fs 1 + (3 - fs 2)
      rw [e1] at k1
      rw [e1, e2]
      omega
    | 2, _ =>
      have e1 : aP.step fs 2 a 1 = fs 1 := rfl
      have e2 : aP.step fs 2 a 2 = max (fs 2) (fs a + 1) := rfl
      show 2 - aP.step fs 2 a 1 + (3 - aP.step fs 2 a 2) < 2 - fs 1 + (3 - fs 2)
      rw [e2] at k2
      rw [e1, e2]
      omega
  · simp only [Fl.Prob.does, aP, decide_eq_false_iff_not] at hd
    funext x
    simp only [Fl.Prob.step, aP]
    split
    · rename_i e; subst e; omega
    · rfl
theorem aStill {fs : Nat → Nat} (hc : aP.Come fs) (hs : aP.Still fs) : fs 0 = 1 ∧ fs 1 = 2 ∧ fs 2 = 3 := by
  obtain ⟨h0, h1, h2⟩ := aCome hc
  have s1 := hs 1 (by decide) 0 (by decide)
  have s2 := hs 2 (by decide) 1 (by decide)
  simp only [Fl.Prob.does, aP, decide_eq_false_iff_not] at s1 s2
  omega
set_option maxHeartbeats 1000000 in
set_option maxRecDepth 100000 in
theorem awk1 (b : Nat) (hb : b < 3) (w : World) : Calls Try.prog 30 #[.int .i64 (b : Int)] w fun e w' => ∃ u, e = .returned u ∧ ArgsO w.heap.size w' u (ci (afrm b)) ∧ Below w.heap.size w w' := by
  match b, hb with
  | 0, _ =>
    go_enter Try.func30, Try.ntmps30
    go_wp2_with fail
    go_ret
    exact ⟨_, rfl, ArgsO.nil _ _, (((bel1' w _).trans ((bel1' _ _).mono (by simp))).trans ((bel1' _ _).mono (by simp; omega)))⟩
  | 1, _ =>
    go_enter Try.func30, Try.ntmps30
    go_wp2_with fail
    go_ret
    exact ⟨_, rfl, ((args_one w _ (Nat.le_refl _) 0).below (bel1' _ _)).below (bel1' _ _), (((bel1' w _).trans ((bel1' _ _).mono (by simp))).trans ((bel1' _ _).mono (by simp; omega)))⟩
  | 2, _ =>
    go_enter Try.func30, Try.ntmps30
    go_wp2_with fail
    go_ret
    have h := args_one (w.alloc (.cells #[.int .i64 0] 3)) w.heap.size (by simp) 1
    rw [World.size_alloc] at h
    exact ⟨_, rfl, h.below (bel1' _ _), (((bel1' w _).trans ((bel1' _ _).mono (by simp))).trans ((bel1' _ _).mono (by simp; omega)))⟩
set_option maxHeartbeats 1000000 in
set_option maxRecDepth 100000 in
theorem awk2 (b : Nat) (hb : b < 3) (w : World) : Calls Try.prog 31 #[.int .i64 (b : Int)] w fun e w' => ∃ u, e = .returned u ∧ I.FV u (aP.first b) ∧ Below w.heap.size w w' := by
  match b, hb with
  | 0, _ =>
    go_enter Try.func31, Try.ntmps31
    go_wp2_with fail
    go_ret
    exact ⟨_, rfl, rfl, bel1' w _⟩
  | 1, _ =>
    go_enter Try.func31, Try.ntmps31
    go_wp2_with fail
    go_ret
    exact ⟨_, rfl, rfl, bel1' w _⟩
  | 2, _ =>
    go_enter Try.func31, Try.ntmps31
    go_wp2_with fail
    go_ret
    exact ⟨_, rfl, rfl, bel1' w _⟩
theorem only_set (w : World) (g b : Nat) (v : Value) : I.Only w (w.setCell ⟨g, b, none⟩ v) g b := fun i hi =>
  ⟨World.cell?_setCell_other (w := w) (a := ⟨g, b, none⟩) (b := ⟨g, i, none⟩) (v := v) (by
    intro e
    simp only [Addr.mk.injEq] at e
    omega), World.frozen?_setCell ..⟩
set_option maxHeartbeats 1000000 in
set_option maxRecDepth 100000 in
theorem awk3 (g b f k : Nat) (w : World) (h : I.FO w g b f) : Calls Try.prog 32 #[.pointer (some ⟨g, b, none⟩), .int .i64 (k : Int)] w fun e w' => e = .returned (.bool (decide (f < max f k))) ∧ I.FO w' g b (max f k) ∧ w.grownBy w' (some g) ∧ I.Only w w' g b := by
  obtain ⟨h1, h2⟩ := h
  have hs := hide (World.cell?_setCell_same (w := w) (a := ⟨g, b, none⟩) (v := .int .i64 ((max f k : Nat) : Int)) h1)
  have H2 := hide h2
  by_cases hk : f < k
  · have hm : max f k = k := by omega
    rw [hm] at hs ⊢
    rw [decide_eq_true hk]
    go_enter Try.func32, Try.ntmps32
    go_wp2_with fail
    go_ret
    exact ⟨rfl, ⟨hs.out, by rw [World.frozen?_setCell]; exact H2.out⟩, Bg.gb_set _ _ _ _, only_set _ _ _ _⟩
  · have hm : max f k = f := by omega
    rw [hm] at hs ⊢
    rw [decide_eq_false (by omega)]
    go_enter Try.func32, Try.ntmps32
    go_wp2_with fail
    go_ret
    exact ⟨rfl, ⟨hs.out, by rw [World.frozen?_setCell]; exact H2.out⟩, Bg.gb_set _ _ _ _, only_set _ _ _ _⟩
set_option maxHeartbeats 1000000 in
set_option maxRecDepth 100000 in
theorem awk4 (a f : Nat) (hf : f ≤ 1000) (w : World) : Calls Try.prog 33 #[.int .i64 (a : Int), .int .i64 (f : Int)] w fun e w' => ∃ u, e = .returned u ∧ I.FV u (f + 1) ∧ Below w.heap.size w w' := by
  go_enter Try.func33, Try.ntmps33
  go_wp2_with fail
  go_ret
  exact ⟨_, rfl, by simp [I.FV], Below.refl _ _⟩
def fv (f : Nat) : Value := .func (.func f) #[] #[]
theorem aFns (w : World) : I.FnsOk w aP (fv 30) (fv 31) (fv 32) (fv 33) := by
  refine ⟨fun W _ b hb => callV_func Try.func30 rfl rfl (awk1 b hb W), fun W _ b hb => callV_func Try.func31 rfl rfl (awk2 b hb W), fun fs hc a ha W _ v hv => ?_, fun fs hc b a hb ha hm W _ g v _ ho hv => ?_⟩
  · have h3 : fs a ≤ 1000 := by
      obtain ⟨h0, h1, h2⟩ := aCome hc
      have ha : a < 3 := ha
      rcases (show a = 0 ∨ a = 1 ∨ a = 2 by omega) with e | e | e
      · rw [e]; exact Nat.le_trans (Nat.le_of_eq h0) (by decide)
      · rw [e]; exact Nat.le_trans h1 (by decide)
      · rw [e]; exact Nat.le_trans h2 (by decide)
    cases hv
    exact callV_func Try.func33 rfl rfl (awk4 a (fs a) h3 W)
  · cases hv
    exact callV_func Try.func32 rfl rfl (awk3 g b (fs b) (aP.pass a (fs a)) W ho)
set_option maxHeartbeats 1000000 in
set_option maxRecDepth 100000 in
theorem awake_any (w : World) : Calls Try.prog 7 #[] w fun e w' => e = .returned (.bool true) ∧ Below w.heap.size w w' := by
  have hsolve := hide (I.solve_any w (aFns w) aOk (by decide) (by decide) (fun b _ => by
    match b with
    | 0 => decide
    | 1 => decide
    | 2 => decide
    | b + 3 => simp [aP, afrm]) (by decide) rfl rfl rfl rfl)
  go_enter Try.func7, Try.ntmps7
  go_wp2_with (go_at_call 20; refine hsolve.out.mono ?_; rintro e w1 ⟨g, cap, fs, rfl, hg, hc, hs, hF, hB⟩; obtain ⟨v0, v1, v2⟩ := aStill hc hs; have c0 := (hF 0 (by decide)).1; have c1 := (hF 1 (by decide)).1; have c2 := (hF 2 (by decide)).1; rw [v0] at c0; rw [v1] at c1; rw [v2] at c2; have HB := hide hB; clear hF hB hg hc hs v0 v1 v2)
  go_ret
  exact ⟨rfl, HB.out⟩
end Go.Proofs.Ytblcbccchlljhaa
