/- ir.formed: is an instruction of a function's kinds, and all that its kind does not name 0? -/
import Derived.Test.YtbjnhicikkjadabInts
namespace Go.Proofs.Ytbjnhicikkjadab
open Go.RowKit Ir

def len0 (args : List Int) : Bool := ((args.length : Nat) : Int) == 0
theorem len0_eq (args : List Int) : len0 args = decide (args.length = 0) := by
  unfold len0
  rw [Bool.eq_iff_iff]
  simp
theorem formed_1 (op d a b n : Int) (args : List Int) : formed ⟨1, op, d, a, b, n, args⟩ = (op == 0 && len0 args && (a == 0) && (b == 0)) := by
  rw [Bool.eq_iff_iff]
  simp [formed, len0_eq, and_assoc]
theorem formed_2 (k op d a b n : Int) (args : List Int) (hk : k = 2 ∨ k = 4) : formed ⟨k, op, d, a, b, n, args⟩ = (op == 0 && len0 args && (b == 0) && (n == 0)) := by
  rw [Bool.eq_iff_iff]
  rcases hk with rfl | rfl <;> simp [formed, len0_eq, and_assoc]
theorem formed_3 (op d a b n : Int) (args : List Int) : formed ⟨3, op, d, a, b, n, args⟩ = (decide (1 ≤ op) && decide (op ≤ 7) && (n == 0) && len0 args) := by
  rw [Bool.eq_iff_iff]
  simp [formed, len0_eq, and_assoc]
theorem formed_5 (op d a b n : Int) (args : List Int) : formed ⟨5, op, d, a, b, n, args⟩ = (op == 0 && len0 args && (d == 0) && (n == 0)) := by
  rw [Bool.eq_iff_iff]
  simp [formed, len0_eq, and_assoc]
theorem formed_6 (op d a b n : Int) (args : List Int) : formed ⟨6, op, d, a, b, n, args⟩ = (op == 0 && (a == 0) && (b == 0)) := by
  rw [Bool.eq_iff_iff]
  simp [formed, and_assoc]
theorem formed_x (k op d a b n : Int) (args : List Int) (hk : k ≠ 1 ∧ k ≠ 2 ∧ k ≠ 3 ∧ k ≠ 4 ∧ k ≠ 5 ∧ k ≠ 6) : formed ⟨k, op, d, a, b, n, args⟩ = false := by
  simp [formed, hk]
set_option maxHeartbeats 1000000 in
set_option maxRecDepth 100000 in
theorem formed_any1 (op d a b n : Int) (args : List Int) (u : Value) (w : World) (hu : IntsV w u args) :
    Calls Try.prog 23 #[insV ⟨1, op, d, a, b, n, args⟩ u] w fun e w' => e = .returned (.bool (formed ⟨1, op, d, a, b, n, args⟩)) ∧ Below w.heap.size w w' := by
  have hE := hide (formed_1 op d a b n args)
  obtain ⟨ua, ca, rfl⟩ := hu.slice
  unfold insV
  clear hu
  go_enter Try.func23, Try.ntmps23
  go_wp2_with fail
  all_goals
    go_ret
    refine ⟨?_, bel1' _ _⟩
    rw [hE.out]
    simp_all [len0]
set_option maxHeartbeats 1000000 in
set_option maxRecDepth 100000 in
theorem formed_any2 (op d a b n : Int) (args : List Int) (u : Value) (w : World) (hu : IntsV w u args) :
    Calls Try.prog 23 #[insV ⟨2, op, d, a, b, n, args⟩ u] w fun e w' => e = .returned (.bool (formed ⟨2, op, d, a, b, n, args⟩)) ∧ Below w.heap.size w w' := by
  have hE := hide (formed_2 2 op d a b n args (.inl rfl))
  obtain ⟨ua, ca, rfl⟩ := hu.slice
  unfold insV
  clear hu
  go_enter Try.func23, Try.ntmps23
  go_wp2_with fail
  all_goals
    go_ret
    refine ⟨?_, bel1' _ _⟩
    rw [hE.out]
    simp_all [len0]
set_option maxHeartbeats 1000000 in
set_option maxRecDepth 100000 in
theorem formed_any3 (op d a b n : Int) (args : List Int) (u : Value) (w : World) (hu : IntsV w u args) :
    Calls Try.prog 23 #[insV ⟨3, op, d, a, b, n, args⟩ u] w fun e w' => e = .returned (.bool (formed ⟨3, op, d, a, b, n, args⟩)) ∧ Below w.heap.size w w' := by
  have hE := hide (formed_3 op d a b n args)
  obtain ⟨ua, ca, rfl⟩ := hu.slice
  unfold insV
  clear hu
  go_enter Try.func23, Try.ntmps23
  go_wp2_with fail
  all_goals
    go_ret
    refine ⟨?_, bel1' _ _⟩
    rw [hE.out]
    simp_all [len0] <;> (intros; omega)
set_option maxHeartbeats 1000000 in
set_option maxRecDepth 100000 in
theorem formed_any4 (op d a b n : Int) (args : List Int) (u : Value) (w : World) (hu : IntsV w u args) :
    Calls Try.prog 23 #[insV ⟨4, op, d, a, b, n, args⟩ u] w fun e w' => e = .returned (.bool (formed ⟨4, op, d, a, b, n, args⟩)) ∧ Below w.heap.size w w' := by
  have hE := hide (formed_2 4 op d a b n args (.inr rfl))
  obtain ⟨ua, ca, rfl⟩ := hu.slice
  unfold insV
  clear hu
  go_enter Try.func23, Try.ntmps23
  go_wp2_with fail
  all_goals
    go_ret
    refine ⟨?_, bel1' _ _⟩
    rw [hE.out]
    simp_all [len0]
set_option maxHeartbeats 1000000 in
set_option maxRecDepth 100000 in
theorem formed_any5 (op d a b n : Int) (args : List Int) (u : Value) (w : World) (hu : IntsV w u args) :
    Calls Try.prog 23 #[insV ⟨5, op, d, a, b, n, args⟩ u] w fun e w' => e = .returned (.bool (formed ⟨5, op, d, a, b, n, args⟩)) ∧ Below w.heap.size w w' := by
  have hE := hide (formed_5 op d a b n args)
  obtain ⟨ua, ca, rfl⟩ := hu.slice
  unfold insV
  clear hu
  go_enter Try.func23, Try.ntmps23
  go_wp2_with fail
  all_goals
    go_ret
    refine ⟨?_, bel1' _ _⟩
    rw [hE.out]
    simp_all [len0]
set_option maxHeartbeats 1000000 in
set_option maxRecDepth 100000 in
theorem formed_any6 (op d a b n : Int) (args : List Int) (u : Value) (w : World) (hu : IntsV w u args) :
    Calls Try.prog 23 #[insV ⟨6, op, d, a, b, n, args⟩ u] w fun e w' => e = .returned (.bool (formed ⟨6, op, d, a, b, n, args⟩)) ∧ Below w.heap.size w w' := by
  have hE := hide (formed_6 op d a b n args)
  obtain ⟨ua, ca, rfl⟩ := hu.slice
  unfold insV
  clear hu
  go_enter Try.func23, Try.ntmps23
  go_wp2_with fail
  all_goals
    go_ret
    refine ⟨?_, bel1' _ _⟩
    rw [hE.out]
    simp_all
set_option maxHeartbeats 1000000 in
set_option maxRecDepth 100000 in
theorem formed_anyk (k op d a b n : Int) (args : List Int) (u : Value) (w : World) (hu : IntsV w u args) (hk : k ≠ 1 ∧ k ≠ 2 ∧ k ≠ 3 ∧ k ≠ 4 ∧ k ≠ 5 ∧ k ≠ 6) :
    Calls Try.prog 23 #[insV ⟨k, op, d, a, b, n, args⟩ u] w fun e w' => e = .returned (.bool (formed ⟨k, op, d, a, b, n, args⟩)) ∧ Below w.heap.size w w' := by
  have hE := hide (formed_x k op d a b n args hk)
  obtain ⟨ua, ca, rfl⟩ := hu.slice
  have b1 : (k == 1) = false := by simp [hk]
  have b2 : (k == 2) = false := by simp [hk]
  have b3 : (k == 3) = false := by simp [hk]
  have b4 : (k == 4) = false := by simp [hk]
  have b5 : (k == 5) = false := by simp [hk]
  have b6 : (k == 6) = false := by simp [hk]
  clear hk
  unfold insV
  clear hu
  go_enter Try.func23, Try.ntmps23
  go_wp2_with fail
  all_goals
    go_ret
    refine ⟨?_, bel1' _ _⟩
    rw [hE.out]
    simp_all
theorem formed_any (i : Ins) (u : Value) (w : World) (hu : IntsV w u i.args) : Calls Try.prog 23 #[insV i u] w fun e w' => e = .returned (.bool (formed i)) ∧ Below w.heap.size w w' := by
  obtain ⟨k, op, d, a, b, n, args⟩ := i
  by_cases k1 : k = 1
  · subst k1
    exact formed_any1 op d a b n args u w hu
  by_cases k2 : k = 2
  · subst k2
    exact formed_any2 op d a b n args u w hu
  by_cases k3 : k = 3
  · subst k3
    exact formed_any3 op d a b n args u w hu
  by_cases k4 : k = 4
  · subst k4
    exact formed_any4 op d a b n args u w hu
  by_cases k5 : k = 5
  · subst k5
    exact formed_any5 op d a b n args u w hu
  by_cases k6 : k = 6
  · subst k6
    exact formed_any6 op d a b n args u w hu
  exact formed_anyk k op d a b n args u w hu ⟨k1, k2, k3, k4, k5, k6⟩
end Go.Proofs.Ytbjnhicikkjadab
