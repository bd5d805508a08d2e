/- run.laid: the places, 0 but for the arguments. -/
import Derived.Test.YtepmbkiojpffpaaRm
import Derived.Deep.OwnRows
namespace Go.Proofs.Ytepmbkiojpffpaa
open Go.RowKit Ir

namespace Ir
def laidL (n : Nat) (first : Int) (args : List Int) : List Int := if 0 ≤ first ∧ first < (n : Int) then splice (List.replicate n 0) first.toNat (args.take (n - first.toNat)) else List.replicate n 0
theorem laidL_len (n : Nat) (first : Int) (args : List Int) : (laidL n first args).length = n := by
  unfold laidL
  split
  · rw [length_splice]
    · simp
    · simp; omega
  · simp
end Ir
theorem made_row (n : Nat) : madeCells #[Value.int .i64 0] n = (nums (List.replicate n 0)).toArray := by
  apply Array.ext
  · simp [size_madeCells, nums_len]
  · intro i h1 h2
    simp [madeCells, nums, Nat.mod_one]
theorem run_make2 (n : Nat) (hn : n ≤ 1000000) (W : World) : (Instr.makeSlice 25 (.int .i64 (n : Int)) (.int .i64 (n : Int))).run Try.prog W = .ok (.slice (some ⟨W.heap.size, 0, none⟩) n n) (W.alloc (.cells (nums (List.replicate n 0)).toArray 2)) := by
  obtain ⟨i, hi, hz, hsize, hby⟩ := info_parts info2
  rw [run_make_row 25 2 i (.int .i64 0) Try.underlying25 hi hz hsize rfl .i64 .i64 n (by rw [hby]; omega) (by omega) W, made_row]
theorem run_from {g n f : Nat} (hf : f < n) (W : World) : (Instr.sliceAt 25 (.slice (some ⟨g, 0, none⟩) n n) (some (.int .i64 (f : Int))) none none).run Try.prog W = .ok (.slice (some ⟨g, f, none⟩) (n - f) (n - f)) W := by
  have h1 : (f : Int) ≤ (n : Int) := by omega
  have h2 : ¬ n = f := by omega
  go_simp
theorem nums_splice (xs : List Int) (off : Nat) (ys : List Int) : splice (nums xs) off (nums ys) = nums (splice xs off ys) := by simp [splice, nums, List.map_take, List.map_drop]
theorem nums_one (xs : List Int) : ∀ v ∈ nums xs, v.oneCell' = true := by
  intro v hv
  unfold nums at hv
  obtain ⟨x, _, rfl⟩ := List.mem_map.1 hv
  rfl
theorem size2 : (Try.prog.info? 2).map (·.size) = some 1 := by kernel_rfl

/-- 'copy' of numbers into a row that is known. -/
theorem run_copy2 (W : World) (g off dl dc : Nat) (R : List Value) (t : TypeId) (ua : Option Addr) (uc : Nat) (xs : List Int) (hg : W.heap[g]? = some (Obj.cells R.toArray t (0, 0))) (hu : IntsV W (.slice ua xs.length uc) xs) (hfit : off + dl ≤ R.length) :
    ∃ k W2, (Builtin.copy_ #[25, 25] 3 #[.slice (some ⟨g, off, none⟩) dl dc, .slice ua xs.length uc]).run Try.prog W = .ok (.int .i64 k) W2 ∧ W2.heap[g]? = some (Obj.cells (splice R off (nums (xs.take dl))).toArray t (0, 0)) ∧ W.grownBy W2 (some g) := by
  have hcl : (nums (xs.take dl)).length = Nat.min xs.length dl := by simp [nums_len, Nat.min_comm]
  by_cases h0 : Nat.min xs.length dl = 0
  · refine ⟨0, W, run_copy_none (P := Try.prog) W 25 25 3 2 _ _ dl dc xs.length uc Try.underlying25 size2 h0, ?_, grown_refl _ _⟩
    have : nums (xs.take dl) = [] := List.eq_nil_of_length_eq_zero (by omega)
    rw [this, hg]
    simp [splice]
  · have hpos : 0 < xs.length := by
      rcases Nat.eq_zero_or_pos xs.length with h | h
      · rw [h] at h0
        simp at h0
      · exact h
    obtain ⟨b, o, rfl, hall⟩ := SlV.all hu hpos
    have hmin : Nat.min xs.length dl ≤ dl := Nat.min_le_right _ _
    refine ⟨_, _, run_copy_row (P := Try.prog) W 25 25 3 2 g off dl dc ⟨b, o, none⟩ xs.length uc R.toArray t (nums (xs.take dl)) Try.underlying25 size2 hg hcl ?_ (by simp; omega) ?_, ?_, ?_⟩
    · intro j v hj
      have hjl : j < (nums (xs.take dl)).length := (List.getElem?_eq_some_iff.1 hj).1
      have hj2 : j < xs.length := by
        rw [hcl] at hjl
        exact Nat.lt_of_lt_of_le hjl (Nat.min_le_left _ _)
      have hj3 : j < dl := by
        rw [hcl] at hjl
        exact Nat.lt_of_lt_of_le hjl hmin
      have h1 : W.cell? ⟨b, o + j * 1, none⟩ = some (.int .i64 (xs.getD j 0)) := hall j hj2
      rw [Addr.add_lit]
      rw [Nat.mul_one] at h1
      rw [h1]
      simp [nums, hj2, hj3] at hj
      rw [← hj]
      simp [hj2]
    · exact nums_one _
    · rw [setRow_heap W g _ _ t _ hg]
      simp [splice]
    · exact ⟨rfl, rfl, rfl, by simp [World.setRow], fun k _ hr => setRow_other W g k _ (fun e => hr (by rw [e]))⟩

set_option maxHeartbeats 1000000 in
set_option maxRecDepth 100000 in
theorem laid_any (n : Nat) (first : Int) (args : List Int) (u : Value) (w : World) (hu : IntsV w u args) (hn : n ≤ 1000000) :
    Calls Try.prog 30 #[.int .i64 (n : Nat), .int .i64 first, u] w fun e w' => ∃ gp, e = .returned (.slice (some ⟨gp, 0, none⟩) n n) ∧ w.heap.size ≤ gp ∧ w'.heap[gp]? = some (Obj.cells (nums (laidL n first args)).toArray 2 (0, 0)) ∧ Below w.heap.size w w' := by
  obtain ⟨ua, uc, rfl⟩ := hu.slice
  have hmk := fun W => run_make2 n hn W
  have hB1 := bel1' w (.cells (nums (List.replicate n 0)).toArray 2)
  have hr1 : (w.alloc (.cells (nums (List.replicate n 0)).toArray 2)).heap[w.heap.size]? = some (Obj.cells (nums (List.replicate n 0)).toArray 2 (0, 0)) := heap_alloc_new w _
  obtain ⟨R0, hR0⟩ : ∃ R0, R0 = nums (List.replicate n 0) := ⟨_, rfl⟩
  rw [← hR0] at hr1 hB1
  simp only [← hR0] at hmk
  by_cases hf : 0 ≤ first ∧ first < (n : Int)
  · obtain ⟨f, rfl, hf2⟩ := nat_of hf
    have hL : Hid (laidL n (f : Int) args = splice (List.replicate n 0) f (args.take (n - f))) := by show _ = _; unfold laidL; rw [if_pos hf]; simp
    have hcut := fun W => run_from (g := w.heap.size) hf2 W
    have hu1 := hu.below hB1
    have hRl : R0.length = n := by rw [hR0]; simp [nums_len]
    obtain ⟨kk, W2, hrun, hr2, hg2⟩ := run_copy2 _ w.heap.size f (n - f) (n - f) R0 2 ua uc args hr1 hu1 (by omega)
    rw [hR0, nums_splice] at hr2
    have HR2 := hide hr2
    have HB2 := hide (hB1.grown hg2 (by simp) (fun k e => by simp at e; omega))
    clear hr1 hB1 hu1 hu hRl hR0 hr2 hg2
    go_enter Try.func30, Try.ntmps30
    go_wp2_with fail
    go_ret
    exact ⟨_, rfl, Nat.le_refl _, by rw [hL.out]; exact HR2.out, HB2.out⟩
  · have hL : Hid (laidL n first args = List.replicate n 0) := by show _ = _; unfold laidL; rw [if_neg hf]
    subst hR0
    have HR := hide hr1
    have HB := hide hB1
    by_cases h0 : 0 ≤ first
    · have h1 : (n : Int) ≤ first := by omega
      clear hr1 hB1 hf hu
      go_enter Try.func30, Try.ntmps30
      go_wp2_with fail
      go_ret
      exact ⟨_, rfl, Nat.le_refl _, by rw [hL.out]; exact HR.out, HB.out⟩
    · have h1 : first < 0 := by omega
      clear hr1 hB1 hf hu h0
      go_enter Try.func30, Try.ntmps30
      go_wp2_with fail
      go_ret
      exact ⟨_, rfl, Nat.le_refl _, by rw [hL.out]; exact HR.out, HB.out⟩
end Go.Proofs.Ytepmbkiojpffpaa
