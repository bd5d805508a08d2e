/- wire.Func: a function as bytes. -/
import Derived.Test.YtbjnhicikkjadabPb
import Derived.Test.YtbjnhicikkjadabCheck
import Derived.Deep.RegionHeld3
namespace Go.Proofs.Ytbjnhicikkjadab
open Go.RowKit Ir Wire

theorem box3 {w : World} {g : Nat} {a0 a1 a2 : Value} {t : TypeId} (h : w.heap[g]? = some (Obj.cells #[a0, a1, a2] t (0, 0))) : w.cell? ⟨g, 0, none⟩ = some a0 ∧ w.cell? ⟨g, 1, none⟩ = some a1 ∧ w.cell? ⟨g, 2, none⟩ = some a2 := by
  refine ⟨?_, ?_, ?_⟩ <;> (rw [cell_of_row _ _ _ _ _ _ h]; rfl)
theorem box4 {w : World} {g : Nat} {a0 a1 a2 a3 : Value} {t : TypeId} (h : w.heap[g]? = some (Obj.cells #[a0, a1, a2, a3] t (0, 0))) : w.cell? ⟨g, 0, none⟩ = some a0 ∧ w.cell? ⟨g, 1, none⟩ = some a1 ∧ w.cell? ⟨g, 2, none⟩ = some a2 ∧ w.cell? ⟨g, 3, none⟩ = some a3 := by
  refine ⟨?_, ?_, ?_, ?_⟩ <;> (rw [cell_of_row _ _ _ _ _ _ h]; rfl)
theorem run_field37 (x y z : Value) (W : World) : (Instr.field 52 (.agg #[x, y, z]) 0).run Try.prog W = .ok x W := by
  simp [Instr.field, run_underlying Try.underlying52, go_sem, asAgg]
set_option maxHeartbeats 1000000 in
set_option maxRecDepth 100000 in
theorem wfunc_ok (F : Fun) (v : Value) (w : World) (hv : FunV w v F) (hc : (chk F).1 = 0) (hr : ∀ b ∈ F.bs, ∀ i ∈ b.ins, Rng i) : Calls Try.prog 6 #[v] w fun r w' => ∃ u, r = .returned (.tuple #[u, .int .i64 0]) ∧ Out w.heap.size w' u (funB F) ∧ Below w.heap.size w w' := by
  obtain ⟨u, rfl, hu⟩ := hv
  have hC := hide (check_any F (.agg #[.int .i64 F.p, .int .i64 F.v, u]) (w.alloc (.cells #[.int .i64 F.p, .int .i64 F.v, u] 28)) ⟨u, rfl, hu.below (bel1' _ _)⟩)
  obtain ⟨ub, cb, rfl⟩ := hu.slice
  obtain ⟨ha, hb⟩ := chk_all hc
  simp only [sized, decide_eq_true_eq] at ha
  have HW : Hid (∀ b ∈ F.bs, WfB 32 b) := hide (fun b h => wfB_of (hb b h) (by omega) (by omega) (hr b h))
  have hcf : Hid ((faultV (chk F)) = .agg #[.int .i64 0, .int .i64 (chk F).2.1, .int .i64 (chk F).2.2]) := by show _ = _; unfold faultV; rw [hc]
  clear hb hr hc
  have hB0 := bel1' w (.cells #[.int .i64 F.p, .int .i64 F.v, .slice ub F.bs.length cb] 28)
  have hr0 := heap_alloc_new w (.cells #[.int .i64 F.p, .int .i64 F.v, .slice ub F.bs.length cb] 28)
  go_enter Try.func6, Try.ntmps6
  go_wp2_with fail
  refine hC.out.mono ?_
  rintro r w1 ⟨rfl, hB1⟩
  rw [hcf.out]
  have hBw := bel_of hB0 hB1
  have hr1 := (hB1.block _ (Array.getElem?_eq_some_iff.1 hr0).1).trans hr0
  have c0 : w1.cell? ⟨w.heap.size, 0, none⟩ = some (.int .i64 F.p) := by rw [cell_of_row _ _ _ _ _ _ hr1]; rfl
  have c1 : w1.cell? ⟨w.heap.size, 1, none⟩ = some (.int .i64 F.v) := by rw [cell_of_row _ _ _ _ _ _ hr1]; rfl
  have c2 : w1.cell? ⟨w.heap.size, 2, none⟩ = some (.slice ub F.bs.length cb) := by rw [cell_of_row _ _ _ _ _ _ hr1]; rfl
  have hlt := (Array.getElem?_eq_some_iff.1 hr1).1
  have hf := run_field37 (.int .i64 0) (.int .i64 (chk F).2.1) (.int .i64 (chk F).2.2)
  have hn0 : 0 ≤ F.p ∧ F.p < 9223372036854775808 ∧ 0 ≤ F.v ∧ F.v < 9223372036854775808 := by omega
  have H36 := hide (wput_any w.heap.size (w1.drew.alloc (.cells #[.int .i64 F.p, .int .i64 F.v] 3)) (.slice none 0 0) (.slice (some ⟨w1.heap.size, 0, none⟩) 2 2) [] [F.p, F.v] (Out.nil _ _) (by simp; omega) (lit_ints [F.p, F.v] (by simp) rfl rfl (by simp)) (by simp; omega) (by simp))
  have hP1 : Put w.heap.size w1 (w1.drew.alloc (.cells #[.int .i64 F.p, .int .i64 F.v] 3)) := Put.below ((Below.refl _ _).drew.alloc (by simp) _) (by omega)
  have HS := hide (fun W (h : Put w.heap.size w1 W) => box3 (h.keep _ _ 28 _ rfl hr1))
  have hlen : ((nb F.p) ++ nb F.v).length ≤ 1000 := by
    have g1 := nb_len (x := F.p) (by omega)
    have g2 := nb_len (x := F.v) (by omega)
    rw [List.length_append]; omega
  have hu1 := hu
  have hbs := ha.2.2.2.2
  clear hr0 hr1 hB1 hB0 hC hn0
  go_wp2_with fail
  go_region_held3 (fun w' => w'.cell? ⟨w.heap.size, 0, none⟩ = some (.int .i64 F.p) ∧ w'.cell? ⟨w.heap.size, 1, none⟩ = some (.int .i64 F.v) ∧ w'.cell? ⟨w.heap.size, 2, none⟩ = some (.slice ub F.bs.length cb)) (first | assumption | go_keep)
    (first
      | (go_at_call 12; refine H36.out.mono ?_; rintro e w2 ⟨v2, rfl, hO2, hR⟩; have hP2 := hP1.trans hR; have hS2 := HS.out _ hP2; obtain ⟨a2, n2, k2, rfl⟩ := hO2.sl)
      | (go_at_call 11; refine (putBlocks_any w _ _ _ _ F.bs 32 hO2 (hBw.trans hP2.bel) hu HW.out (by omega) hbs.2 (by simpa using hlen)).mono ?_; rintro e w3 ⟨v3, rfl, hO3, hR⟩; have hP3 := hP2.trans hR; have hS3 := HS.out _ hP3; obtain ⟨a3, n3, k3, rfl⟩ := hO3.sl))
  go_wp2_with fail
  go_ret2
  refine ⟨_, rfl, ?_, hBw.trans hP3.bel⟩
  have e : funB F = [] ++ [F.p, F.v].flatMap nb ++ allB F.bs := by simp [funB]
  rw [e]
  exact hO3
set_option maxHeartbeats 1000000 in
set_option maxRecDepth 100000 in
theorem wfunc_bad (F : Fun) (v : Value) (w : World) (hv : FunV w v F) (hc : (chk F).1 ≠ 0) : Calls Try.prog 6 #[v] w fun r w' => r = .returned (.tuple #[.slice none 0 0, .int .i64 30]) ∧ Below w.heap.size w w' := by
  obtain ⟨u, rfl, hu⟩ := hv
  have hC := hide (check_any F (.agg #[.int .i64 F.p, .int .i64 F.v, u]) (w.alloc (.cells #[.int .i64 F.p, .int .i64 F.v, u] 28)) ⟨u, rfl, hu.below (bel1' _ _)⟩)
  obtain ⟨ub, cb, rfl⟩ := hu.slice
  have hcf : Hid ((faultV (chk F)) = .agg #[.int .i64 (chk F).1, .int .i64 (chk F).2.1, .int .i64 (chk F).2.2]) := rfl
  generalize chk F = c at *
  obtain ⟨c0, c1, c2⟩ := c
  simp only at hc hcf
  have hb : (c0 == 0) = false := by simp [hc]
  have hB0 := bel1' w (.cells #[.int .i64 F.p, .int .i64 F.v, .slice ub F.bs.length cb] 28)
  have hf := run_field37 (.int .i64 c0) (.int .i64 c1) (.int .i64 c2)
  clear hc
  go_enter Try.func6, Try.ntmps6
  go_wp2_with fail
  refine hC.out.mono ?_
  rintro r w1 ⟨rfl, hB1⟩
  rw [hcf.out]
  have hBw := bel_of hB0 hB1
  clear hC hcf hB0 hB1
  go_wp2_with fail
  go_ret2
  exact ⟨rfl, hBw⟩
end Go.Proofs.Ytbjnhicikkjadab
