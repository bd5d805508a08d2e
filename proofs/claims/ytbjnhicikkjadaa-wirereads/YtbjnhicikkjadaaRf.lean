/- The document's FuncBytes and CodeBytes. -/
import Derived.Test.YtbjnhicikkjadaaRy
import Derived.Test.YtbjnhicikkjadaaWf
namespace Go.Proofs.Ytbjnhicikkjadaa
open Go.RowKit Ir Wire

theorem refPutW (v : Value) (xs : List Int) (x : Int) (w : World) (hv : Lb.Byt w v xs) (hx : xs.length ≤ 1000000000) (h : 0 ≤ x ∧ x < 4096) :
    Calls Try.prog 39 #[v, .int .u64 (IntKind.u64.wrap x)] w fun e w' => ∃ v', e = .returned v' ∧ Lb.Byt w' v' (xs ++ nb x) ∧ Below w.heap.size w w' := by
  rw [show IntKind.u64.wrap x = x by rw [IntKind.wrap_u64]; omega]
  exact refPutI v xs x w hv hx h
set_option maxHeartbeats 1000000 in
set_option maxRecDepth 100000 in
theorem funcBytes_any (F : Fun) (v : Value) (w : World) (hv : FunV w v F) (hp : 0 ≤ F.p ∧ F.p < 4096) (hq : 0 ≤ F.v ∧ F.v < 4096) (hw : ∀ b ∈ F.bs, WfB 32 b) (hbs : F.bs.length ≤ 16) :
    Calls Try.prog 15 #[v] w fun r w' => ∃ u, r = .returned u ∧ Lb.Byt w' u (funB F) ∧ Below w.heap.size w w' := by
  obtain ⟨u, rfl, hu⟩ := hv
  obtain ⟨ub, cb, rfl⟩ := hu.slice
  have hB0 := (bel1' w (.cells #[.int .i64 F.p, .int .i64 F.v, .slice ub F.bs.length cb] 24)).drew
  have HX := hide (fun W (h : Below (w.alloc (.cells #[.int .i64 F.p, .int .i64 F.v, .slice ub F.bs.length cb] 24)).heap.size (w.alloc (.cells #[.int .i64 F.p, .int .i64 F.v, .slice ub F.bs.length cb] 24)) W) => box3 (box_b h))
  have HC := hide (refPutW (.slice none 0 0) [] F.p (w.alloc (.cells #[.int .i64 F.p, .int .i64 F.v, .slice ub F.bs.length cb] 24)).drew (Lb.Byt.nil _) (by simp) hp)
  have HP := hide hp
  have HQ := hide hq
  have c0 : (w.alloc (.cells #[.int .i64 F.p, .int .i64 F.v, .slice ub F.bs.length cb] 24)).cell? ⟨w.heap.size, 0, none⟩ = some (.int .i64 F.p) := (HX.out _ (Below.refl _ _)).1
  have c1 : (w.alloc (.cells #[.int .i64 F.p, .int .i64 F.v, .slice ub F.bs.length cb] 24)).cell? ⟨w.heap.size, 1, none⟩ = some (.int .i64 F.v) := (HX.out _ (Below.refl _ _)).2.1
  have c2 : (w.alloc (.cells #[.int .i64 F.p, .int .i64 F.v, .slice ub F.bs.length cb] 24)).cell? ⟨w.heap.size, 2, none⟩ = some (.slice ub F.bs.length cb) := (HX.out _ (Below.refl _ _)).2.2
  clear hp hq
  go_enter Try.func15, Try.ntmps15
  go_wp2_with fail
  go_region_held3 (fun w' => w'.cell? ⟨w.heap.size, 0, none⟩ = some (.int .i64 F.p) ∧ w'.cell? ⟨w.heap.size, 1, none⟩ = some (.int .i64 F.v) ∧ w'.cell? ⟨w.heap.size, 2, none⟩ = some (.slice ub F.bs.length cb)) (first | assumption | go_keep)
    (first
      | (go_at_call 39; refine HC.out.mono ?_; rintro e w1 ⟨v1, rfl, hO1, hR1⟩; have hR2 := ((Below.refl (w.alloc (.cells #[.int .i64 F.p, .int .i64 F.v, .slice ub F.bs.length cb] 24)).heap.size _).drew).trans hR1; have hS1 := HX.out _ hR2; obtain ⟨a1, n1, k1, rfl⟩ := bysnd _ _ _ hO1; clear HC)
      | (go_at_call 39; refine (refPutW _ _ F.v w1 hO1 (by have := nb16 HP.out; simp; omega) HQ.out).mono ?_; rintro e w2 ⟨v2, rfl, hO2, hR3⟩; have hR4 := hR2.trans (hR3.mono hR2.size); have hS2 := HX.out _ hR4; obtain ⟨a2, n2, k2, rfl⟩ := bysnd _ _ _ hO2)
      | (go_at_call 38; refine (bytes_any w2 _ _ _ F.bs 32 hO2 (hu.below ((bel1' w _).trans (hR4.mono (by simp)))) hw (by omega) hbs (by have := nb16 HP.out; have := nb16 HQ.out; simp; omega)).mono ?_; rintro e w3 ⟨v3, rfl, hO3, hR5⟩; have hR6 := hR4.trans (hR5.mono hR4.size); have hS3 := HX.out _ hR6; obtain ⟨a3, n3, k3, rfl⟩ := bysnd _ _ _ hO3))
  go_wp2_with fail
  go_ret
  refine ⟨_, rfl, ?_, (bel1' w _).trans (hR6.mono (by simp))⟩
  have e : funB F = [] ++ nb F.p ++ nb F.v ++ allB F.bs := by simp [funB]
  rw [e]
  exact hO3
set_option maxHeartbeats 1000000 in
set_option maxRecDepth 100000 in
theorem codeBytes_any (F : Cod) (v : Value) (w : World) (hv : CodV w v F) (hp : 0 ≤ F.p ∧ F.p < 4096) (hq : 0 ≤ F.r ∧ F.r < 4096) (hs : 0 ≤ F.s ∧ F.s < 4096) (hw : ∀ b ∈ F.bs, WfB 400 b) (hbs : F.bs.length ≤ 16) :
    Calls Try.prog 19 #[v] w fun r w' => ∃ u, r = .returned u ∧ Lb.Byt w' u (codB F) ∧ Below w.heap.size w w' := by
  obtain ⟨u, rfl, hu⟩ := hv
  obtain ⟨ub, cb, rfl⟩ := hu.slice
  have HX := hide (fun W (h : Below (w.alloc (.cells #[.int .i64 F.p, .int .i64 F.r, .int .i64 F.s, .slice ub F.bs.length cb] 42)).heap.size (w.alloc (.cells #[.int .i64 F.p, .int .i64 F.r, .int .i64 F.s, .slice ub F.bs.length cb] 42)) W) => box4' (box_b h))
  have HC := hide (refPutW (.slice none 0 0) [] F.p (w.alloc (.cells #[.int .i64 F.p, .int .i64 F.r, .int .i64 F.s, .slice ub F.bs.length cb] 42)).drew (Lb.Byt.nil _) (by simp) hp)
  have HP := hide hp
  have HQ := hide hq
  have HS := hide hs
  obtain ⟨c0, c1, c2, c3⟩ := HX.out _ (Below.refl _ _)
  clear hp hq hs
  go_enter Try.func19, Try.ntmps19
  go_wp2_with fail
  go_region_held3 (fun w' => w'.cell? ⟨w.heap.size, 0, none⟩ = some (.int .i64 F.p) ∧ w'.cell? ⟨w.heap.size, 1, none⟩ = some (.int .i64 F.r) ∧ w'.cell? ⟨w.heap.size, 2, none⟩ = some (.int .i64 F.s) ∧ w'.cell? ⟨w.heap.size, 3, none⟩ = some (.slice ub F.bs.length cb)) (first | assumption | go_keep)
    (first
      | (go_at_call 39; refine HC.out.mono ?_; rintro e w1 ⟨v1, rfl, hO1, hR1⟩; have hR2 := ((Below.refl (w.alloc (.cells #[.int .i64 F.p, .int .i64 F.r, .int .i64 F.s, .slice ub F.bs.length cb] 42)).heap.size _).drew).trans hR1; have hS1 := HX.out _ hR2; obtain ⟨a1, n1, k1, rfl⟩ := bysnd _ _ _ hO1; clear HC)
      | (go_at_call 39; refine (refPutW _ _ F.r w1 hO1 (by have := nb16 HP.out; simp; omega) HQ.out).mono ?_; rintro e w2 ⟨v2, rfl, hO2, hR3⟩; have hR4 := hR2.trans (hR3.mono hR2.size); have hS2 := HX.out _ hR4; obtain ⟨a2, n2, k2, rfl⟩ := bysnd _ _ _ hO2))
  clear hS1 c0 c1 c2 c3 hO1 hR1 hR3 hR2
  obtain ⟨c0, c1, c2, c3⟩ := hS2
  have HC := hide (refPutW _ _ F.s w2.drew hO2.drew (by have := nb16 HP.out; have := nb16 HQ.out; simp; omega) HS.out)
  go_wp2_with fail
  go_region_held3 (fun w' => w'.cell? ⟨w.heap.size, 0, none⟩ = some (.int .i64 F.p) ∧ w'.cell? ⟨w.heap.size, 1, none⟩ = some (.int .i64 F.r) ∧ w'.cell? ⟨w.heap.size, 2, none⟩ = some (.int .i64 F.s) ∧ w'.cell? ⟨w.heap.size, 3, none⟩ = some (.slice ub F.bs.length cb)) (first | assumption | go_keep)
    (first
      | (go_at_call 39; refine HC.out.mono ?_; rintro e w4 ⟨v4, rfl, hO4, hR1⟩; have hR5 := hR4.trans (((Below.refl w2.heap.size w2).drew.trans hR1).mono hR4.size); have hS1 := HX.out _ hR5; obtain ⟨a4, n4, k4, rfl⟩ := bysnd _ _ _ hO4; clear HC)
      | (go_at_call 38; refine (bytes_any w4 _ _ _ F.bs 400 hO4 (hu.below ((bel1' w _).trans (hR5.mono (by simp)))) hw (by omega) hbs (by have := nb16 HP.out; have := nb16 HQ.out; have := nb16 HS.out; simp; omega)).mono ?_; rintro e w3 ⟨v3, rfl, hO3, hR7⟩; have hR6 := hR5.trans (hR7.mono hR5.size); have hS3 := HX.out _ hR6; obtain ⟨a3, n3, k3, rfl⟩ := bysnd _ _ _ hO3))
  go_wp2_with fail
  go_ret
  refine ⟨_, rfl, ?_, (bel1' w _).trans (hR6.mono (by simp))⟩
  have e : codB F = [] ++ nb F.p ++ nb F.r ++ nb F.s ++ allB F.bs := by simp [codB]
  rw [e]
  exact hO3
end Go.Proofs.Ytbjnhicikkjadaa
