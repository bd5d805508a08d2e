/- IrEnds: P4.2: any end, of any numbers of vregs and blocks: ir.Ends answers as the document. -/
import Derived.Test.YteidejcaoboejaaRows
import Derived.WalkKit
import Derived.ProofKit
import Derived.OpenShut
import Derived.ShutString
import Derived.ChangeOld
import Derived.Below
import Derived.Test.YteidejcaoboejaaAwake
import Derived.Test.YteidejcaoboejaaOpen
namespace Go.Proofs.Yteidejcaoboejaa.irEnds
open Go.ChangeShapes Go.WideShapes Go.ChangeAt Go.RowKit Ir
open Go.ChangeMaps (open_string shut_string)
set_option linter.unusedVariables false

theorem own : ownKnob Try.prog.godebug = none := by kernel_rfl
theorem laidOut : laidOutB Try.prog = true := by kernel_rfl

/-- What is known of each temporary that the last statement writes. -/
def Gends (g : Nat) (v nb : Int) (e : En) : Tmp → Value → World → Prop
  | 9, xx, _ => xx = endV e
  | 10, xx, _ => xx = .int .i64 v
  | 11, xx, _ => xx = .int .i64 nb
  | 12, xx, _ => xx = .int .i64 (endF e v nb)
  | 13, xx, _ => xx = endV e
  | 14, xx, _ => xx = .int .i64 v
  | 15, xx, _ => xx = .int .i64 nb
  | 16, xx, _ => xx = .int .i64 (endF e v nb)
  | 17, xx, _ => xx = .bool (true)
  | 6, xx, _ => xx = .bool (true)
  | _, _, _ => True

set_option maxHeartbeats 1000000 in
set_option maxRecDepth 100000 in
theorem ends_walk (e : En) (v nb : Int) (w : World) : Calls Try.prog 5 #[endV e, .int .i64 v, .int .i64 nb] w fun r w' => r = .returned (.bool true) ∧ Below w.heap.size w w' := by
  have hB0 := bel1 w (.cells #[.int .u8 e.k, .int .i64 e.a, .int .i64 e.to, .int .i64 e.el] 39)
  have hE : endV e = .agg #[.int .u8 e.k, .int .i64 e.a, .int .i64 e.to, .int .i64 e.el] := rfl
  rw [hE]
  clear hE
  go_enter Try.func5, Try.ntmps5
  go_wp2_with fail
  refine (awake_any _).mono ?_
  rintro r w1 ⟨rfl, hB1⟩
  have c0 := box_cell hB1 0 rfl
  have c1 := box_cell hB1 1 rfl
  have c2 := box_cell hB1 2 rfl
  have c3 := box_cell hB1 3 rfl
  have hBw1 := bel_of hB0 hB1
  clear hB0 hB1
  go_wp2_with fail
  generalize hgz : w.heap.size = g at c0 c1 c2 c3 ⊢
  clear hgz
  refine wp_region_each (by kernel_rfl) (fun d x _ => Gends g v nb e d x w1) (fun _ W => Below w1.heap.size w1 W) (by kernel_rfl) (Below.refl _ _).drew ?_ ?_
  · refine And.intro ?_ (And.intro ?_ (And.intro ?_ (And.intro ?_ (And.intro ?_ (And.intro ?_ (And.intro ?_ (And.intro ?_ (And.intro ?_ (And.intro ?_ trivial)))))))))
    · refine asked_pure rfl rfl (fun _ _ h => h) (fun _ _ _ => rfl) (fun l a W H => ?_)
      have e3 : a.eval (.tmp 3) = .pointer (some ⟨g, 0, none⟩) := H.base 3 rfl
      exact run_load39 rfl e3 (cell_below H.s c0) (cell_below H.s c1) (cell_below H.s c2) (cell_below H.s c3)
    · refine asked_pure rfl rfl (fun _ _ h => h) (fun _ _ _ => rfl) (fun l a W H => ?_)
      have e1 : a.eval (.tmp 1) = .int .i64 v := H.base 1 rfl
      exact run_move rfl e1
    · refine asked_pure rfl rfl (fun _ _ h => h) (fun _ _ _ => rfl) (fun l a W H => ?_)
      have e2 : a.eval (.tmp 2) = .int .i64 nb := H.base 2 rfl
      exact run_move rfl e2
    · refine asked_call rfl Try.func22 (by kernel_rfl) (by kernel_rfl) rfl rfl (fun l a W H => ?_)
      have e9 : a.eval (.tmp 9) = endV e := H.facts 9 rfl
      have e10 : a.eval (.tmp 10) = .int .i64 v := H.facts 10 rfl
      have e11 : a.eval (.tmp 11) = .int .i64 nb := H.facts 11 rfl
      have ea : (#[.tmp 9, .tmp 10, .tmp 11] : Array Operand).map a.eval = #[endV e, .int .i64 v, .int .i64 nb] := by
        simp only [List.map_toArray, List.map_cons, List.map_nil, e9, e10, e11]
      rw [ea]
      refine (ends_any e v nb W).mono ?_
      rintro x w' ⟨rfl, hB⟩
      exact ⟨_, rfl, rfl, bel_of H.s hB, fun _ _ _ h => h⟩
    · refine asked_pure rfl rfl (fun _ _ h => h) (fun _ _ _ => rfl) (fun l a W H => ?_)
      have e3 : a.eval (.tmp 3) = .pointer (some ⟨g, 0, none⟩) := H.base 3 rfl
      exact run_load39 rfl e3 (cell_below H.s c0) (cell_below H.s c1) (cell_below H.s c2) (cell_below H.s c3)
    · refine asked_pure rfl rfl (fun _ _ h => h) (fun _ _ _ => rfl) (fun l a W H => ?_)
      have e1 : a.eval (.tmp 1) = .int .i64 v := H.base 1 rfl
      exact run_move rfl e1
    · refine asked_pure rfl rfl (fun _ _ h => h) (fun _ _ _ => rfl) (fun l a W H => ?_)
      have e2 : a.eval (.tmp 2) = .int .i64 nb := H.base 2 rfl
      exact run_move rfl e2
    · refine asked_call rfl Try.func23 (by kernel_rfl) (by kernel_rfl) rfl rfl (fun l a W H => ?_)
      have e13 : a.eval (.tmp 13) = endV e := H.facts 13 rfl
      have e14 : a.eval (.tmp 14) = .int .i64 v := H.facts 14 rfl
      have e15 : a.eval (.tmp 15) = .int .i64 nb := H.facts 15 rfl
      have ea : (#[.tmp 13, .tmp 14, .tmp 15, .const (.int .i64 21)] : Array Operand).map a.eval = #[endV e, .int .i64 v, .int .i64 nb, .int .i64 21] := by
        simp only [List.map_toArray, List.map_cons, List.map_nil, e13, e14, e15]; rfl
      rw [ea]
      refine (refEnd_any e v nb W).mono ?_
      rintro x w' ⟨rfl, hB⟩
      exact ⟨_, rfl, rfl, bel_of H.s hB, fun _ _ _ h => h⟩
    · refine asked_pure rfl rfl (fun _ _ h => h) (fun _ _ _ => rfl) (fun l a W H => ?_)
      have e12 : a.eval (.tmp 12) = .int .i64 (endF e v nb) := H.facts 12 rfl
      have e16 : a.eval (.tmp 16) = .int .i64 (endF e v nb) := H.facts 16 rfl
      (simp only [execOp]; try simp only [Option.map]); (try simp only [List.map_toArray, List.map_cons, List.map_nil]); (simp only [e12, e16]; go_simp)
    · refine asked_pure rfl rfl (fun _ _ h => h) (fun _ _ _ => rfl) (fun l a W H => ?_)
      have e17 : a.eval (.tmp 17) = .bool (true) := H.facts 17 rfl
      exact run_assign rfl e17
  · intro l s W _ hS hs
    have h6 : s 6 = .bool true := hs 6 rfl
    have hBf := bel_of hBw1 hS
    clear hs hS
    simp [overlay, dstsOf]
    go_wp2
    go_ret
    rw [h6]
    exact ⟨rfl, hBf⟩

theorem walk {H : Type} {enc : TypeId × Value → H} (W : World) (base : Nat) (v0 v1 v2 : Value) {d0 d1 d2 : DataW H} {p0 p1 p2 : List MemPlace} (o0 : Value.okWide Try.prog W .any base 39 v0) (k0 : DataW.Trod enc Try.prog W 0 (fun _ => true) true 39 v0 d0 p0) (o1 : Value.okWide Try.prog W .any base 3 v1) (k1 : DataW.Trod enc Try.prog W 0 (fun _ => true) true 3 v1 d1 p1) (o2 : Value.okWide Try.prog W .any base 3 v2) (k2 : DataW.Trod enc Try.prog W 0 (fun _ => true) true 3 v2 d2 p2) :
    Calls Try.prog 5 #[v0, v1, v2] W fun e w' => e = .returned (.bool true) ∧ Below W.heap.size W w' := by
  obtain ⟨e, rfl⟩ := en_in o0 k0
  obtain ⟨v, rfl, _⟩ := i64_in o1 k1
  obtain ⟨nb, rfl, _⟩ := i64_in o2 k2
  exact ends_walk e v nb W

set_option maxRecDepth 100000 in
theorem lifted (os : Os) (started : os.Started) (H : Type) (enc : TypeId × Value → H) :
    ReturnsInHanded {} Try.checked os 5 .any (Rows.irEndsSpec.pre6 enc Try.prog Try.f5 Rows.irEndsRow.domain false) (Rows.irEndsSpec.post enc Try.prog Try.f5 false true false false) := by
  refine returnsInHanded_of_change (C := Try.checked) own started (by kernel_rfl) Try.func5
    (ChangeSpec.witness6 (enc := enc) (C := Try.checked) false ⟨#[], #[.agg #[.int .u8 0, .int .i64 0, .int .i64 0, .int .i64 0], .int .i64 0, .int .i64 0], []⟩ 8 (by kernel_rfl) (by kernel_rfl) (by kernel_rfl) (by kernel_rfl)) ?_
  intro W base args ds gs before hval0 hW hcnd _
  have hval : ∀ (j : Nat) t v, Try.f5.params[j]? = some t → args[j]? = some v → Value.okWide Try.prog W .any base t v := hval0
  have hW' := hW
  obtain ⟨p, q, hA0, hV, rfl, hfz, hnd⟩ := hW
  have hA : DataW.TrodAll enc Try.prog W 0 (fun _ => true) true Try.f5.params.toList args.toList ds p := hA0
  rw [Try.params5] at hA hval
  obtain ⟨v0, vs0, d0, ds0, p0, q0, hargs, rfl, rfl, h0, r0⟩ := trodAll_cons hA
  obtain ⟨v1, vs1, d1, ds1, p1, q1, rfl, rfl, rfl, h1, r1⟩ := trodAll_cons r0
  obtain ⟨v2, vs2, d2, ds2, p2, q2, rfl, rfl, rfl, h2, r2⟩ := trodAll_cons r1
  obtain ⟨rfl, rfl, rfl⟩ := trodAll_nil r2
  obtain rfl : args = #[v0, v1, v2] := by cases args; simp_all
  obtain ⟨rfl, rfl⟩ := trodVars_none hV
  have lt0 : ∀ x ∈ p0, x.block < W.heap.size := by obtain ⟨m, hm⟩ := h0; exact DataW.trod_lt m _ _ _ hm
  have lt1 : ∀ x ∈ p1, x.block < W.heap.size := by obtain ⟨m, hm⟩ := h1; exact DataW.trod_lt m _ _ _ hm
  have lt2 : ∀ x ∈ p2, x.block < W.heap.size := by obtain ⟨m, hm⟩ := h2; exact DataW.trod_lt m _ _ _ hm
  refine (walk W base v0 v1 v2 (hval 0 39 v0 rfl rfl) h0 (hval 1 3 v1 rfl rfl) h1 (hval 2 3 v2 rfl rfl) h2).mono fun e W' ⟨he, bel⟩ => ?_
  subst he
  exact ⟨_, rfl, _, _, _, [], _, [], hW', trodAll_mk1 (shut_bool Try.underlying4 _), (trodAll_cons_mk (Below.trod laidOut (by kernel_rfl) (of_decide_eq_true (by kernel_rfl)) h0 bel lt0) (trodAll_cons_mk (Below.trod laidOut (by kernel_rfl) (of_decide_eq_true (by kernel_rfl)) h1 bel lt1) (trodAll_cons_mk (Below.trod laidOut (by kernel_rfl) (of_decide_eq_true (by kernel_rfl)) h2 bel lt2) trodAll_mk0))), rfl, bel.frame _, fun h => by cases h⟩

theorem over : Rows.irEndsRow.holds Try.pinned (OpenSpec.ofChange Rows.irEndsSpec) :=
  OpenClaim.holds_of_wide 5 Try.f5 rfl rfl rfl rfl rfl rfl rfl ⟨rfl, rfl, rfl, rfl, rfl⟩ rfl rfl rfl rfl rfl (by kernel_rfl) Try.func5 (by kernel_rfl)
    (of_decide_eq_true (by kernel_rfl)) (by unfold Func.isWrapper; first | (rw [if_pos (by decide +kernel)]; kernel_rfl) | (rw [if_neg (by decide +kernel)]; exact ⟨rfl, rfl⟩))
    (fun os started H enc _ => lifted os started H enc)

end Go.Proofs.Yteidejcaoboejaa.irEnds
namespace Go.Proofs.Yteidejcaoboejaa
theorem irEnds_holds : Rows.IrEndsSaid := irEnds.over
#print axioms irEnds_holds
end Go.Proofs.Yteidejcaoboejaa
