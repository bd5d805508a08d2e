/- MachFree: P5.1: which instructions cost nothing: mach.Free answers so. -/
import Derived.Test.YtbgedbahabbanaaRows
import Derived.WalkKit
import Derived.ProofKit
import Derived.OpenShut
import Derived.ShutString
import Derived.ChangeOld
import Derived.Below
import Derived.Test.YtbgedbahabbanaaAwake
import Derived.Test.YtbgedbahabbanaaOpen
namespace Go.Proofs.Ytbgedbahabbanaa.machFree
open Go.ChangeShapes Go.WideShapes Go.ChangeAt Go.RowKit Ir
open Go.ChangeMaps (open_string shut_string)
set_option linter.unusedVariables false

theorem own : ownKnob Try.prog.godebug = none := by kernel_rfl
theorem laidOut : laidOutB Try.prog = true := by kernel_rfl

/-- What is known of each temporary that the last statement writes. -/
def Gfr (g : Nat) (c2 c7 c8 : Bool) (i : Ins) (ua : Option Addr) (ca : Nat) : Tmp → Value → World → Prop
  | 5, xx, _ => xx = insV i (.slice ua i.args.length ca)
  | 6, xx, _ => xx = .bool (fre i.k)
  | 7, xx, _ => xx = .pointer (some ⟨g, 0, none⟩)
  | 8, xx, _ => xx = .int .u8 i.k
  | 9, xx, _ => xx = .bool (c2)
  | 10, xx, _ => xx = .bool (c2)
  | 11, xx, _ => xx = if (!(c2)) = true then .pointer (some ⟨g, 0, none⟩) else undef
  | 12, xx, _ => xx = if (!(c2)) = true then .int .u8 i.k else undef
  | 13, xx, _ => xx = if (!(c2)) = true then .bool (c7) else undef
  | 14, xx, _ => xx = .bool (c2 || c7)
  | 15, xx, _ => xx = .bool (c2 || c7)
  | 16, xx, _ => xx = if (!(c2 || c7)) = true then .pointer (some ⟨g, 0, none⟩) else undef
  | 17, xx, _ => xx = if (!(c2 || c7)) = true then .int .u8 i.k else undef
  | 18, xx, _ => xx = if (!(c2 || c7)) = true then .bool (c8) else undef
  | 19, xx, _ => xx = .bool ((c2 || c7) || c8)
  | 20, xx, _ => xx = .bool (true)
  | 2, xx, _ => xx = .bool (true)
  | _, _, _ => True

set_option maxHeartbeats 1000000 in
set_option maxRecDepth 100000 in
theorem free_walk (i : Ins) (ua : Option Addr) (ca : Nat) (w : World) : Calls Try.prog 4 #[insV i (.slice ua i.args.length ca)] w fun r w' => r = .returned (.bool true) ∧ Below w.heap.size w w' := by
  have hB0 := bel1 w (.cells #[.int .u8 i.k, .int .u8 i.op, .int .i64 i.d, .int .i64 i.a, .int .i64 i.b, .int .i64 i.n, .slice ua i.args.length ca] 46)
  have hA := hide (awake_any (w.alloc (.cells #[.int .u8 i.k, .int .u8 i.op, .int .i64 i.d, .int .i64 i.a, .int .i64 i.b, .int .i64 i.n, .slice ua i.args.length ca] 46)))
  have hi0 := hide (boxI (Below.refl _ (w.alloc (.cells #[.int .u8 i.k, .int .u8 i.op, .int .i64 i.d, .int .i64 i.a, .int .i64 i.b, .int .i64 i.n, .slice ua i.args.length ca] 46))))
  have hF0 := hide (fre_eq i.k)
  unfold insV
  go_enter Try.func4, Try.ntmps4
  go_wp2_with fail
  refine hA.out.mono ?_
  rintro r w1 ⟨rfl, hB1⟩
  have hi := hi0.out.below hB1
  have hBw1 := bel_of hB0 hB1
  clear hB0 hB1 hA hi0
  go_wp2_with fail
  generalize hgz : w.heap.size = g at hi ⊢
  clear hgz
  have hF := hF0.out
  generalize h2 : (i.k == 2) = c2 at hF
  generalize h7 : (i.k == 7) = c7 at hF
  generalize h8 : (i.k == 8) = c8 at hF
  rw [← Bool.or_assoc] at hF
  refine wp_region_each (by kernel_rfl) (fun d x _ => Gfr g c2 c7 c8 i ua ca d x w1) (fun _ W => Below w1.heap.size w1 W) (by kernel_rfl) (Below.refl _ _).drew ?_ ?_
  · refine And.intro ?_ (And.intro ?_ (And.intro ?_ (And.intro ?_ (And.intro ?_ (And.intro ?_ (And.intro ?_ (And.intro ?_ (And.intro ?_ (And.intro ?_ (And.intro ?_ (And.intro ?_ (And.intro ?_ (And.intro ?_ (And.intro ?_ (And.intro ?_ (And.intro ?_ trivial))))))))))))))))
    · refine asked_pure rfl rfl (fun _ _ h => h) (fun _ _ _ => rfl) (fun l a W H => ?_)
      have e1 : a.eval (.tmp 1) = .pointer (some ⟨g, 0, none⟩) := H.base 1 rfl
      exact run_load46 rfl e1 (hi.below H.s)
    · refine asked_call rfl Try.func13 (by kernel_rfl) (by kernel_rfl) rfl rfl (fun l a W H => ?_)
      have e5 : a.eval (.tmp 5) = insV i (.slice ua i.args.length ca) := H.facts 5 rfl
      have ea : (#[.tmp 5] : Array Operand).map a.eval = #[insV i (.slice ua i.args.length ca)] := by
        simp only [List.map_toArray, List.map_cons, List.map_nil, e5]
      rw [ea]
      refine (free_any i ua ca W).mono ?_
      rintro x w' ⟨rfl, hB⟩
      exact ⟨_, rfl, rfl, bel_of H.s hB, fun _ _ _ h => h⟩
    · refine asked_pure rfl rfl (fun _ _ h => h) (fun _ _ _ => rfl) (fun l a W H => ?_)
      have e1 : a.eval (.tmp 1) = .pointer (some ⟨g, 0, none⟩) := H.base 1 rfl
      (simp only [execOp]; try simp only [Option.map]); (try simp only [List.map_toArray, List.map_cons, List.map_nil]); (simp only [e1]; go_simp)
    · refine asked_pure rfl rfl (fun _ _ h => h) (fun _ _ _ => rfl) (fun l a W H => ?_)
      have e7 : a.eval (.tmp 7) = .pointer (some ⟨g, 0, none⟩) := H.facts 7 rfl
      have hcc := cell_below H.s hi.c0
      (simp only [execOp]; try simp only [Option.map]); (try simp only [List.map_toArray, List.map_cons, List.map_nil]); (simp only [e7]; go_simp)
    · refine asked_pure rfl rfl (fun _ _ h => h) (fun _ _ _ => rfl) (fun l a W H => ?_)
      have e8 : a.eval (.tmp 8) = .int .u8 i.k := H.facts 8 rfl
      rw [← h2]
      (simp only [execOp]; try simp only [Option.map]); (try simp only [List.map_toArray, List.map_cons, List.map_nil]); (simp only [e8]; go_simp)
    · refine asked_pure rfl rfl (fun _ _ h => h) (fun _ _ _ => rfl) (fun l a W H => ?_)
      have e9 : a.eval (.tmp 9) = .bool (c2) := H.facts 9 rfl
      exact run_move rfl e9
    · refine asked_guard (c := (!(c2))) (v := .pointer (some ⟨g, 0, none⟩)) rfl rfl rfl rfl (fun _ _ h => h) ?_ (fun _ _ _ => rfl) ?_
      · intro l u W _ hu
        have hu : u = .bool (c2) := hu
        exact want_f hu
      intro hc l a W H
      have e1 : a.eval (.tmp 1) = .pointer (some ⟨g, 0, none⟩) := H.base 1 rfl
      (simp only [execOp]; try simp only [Option.map]); (try simp only [List.map_toArray, List.map_cons, List.map_nil]); (simp only [e1]; go_simp)
    · refine asked_guard (c := (!(c2))) (v := .int .u8 i.k) rfl rfl rfl rfl (fun _ _ h => h) ?_ (fun _ _ _ => rfl) ?_
      · intro l u W _ hu
        have hu : u = .bool (c2) := hu
        exact want_f hu
      intro hc l a W H
      have e11 : a.eval (.tmp 11) = .pointer (some ⟨g, 0, none⟩) := by
        have e : a.eval (.tmp 11) = if (!(c2)) = true then .pointer (some ⟨g, 0, none⟩) else undef := H.facts 11 rfl
        rw [if_pos hc] at e
        exact e
      have hcc := cell_below H.s hi.c0
      (simp only [execOp]; try simp only [Option.map]); (try simp only [List.map_toArray, List.map_cons, List.map_nil]); (simp only [e11]; go_simp)
    · refine asked_guard (c := (!(c2))) (v := .bool (c7)) rfl rfl rfl rfl (fun _ _ h => h) ?_ (fun _ _ _ => rfl) ?_
      · intro l u W _ hu
        have hu : u = .bool (c2) := hu
        exact want_f hu
      intro hc l a W H
      have e12 : a.eval (.tmp 12) = .int .u8 i.k := by
        have e : a.eval (.tmp 12) = if (!(c2)) = true then .int .u8 i.k else undef := H.facts 12 rfl
        rw [if_pos hc] at e
        exact e
      rw [← h7]
      (simp only [execOp]; try simp only [Option.map]); (try simp only [List.map_toArray, List.map_cons, List.map_nil]); (simp only [e12]; go_simp)
    · refine asked_pure rfl rfl (fun _ _ h => h) (fun _ _ _ => rfl) (fun l a W H => ?_)
      have e10 : a.eval (.tmp 10) = .bool (c2) := H.facts 10 rfl
      exact run_pick_or rfl e10 (fun hb => by
        have hc : (!(c2)) = true := by simp_all
        have e13 : a.eval (.tmp 13) = .bool (c7) := by
          have e : a.eval (.tmp 13) = if (!(c2)) = true then .bool (c7) else undef := H.facts 13 rfl
          rw [if_pos hc] at e
          exact e
        exact e13)
    · refine asked_pure rfl rfl (fun _ _ h => h) (fun _ _ _ => rfl) (fun l a W H => ?_)
      have e14 : a.eval (.tmp 14) = .bool (c2 || c7) := H.facts 14 rfl
      exact run_move rfl e14
    · refine asked_guard (c := (!(c2 || c7))) (v := .pointer (some ⟨g, 0, none⟩)) rfl rfl rfl rfl (fun _ _ h => h) ?_ (fun _ _ _ => rfl) ?_
      · intro l u W _ hu
        have hu : u = .bool (c2 || c7) := hu
        exact want_f hu
      intro hc l a W H
      have e1 : a.eval (.tmp 1) = .pointer (some ⟨g, 0, none⟩) := H.base 1 rfl
      (simp only [execOp]; try simp only [Option.map]); (try simp only [List.map_toArray, List.map_cons, List.map_nil]); (simp only [e1]; go_simp)
    · refine asked_guard (c := (!(c2 || c7))) (v := .int .u8 i.k) rfl rfl rfl rfl (fun _ _ h => h) ?_ (fun _ _ _ => rfl) ?_
      · intro l u W _ hu
        have hu : u = .bool (c2 || c7) := hu
        exact want_f hu
      intro hc l a W H
      have e16 : a.eval (.tmp 16) = .pointer (some ⟨g, 0, none⟩) := by
        have e : a.eval (.tmp 16) = if (!(c2 || c7)) = true then .pointer (some ⟨g, 0, none⟩) else undef := H.facts 16 rfl
        rw [if_pos hc] at e
        exact e
      have hcc := cell_below H.s hi.c0
      (simp only [execOp]; try simp only [Option.map]); (try simp only [List.map_toArray, List.map_cons, List.map_nil]); (simp only [e16]; go_simp)
    · refine asked_guard (c := (!(c2 || c7))) (v := .bool (c8)) rfl rfl rfl rfl (fun _ _ h => h) ?_ (fun _ _ _ => rfl) ?_
      · intro l u W _ hu
        have hu : u = .bool (c2 || c7) := hu
        exact want_f hu
      intro hc l a W H
      have e17 : a.eval (.tmp 17) = .int .u8 i.k := by
        have e : a.eval (.tmp 17) = if (!(c2 || c7)) = true then .int .u8 i.k else undef := H.facts 17 rfl
        rw [if_pos hc] at e
        exact e
      rw [← h8]
      (simp only [execOp]; try simp only [Option.map]); (try simp only [List.map_toArray, List.map_cons, List.map_nil]); (simp only [e17]; go_simp)
    · refine asked_pure rfl rfl (fun _ _ h => h) (fun _ _ _ => rfl) (fun l a W H => ?_)
      have e15 : a.eval (.tmp 15) = .bool (c2 || c7) := H.facts 15 rfl
      exact run_pick_or rfl e15 (fun hb => by
        have hc : (!(c2 || c7)) = true := by simp_all
        have e18 : a.eval (.tmp 18) = .bool (c8) := by
          have e : a.eval (.tmp 18) = if (!(c2 || c7)) = true then .bool (c8) else undef := H.facts 18 rfl
          rw [if_pos hc] at e
          exact e
        exact e18)
    · refine asked_pure rfl rfl (fun _ _ h => h) (fun _ _ _ => rfl) (fun l a W H => ?_)
      have e6 : a.eval (.tmp 6) = .bool (fre i.k) := H.facts 6 rfl
      have e19 : a.eval (.tmp 19) = .bool ((c2 || c7) || c8) := H.facts 19 rfl
      rw [hF] at e6
      (simp only [execOp]; try simp only [Option.map]); (try simp only [List.map_toArray, List.map_cons, List.map_nil]); (simp only [e6, e19]; go_simp)
    · refine asked_pure rfl rfl (fun _ _ h => h) (fun _ _ _ => rfl) (fun l a W H => ?_)
      have e20 : a.eval (.tmp 20) = .bool (true) := H.facts 20 rfl
      exact run_assign rfl e20
  · intro l s W _ hS hs
    have h6 : s 2 = .bool true := hs 2 rfl
    have hBf := bel_of hBw1 hS
    clear hs hS
    simp [overlay, dstsOf]
    go_wp2
    go_ret
    rw [h6]
    exact ⟨rfl, hBf⟩

theorem walk {H : Type} {enc : TypeId × Value → H} (W : World) (base : Nat) (v0 : Value) {d0 : DataW H} {p0 : List MemPlace} (o0 : Value.okWide Try.prog W .any base 46 v0) (k0 : DataW.Trod enc Try.prog W 0 (fun _ => true) true 46 v0 d0 p0) :
    Calls Try.prog 4 #[v0] W fun e w' => e = .returned (.bool true) ∧ Below W.heap.size W w' := by
  obtain ⟨i, u, rfl, hu⟩ := ins_in o0 k0
  obtain ⟨ua, ca, rfl⟩ := hu.slice
  exact free_walk i ua ca W

set_option maxRecDepth 100000 in
theorem lifted (os : Os) (started : os.Started) (H : Type) (enc : TypeId × Value → H) :
    ReturnsInHanded {} Try.checked os 4 .any (Rows.machFreeSpec.pre6 enc Try.prog Try.f4 Rows.machFreeRow.domain false) (Rows.machFreeSpec.post enc Try.prog Try.f4 false true false false) := by
  refine returnsInHanded_of_change (C := Try.checked) own started (by kernel_rfl) Try.func4
    (ChangeSpec.witness6 (enc := enc) (C := Try.checked) false ⟨#[], #[.agg #[.int .u8 0, .int .u8 0, .int .i64 0, .int .i64 0, .int .i64 0, .int .i64 0, .slice none 0 0]], []⟩ 8 (by kernel_rfl) (by kernel_rfl) (by kernel_rfl) (by kernel_rfl)) ?_
  intro W base args ds gs before hval0 hW hcnd _
  have hval : ∀ (j : Nat) t v, Try.f4.params[j]? = some t → args[j]? = some v → Value.okWide Try.prog W .any base t v := hval0
  have hW' := hW
  obtain ⟨p, q, hA0, hV, rfl, hfz, hnd⟩ := hW
  have hA : DataW.TrodAll enc Try.prog W 0 (fun _ => true) true Try.f4.params.toList args.toList ds p := hA0
  rw [Try.params4] at hA hval
  obtain ⟨v0, vs0, d0, ds0, p0, q0, hargs, rfl, rfl, h0, r0⟩ := trodAll_cons hA
  obtain ⟨rfl, rfl, rfl⟩ := trodAll_nil r0
  obtain rfl : args = #[v0] := by cases args; simp_all
  obtain ⟨rfl, rfl⟩ := trodVars_none hV
  have lt0 : ∀ x ∈ p0, x.block < W.heap.size := by obtain ⟨m, hm⟩ := h0; exact DataW.trod_lt m _ _ _ hm
  refine (walk W base v0 (hval 0 46 v0 rfl rfl) h0).mono fun e W' ⟨he, bel⟩ => ?_
  subst he
  exact ⟨_, rfl, _, _, _, [], _, [], hW', trodAll_mk1 (shut_bool Try.underlying4 _), (trodAll_cons_mk (Below.trod laidOut (by kernel_rfl) (of_decide_eq_true (by kernel_rfl)) h0 bel lt0) trodAll_mk0), rfl, bel.frame _, fun h => by cases h⟩

theorem over : Rows.machFreeRow.holds Try.pinned (OpenSpec.ofChange Rows.machFreeSpec) :=
  OpenClaim.holds_of_wide 4 Try.f4 rfl rfl rfl rfl rfl rfl rfl ⟨rfl, rfl, rfl, rfl, rfl⟩ rfl rfl rfl rfl rfl (by kernel_rfl) Try.func4 (by kernel_rfl)
    (of_decide_eq_true (by kernel_rfl)) (by unfold Func.isWrapper; first | (rw [if_pos (by decide +kernel)]; kernel_rfl) | (rw [if_neg (by decide +kernel)]; exact ⟨rfl, rfl⟩))
    (fun os started H enc _ => lifted os started H enc)

end Go.Proofs.Ytbgedbahabbanaa.machFree
namespace Go.Proofs.Ytbgedbahabbanaa
theorem machFree_holds : Rows.MachFreeSaid := machFree.over
#print axioms machFree_holds
end Go.Proofs.Ytbgedbahabbanaa
