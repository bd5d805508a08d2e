/- IrUses: P4.1: what any instruction takes and gives, and any end: ir answers as the document, in memory of its own. -/
import Derived.Test.YteidejcaoboejaaRows
import Derived.WalkKit
import Derived.ProofKit
import Derived.OpenShut
import Derived.ShutString
import Derived.ChangeOld
import Derived.Below
import Derived.Test.YteidejcaoboejaaAwake
import Derived.Test.YteidejcaoboejaaOpen
import Derived.Test.YteidejcaoboejaaSoft
namespace Go.Proofs.Yteidejcaoboejaa.irUses
open Go.ChangeShapes Go.WideShapes Go.ChangeAt Go.RowKit Ir
open Go.ChangeMaps (open_string shut_string)
set_option linter.unusedVariables false

theorem own : ownKnob Try.prog.godebug = none := by kernel_rfl
theorem laidOut : laidOutB Try.prog = true := by kernel_rfl

/-- What is known of each temporary that the last statement writes. -/
def Gu (g g2 : Nat) (x : Int) (gk b1 b2 : Bool) (i : Ins) (u : Value) (e : En) : Tmp → Value → World → Prop
  | 43, xx, _ => xx = insV i u
  | 44, xx, ww => IntsV ww xx (uses i)
  | 45, xx, _ => xx = insV i u
  | 46, xx, ww => IntsV ww xx (uses i)
  | 47, xx, _ => xx = .bool (true)
  | 48, xx, _ => xx = .bool (true)
  | 49, xx, _ => xx = if (true) = true then .bool (gk) else undef
  | 50, xx, _ => xx = if (true) = true then .pointer (some ⟨g, 0, none⟩) else undef
  | 51, xx, _ => xx = if (true) = true then .int .u8 i.k else undef
  | 52, xx, _ => xx = if (true) = true then .bool (gk) else undef
  | 53, xx, _ => xx = if (true) = true then .bool (true) else undef
  | 54, xx, _ => xx = .bool (true)
  | 55, xx, _ => xx = .bool (true)
  | 56, xx, _ => xx = if (true) = true then .bool (gk) else undef
  | 57, xx, _ => xx = if (true) = true then .bool (gk) else undef
  | 58, xx, _ => xx = if ((true) && (gk)) = true then .int .i64 x else undef
  | 59, xx, _ => xx = if ((true) && (gk)) = true then .pointer (some ⟨g, 2, none⟩) else undef
  | 60, xx, _ => xx = if ((true) && (gk)) = true then .int .i64 i.d else undef
  | 61, xx, _ => xx = if ((true) && (gk)) = true then .bool (b1) else undef
  | 62, xx, _ => xx = if (true) = true then .bool (gk && b1) else undef
  | 63, xx, _ => xx = if (true) = true then .bool (gk && b1) else undef
  | 64, xx, _ => xx = if ((true) && (!(gk && b1))) = true then .bool (gk) else undef
  | 65, xx, _ => xx = if ((true) && (!(gk && b1))) = true then .bool (!gk) else undef
  | 66, xx, _ => xx = if ((true) && (!(gk && b1))) = true then .bool (!gk) else undef
  | 67, xx, _ => xx = if (((true) && (!(gk && b1))) && (!gk)) = true then .int .i64 x else undef
  | 68, xx, _ => xx = if (((true) && (!(gk && b1))) && (!gk)) = true then .bool (b2) else undef
  | 69, xx, _ => xx = if ((true) && (!(gk && b1))) = true then .bool (!gk && b2) else undef
  | 70, xx, _ => xx = if (true) = true then .bool ((gk && b1) || (!gk && b2)) else undef
  | 71, xx, _ => xx = .bool ((gk && b1) || (!gk && b2))
  | 72, xx, _ => xx = .bool ((gk && b1) || (!gk && b2))
  | 73, xx, _ => xx = if ((gk && b1) || (!gk && b2)) = true then .int .i64 e.a else undef
  | 74, xx, _ => xx = if ((gk && b1) || (!gk && b2)) = true then .pointer (some ⟨g2, 1, none⟩) else undef
  | 75, xx, _ => xx = if ((gk && b1) || (!gk && b2)) = true then .int .i64 e.a else undef
  | 76, xx, _ => xx = if ((gk && b1) || (!gk && b2)) = true then .bool (true) else undef
  | 77, xx, _ => xx = .bool (((gk && b1) || (!gk && b2)) && true)
  | 78, xx, _ => xx = .bool (((gk && b1) || (!gk && b2)) && true)
  | 79, xx, _ => xx = if (((gk && b1) || (!gk && b2)) && true) = true then .bool (takes e.k) else undef
  | 80, xx, _ => xx = if (((gk && b1) || (!gk && b2)) && true) = true then endV e else undef
  | 81, xx, _ => xx = if (((gk && b1) || (!gk && b2)) && true) = true then .bool (takes e.k) else undef
  | 82, xx, _ => xx = if (((gk && b1) || (!gk && b2)) && true) = true then .bool (true) else undef
  | 83, xx, _ => xx = .bool ((((gk && b1) || (!gk && b2)) && true) && true)
  | 4, xx, _ => xx = .bool ((((gk && b1) || (!gk && b2)) && true) && true)
  | _, _, _ => True

theorem Gu_below {g g2 : Nat} {x : Int} {gk b1 b2 : Bool} {i : Ins} {u : Value} {e : En} {d : Tmp} {y : Value} {w w' : World} (h : Gu g g2 x gk b1 b2 i u e d y w) (hB : Below w.heap.size w w') : Gu g g2 x gk b1 b2 i u e d y w' := by
  unfold Gu at h ⊢
  split
  all_goals
    first
      | exact h
      | exact IntsV.below h hB
      | trivial

/-- A number stored into a row of numbers of the call's own. -/
theorem args_set {B : Nat} {w : World} {g n cap : Nat} {ys : List Int} (h : ArgsO B w (.slice (some ⟨g, 0, none⟩) n cap) ys) (k : Nat) (x : Int) : B ≤ g ∧ w.frozen? ⟨g, k, none⟩ = false ∧ ∃ zs, zs.length = ys.length ∧ ArgsO B (w.setCell ⟨g, k, none⟩ (.int .i64 x)) (.slice (some ⟨g, 0, none⟩) n cap) zs := by
  rcases h.2 with ⟨h0, _⟩ | ⟨g', cap', cur, hv, hb, hg, _⟩
  · simp at h0
  · simp only [Value.slice.injEq, Option.some.injEq, Addr.mk.injEq] at hv
    obtain ⟨⟨rfl, _⟩, _, _⟩ := hv
    refine ⟨hb, frozen_of_row _ _ _ _ _ hg, ?_⟩
    exact h.soft (Soft.set hg ⟨fun _ => ⟨x, rfl⟩, fun h => by simp at h, fun h => by simp at h⟩)
theorem uses_small {i : Ins} (h : i.args.length ≤ 1000) : (uses i).length ≤ 1000 := by
  unfold uses
  (repeat' split) <;> first | exact h | simp

set_option maxHeartbeats 4000000 in
set_option maxRecDepth 100000 in
theorem uses_few (i : Ins) (ua : Option Addr) (ca : Nat) (e : En) (w : World) (hu : IntsV w (.slice ua i.args.length ca) i.args) (hle : i.args.length ≤ 1000) :
    Calls Try.prog 4 #[insV i (.slice ua i.args.length ca), endV e] w fun r w' => r = .returned (.bool true) ∧ Below w.heap.size w w' := by
  have hBa := bel1 w (.cells #[.int .u8 i.k, .int .u8 i.op, .int .i64 i.d, .int .i64 i.a, .int .i64 i.b, .int .i64 i.n, .slice ua i.args.length ca] 46)
  have hza : (w.alloc (.cells #[.int .u8 i.k, .int .u8 i.op, .int .i64 i.d, .int .i64 i.a, .int .i64 i.b, .int .i64 i.n, .slice ua i.args.length ca] 46)).heap.size = w.heap.size + 1 := by simp
  have hBb := bel1 (w.alloc (.cells #[.int .u8 i.k, .int .u8 i.op, .int .i64 i.d, .int .i64 i.a, .int .i64 i.b, .int .i64 i.n, .slice ua i.args.length ca] 46)) (.cells #[.int .u8 e.k, .int .i64 e.a, .int .i64 e.to, .int .i64 e.el] 39)
  have HBb := hide hBb
  have HZ := hide hza
  have HU := hide ((hu.below hBa).below hBb)
  have hBab := bel_of hBa hBb
  have hlei : (i.args.length : Int) ≤ 1000 := by omega
  unfold insV endV
  clear hu hBa hBb hza
  go_enter Try.func4, Try.ntmps4
  go_wp2_with fail
  refine (awake_any _).mono ?_
  rintro r w1 ⟨rfl, hB1⟩
  have hi1 := hide (boxI (bel_of HBb.out hB1))
  obtain ⟨a0, a1, a2, a3, a4, a5, a6⟩ := hi1.out.zero
  have c0 := box_cell hB1 0 rfl
  have c1 := box_cell hB1 1 rfl
  have c2 := box_cell hB1 2 rfl
  have c3 := box_cell hB1 3 rfl
  rw [HZ.out] at c0 c1 c2 c3
  have HU1 := hide (HU.out.below hB1)
  have hBw1 := bel_of hBab hB1
  have hUs := hide (uses_any i _ w1 HU1.out (by omega))
  unfold insV at hUs
  clear HBb hB1 hBab HU
  go_wp2_with fail
  refine hUs.out.mono ?_
  rintro r w2 ⟨u2, rfl, hO2, hB2⟩
  have HO2 := hide hO2
  obtain ⟨au, cu, rfl⟩ := hO2.v.slice
  have d0 := hi1.out.below hB2
  obtain ⟨b0, b1, b2, b3, b4, b5, b6⟩ := d0.zero
  have hR := hide (refUses_any i _ w2 (HU1.out.below hB2))
  unfold insV at hR
  have hul := uses_small hle
  clear hUs hO2 d0 a0 a1 a2 a3 a4 a5 a6
  go_wp2_with fail
  refine hR.out.mono ?_
  rintro r w3 ⟨u3, rfl, hV3, hB3⟩
  have hS := hide (sameInts_any _ _ (uses i) w3 (HO2.out.v.below hB3) hV3 (by omega))
  obtain ⟨au3, cu3, rfl⟩ := hV3.slice
  have HO3 := hide (owns_below HO2.out hB3)
  have hB13 := bel_of hB2 hB3
  clear hR hV3 b0 b1 b2 b3 b4 b5 b6 hB3 hB2 HO2
  go_wp2_with fail
  refine hS.out.mono ?_
  rintro r w4 ⟨rfl, hB4⟩
  have HO4 := hide (owns_below HO3.out hB4)
  have hB14 := bel_of hB13 hB4
  have hO4 : ∃ ys : List Int, ys.length = (uses i).length ∧ ArgsO w1.heap.size w4 (.slice au (uses i).length cu) ys := ⟨_, rfl, HO4.out⟩
  clear hS HO3 HO4 hB4 hB13
  go_wp2_with fail
  go_loopw [6, 26] (fun _ iv wr => ∃ k : Nat, k ≤ (uses i).length ∧ iv = .int .i64 k ∧ (∃ ys : List Int, ys.length = (uses i).length ∧ ArgsO w1.heap.size wr (.slice au (uses i).length cu) ys) ∧ Below w1.heap.size w1 wr) (fun _ iv _ => (uses i).length - (intOf iv).toNat)
  case atStart => exact ⟨0, by omega, rfl, hO4, hB14⟩
  case round =>
    obtain ⟨k, hk, rfl, ⟨ys, hys, hOr⟩, hBr⟩ := hrel
    by_cases hlt : k < (uses i).length
    · have hau : ∃ g, au = some ⟨g, 0, none⟩ := by
        rcases hOr.2 with ⟨h0, h00⟩ | ⟨g, cap, cur, hv, _⟩
        · omega
        · simp only [Value.slice.injEq] at hv
          exact ⟨g, hv.1⟩
      obtain ⟨g, rfl⟩ := hau
      obtain ⟨hbg, hfr, zs, hzl, hOz⟩ := args_set hOr k (-7)
      obtain ⟨bb, off, e1, hcell⟩ := hOr.v.at k (by omega)
      simp only [Option.some.injEq, Addr.mk.injEq, and_true] at e1
      obtain ⟨rfl, rfl⟩ := e1
      rw [Nat.zero_add] at hcell
      have hlt' : (k : Int) < ((uses i).length : Int) := by omega
      have hB' := hBr.setCell (p := ⟨g, k, none⟩) hbg (.int .i64 (-7))
      clear hOr hO4
      go_wp2_with fail
      go_roundw
      case rel => exact ⟨k + 1, by omega, by go_num, ⟨zs, by omega, hOz⟩, hB'⟩
      case measure => simp [intOf]; omega
    · obtain rfl : k = (uses i).length := by omega
      have hi5 := hide (hi1.out.below hBr)
      obtain ⟨a0, a1, a2, a3, a4, a5, a6⟩ := hi5.out.zero
      have HU5 := hide (HU1.out.below hBr)
      have hGv := hide (gives_any i _ wr HU5.out)
      unfold insV at hGv
      have c0 := cell_below hBr c0
      have c1 := cell_below hBr c1
      have c2 := cell_below hBr c2
      have c3 := cell_below hBr c3
      clear hO4 hOr
      go_wp2_with fail
      refine hGv.out.mono ?_
      rintro r w6 ⟨rfl, hB6⟩
      have c0 := cell_below hB6 c0
      have c1 := cell_below hB6 c1
      have c2 := cell_below hB6 c2
      have c3 := cell_below hB6 c3
      have hL := hide (last_any e w6)
      unfold endV at hL
      clear a0 a1 a2 a3 a4 a5 a6 hGv
      go_wp2_with fail
      refine hL.out.mono ?_
      rintro r w7 ⟨rfl, hB7⟩
      have hB57 := bel_of hB6 hB7
      have c0 := cell_below hB7 c0
      have c1 := cell_below hB7 c1
      have c2 := cell_below hB7 c2
      have c3 := cell_below hB7 c3
      have hi := hi5.out.below hB57
      have hu := HU5.out.below hB57
      have hBw7 := bel_of hBw1 (bel_of hBr hB57)
      have hl : i.args.length ≤ 1000000000 := by omega
      have hX : ((gives i.k && (gv i == i.d)) || (!(gives i.k) && (gv i == 0))) = true := by
        unfold gv
        cases gives i.k <;> simp
      clear hL hi1 hi5 HU1 HU5 hB57 hB6 hB7 hBr hB14 hBw1 hlei hle
      generalize hgk : gives i.k = gk at hX ⊢
      generalize h1 : (gv i == i.d) = b1 at hX
      generalize h2 : (gv i == 0) = b2 at hX
      generalize gv i = x at h1 h2 ⊢
      generalize h0u : Value.slice ua i.args.length ca = u at hi hu
      have hul : (uses i).length ≤ 1000000000 := by omega
      go_wp2_with fail
      generalize hgz : w.heap.size = g at c0 c1 c2 c3 hi ⊢
      generalize g + 1 = g2 at c0 c1 c2 c3 ⊢
      clear hgz h0u
      refine wp_region_each (by kernel_rfl) (fun d y W => Gu g g2 x gk b1 b2 i u e d y W) (fun _ W => Below w7.heap.size w7 W) (by kernel_rfl) (Below.refl _ _).drew ?_ ?_
      · refine And.intro ?_ (And.intro ?_ (And.intro ?_ (And.intro ?_ (And.intro ?_ (And.intro ?_ (And.intro ?_ (And.intro ?_ (And.intro ?_ (And.intro ?_ (And.intro ?_ (And.intro ?_ (And.intro ?_ (And.intro ?_ (And.intro ?_ (And.intro ?_ (And.intro ?_ (And.intro ?_ (And.intro ?_ (And.intro ?_ (And.intro ?_ (And.intro ?_ (And.intro ?_ (And.intro ?_ (And.intro ?_ (And.intro ?_ (And.intro ?_ (And.intro ?_ (And.intro ?_ (And.intro ?_ (And.intro ?_ (And.intro ?_ (And.intro ?_ (And.intro ?_ (And.intro ?_ (And.intro ?_ (And.intro ?_ (And.intro ?_ (And.intro ?_ (And.intro ?_ (And.intro ?_ (And.intro ?_ trivial)))))))))))))))))))))))))))))))))))))))))
        · refine asked_pure rfl rfl (fun _ _ h => h) (fun _ _ _ => rfl) (fun l a W H => ?_)
          have e2 : a.eval (.tmp 2) = .pointer (some ⟨g, 0, none⟩) := H.base 2 rfl
          exact run_load46 rfl e2 (hi.below H.s)
        · refine asked_call rfl Try.func15 (by kernel_rfl) (by kernel_rfl) rfl rfl (fun l a W H => ?_)
          have e43 : a.eval (.tmp 43) = insV i u := H.facts 43 rfl
          have ea : (#[.tmp 43] : Array Operand).map a.eval = #[insV i u] := by
            simp only [List.map_toArray, List.map_cons, List.map_nil, e43]
          rw [ea]
          refine (uses_any i u W (hu.below H.s) hl).mono ?_
          rintro y w' ⟨z, rfl, hO, hB⟩
          exact ⟨_, rfl, hO.v, bel_of H.s hB, fun _ _ _ h => Gu_below h hB⟩
        · refine asked_pure rfl rfl (fun _ _ h => h) (fun _ _ _ => rfl) (fun l a W H => ?_)
          have e2 : a.eval (.tmp 2) = .pointer (some ⟨g, 0, none⟩) := H.base 2 rfl
          exact run_load46 rfl e2 (hi.below H.s)
        · refine asked_call rfl Try.func17 (by kernel_rfl) (by kernel_rfl) rfl rfl (fun l a W H => ?_)
          have e45 : a.eval (.tmp 45) = insV i u := H.facts 45 rfl
          have ea : (#[.tmp 45] : Array Operand).map a.eval = #[insV i u] := by
            simp only [List.map_toArray, List.map_cons, List.map_nil, e45]
          rw [ea]
          refine (refUses_any i u W (hu.below H.s)).mono ?_
          rintro y w' ⟨z, rfl, hO, hB⟩
          exact ⟨_, rfl, hO, bel_of H.s hB, fun _ _ _ h => Gu_below h hB⟩
        · refine asked_call rfl Try.func16 (by kernel_rfl) (by kernel_rfl) rfl rfl (fun l a W H => ?_)
          have f44 : IntsV W (a.eval (.tmp 44)) (uses i) := H.facts 44 rfl
          have f46 : IntsV W (a.eval (.tmp 46)) (uses i) := H.facts 46 rfl
          generalize e44 : a.eval (.tmp 44) = z1 at f44
          generalize e46 : a.eval (.tmp 46) = z2 at f46
          have ea : (#[.tmp 44, .tmp 46] : Array Operand).map a.eval = #[z1, z2] := by
            simp only [List.map_toArray, List.map_cons, List.map_nil, e44, e46]
          rw [ea]
          refine (sameInts_any z1 z2 (uses i) W f44 f46 hul).mono ?_
          rintro y w' ⟨rfl, hB⟩
          exact ⟨_, rfl, rfl, bel_of H.s hB, fun _ _ _ h => Gu_below h hB⟩
        · refine asked_pure rfl rfl (fun _ _ h => h) (fun _ _ _ => rfl) (fun l a W H => ?_)
          have e47 : a.eval (.tmp 47) = .bool (true) := H.facts 47 rfl
          exact run_move rfl e47
        · refine asked_guard (c := (true)) (v := .bool (gk)) rfl rfl rfl rfl (fun _ _ h => h) ?_ (fun _ _ _ => rfl) ?_
          · intro l u W _ hu
            have hu : u = .bool (true) := hu
            exact want_t hu
          intro hc l a W H
          have e8 : a.eval (.tmp 8) = .bool gk := H.base 8 rfl
          exact run_move rfl e8
        · refine asked_guard (c := (true)) (v := .pointer (some ⟨g, 0, none⟩)) rfl rfl rfl rfl (fun _ _ h => h) ?_ (fun _ _ _ => rfl) ?_
          · intro l u W _ hu
            have hu : u = .bool (true) := hu
            exact want_t hu
          intro hc l a W H
          have e2 : a.eval (.tmp 2) = .pointer (some ⟨g, 0, none⟩) := H.base 2 rfl
          (simp only [execOp]; try simp only [Option.map]); (try simp only [List.map_toArray, List.map_cons, List.map_nil]); (simp only [e2]; go_simp)
        · refine asked_guard (c := (true)) (v := .int .u8 i.k) rfl rfl rfl rfl (fun _ _ h => h) ?_ (fun _ _ _ => rfl) ?_
          · intro l u W _ hu
            have hu : u = .bool (true) := hu
            exact want_t hu
          intro hc l a W H
          have e50 : a.eval (.tmp 50) = .pointer (some ⟨g, 0, none⟩) := by
            have e : a.eval (.tmp 50) = if (true) = true then .pointer (some ⟨g, 0, none⟩) else undef := H.facts 50 rfl
            rw [if_pos hc] at e
            exact e
          have c := cell_below H.s hi.c0
          (simp only [execOp]; try simp only [Option.map]); (try simp only [List.map_toArray, List.map_cons, List.map_nil]); (simp only [e50]; go_simp)
        · refine asked_gcall (c := (true)) rfl rfl rfl Try.func20 (by kernel_rfl) (by kernel_rfl) rfl rfl ?_ ?_ ?_
          · intro l u W _ hu
            have hu : u = .bool (true) := hu
            exact want_t hu
          · intro hc l W hS
            first | exact absurd hc (by decide) | exact ⟨(if_neg (by rw [hc]; simp)).symm, hS⟩
          intro hc l a W H
          have e51 : a.eval (.tmp 51) = .int .u8 i.k := by
            have e : a.eval (.tmp 51) = if (true) = true then .int .u8 i.k else undef := H.facts 51 rfl
            rw [if_pos hc] at e
            exact e
          have ea : (#[.tmp 51] : Array Operand).map a.eval = #[.int .u8 i.k] := by
            simp only [List.map_toArray, List.map_cons, List.map_nil, e51]
          rw [ea]
          refine (refGives_any i.k W).mono ?_
          rintro y w' ⟨rfl, rfl⟩
          exact ⟨_, rfl, by rw [hgk]; exact (if_pos hc).symm, H.s, fun _ _ _ h => h⟩
        · refine asked_guard (c := (true)) (v := .bool (true)) rfl rfl rfl rfl (fun _ _ h => h) ?_ (fun _ _ _ => rfl) ?_
          · intro l u W _ hu
            have hu : u = .bool (true) := hu
            exact want_t hu
          intro hc l a W H
          have e49 : a.eval (.tmp 49) = .bool (gk) := by
            have e : a.eval (.tmp 49) = if (true) = true then .bool (gk) else undef := H.facts 49 rfl
            rw [if_pos hc] at e
            exact e
          have e52 : a.eval (.tmp 52) = .bool (gk) := by
            have e : a.eval (.tmp 52) = if (true) = true then .bool (gk) else undef := H.facts 52 rfl
            rw [if_pos hc] at e
            exact e
          (simp only [execOp]; try simp only [Option.map]); (try simp only [List.map_toArray, List.map_cons, List.map_nil]); (simp only [e49, e52]; go_simp)
        · refine asked_pure rfl rfl (fun _ _ h => h) (fun _ _ _ => rfl) (fun l a W H => ?_)
          have e48 : a.eval (.tmp 48) = .bool (true) := H.facts 48 rfl
          exact run_pick_and rfl e48 (fun hb => by
            have hc : (true) = true := by simp_all
            have e53 : a.eval (.tmp 53) = .bool (true) := by
              have e : a.eval (.tmp 53) = if (true) = true then .bool (true) else undef := H.facts 53 rfl
              rw [if_pos hc] at e
              exact e
            exact e53)
        · refine asked_pure rfl rfl (fun _ _ h => h) (fun _ _ _ => rfl) (fun l a W H => ?_)
          have e54 : a.eval (.tmp 54) = .bool (true) := H.facts 54 rfl
          exact run_move rfl e54
        · refine asked_guard (c := (true)) (v := .bool (gk)) rfl rfl rfl rfl (fun _ _ h => h) ?_ (fun _ _ _ => rfl) ?_
          · intro l u W _ hu
            have hu : u = .bool (true) := hu
            exact want_t hu
          intro hc l a W H
          have e8 : a.eval (.tmp 8) = .bool gk := H.base 8 rfl
          exact run_move rfl e8
        · refine asked_guard (c := (true)) (v := .bool (gk)) rfl rfl rfl rfl (fun _ _ h => h) ?_ (fun _ _ _ => rfl) ?_
          · intro l u W _ hu
            have hu : u = .bool (true) := hu
            exact want_t hu
          intro hc l a W H
          have e56 : a.eval (.tmp 56) = .bool (gk) := by
            have e : a.eval (.tmp 56) = if (true) = true then .bool (gk) else undef := H.facts 56 rfl
            rw [if_pos hc] at e
            exact e
          exact run_move rfl e56
        · refine asked_guard (c := ((true) && (gk))) (v := .int .i64 x) rfl rfl rfl rfl (fun _ _ h => h) ?_ (fun _ _ _ => rfl) ?_
          · intro l u W _ hu
            have hu : u = if (true) = true then .bool (gk) else undef := hu
            exact want_nt hu
          intro hc l a W H
          have e7 : a.eval (.tmp 7) = .int .i64 x := H.base 7 rfl
          exact run_move rfl e7
        · refine asked_guard (c := ((true) && (gk))) (v := .pointer (some ⟨g, 2, none⟩)) rfl rfl rfl rfl (fun _ _ h => h) ?_ (fun _ _ _ => rfl) ?_
          · intro l u W _ hu
            have hu : u = if (true) = true then .bool (gk) else undef := hu
            exact want_nt hu
          intro hc l a W H
          have e2 : a.eval (.tmp 2) = .pointer (some ⟨g, 0, none⟩) := H.base 2 rfl
          (simp only [execOp]; try simp only [Option.map]); (try simp only [List.map_toArray, List.map_cons, List.map_nil]); (simp only [e2]; go_simp)
        · refine asked_guard (c := ((true) && (gk))) (v := .int .i64 i.d) rfl rfl rfl rfl (fun _ _ h => h) ?_ (fun _ _ _ => rfl) ?_
          · intro l u W _ hu
            have hu : u = if (true) = true then .bool (gk) else undef := hu
            exact want_nt hu
          intro hc l a W H
          have e59 : a.eval (.tmp 59) = .pointer (some ⟨g, 2, none⟩) := by
            have e : a.eval (.tmp 59) = if ((true) && (gk)) = true then .pointer (some ⟨g, 2, none⟩) else undef := H.facts 59 rfl
            rw [if_pos hc] at e
            exact e
          have c : W.cell? ⟨g, 2, none⟩ = some (.int .i64 i.d) := cell_below H.s hi.c2
          (simp only [execOp]; try simp only [Option.map]); (try simp only [List.map_toArray, List.map_cons, List.map_nil]); (simp only [e59]; go_simp)
        · refine asked_guard (c := ((true) && (gk))) (v := .bool (b1)) rfl rfl rfl rfl (fun _ _ h => h) ?_ (fun _ _ _ => rfl) ?_
          · intro l u W _ hu
            have hu : u = if (true) = true then .bool (gk) else undef := hu
            exact want_nt hu
          intro hc l a W H
          have e58 : a.eval (.tmp 58) = .int .i64 x := by
            have e : a.eval (.tmp 58) = if ((true) && (gk)) = true then .int .i64 x else undef := H.facts 58 rfl
            rw [if_pos hc] at e
            exact e
          have e60 : a.eval (.tmp 60) = .int .i64 i.d := by
            have e : a.eval (.tmp 60) = if ((true) && (gk)) = true then .int .i64 i.d else undef := H.facts 60 rfl
            rw [if_pos hc] at e
            exact e
          rw [← h1]
          (simp only [execOp]; try simp only [Option.map]); (try simp only [List.map_toArray, List.map_cons, List.map_nil]); (simp only [e58, e60]; go_simp)
        · refine asked_guard (c := (true)) (v := .bool (gk && b1)) rfl rfl rfl rfl (fun _ _ h => h) ?_ (fun _ _ _ => rfl) ?_
          · intro l u W _ hu
            have hu : u = .bool (true) := hu
            exact want_t hu
          intro hc l a W H
          have e57 : a.eval (.tmp 57) = .bool (gk) := by
            have e : a.eval (.tmp 57) = if (true) = true then .bool (gk) else undef := H.facts 57 rfl
            rw [if_pos hc] at e
            exact e
          exact run_pick_and rfl e57 (fun hb => by
            have hc : ((true) && (gk)) = true := by simp_all
            have e61 : a.eval (.tmp 61) = .bool (b1) := by
              have e : a.eval (.tmp 61) = if ((true) && (gk)) = true then .bool (b1) else undef := H.facts 61 rfl
              rw [if_pos hc] at e
              exact e
            exact e61)
        · refine asked_guard (c := (true)) (v := .bool (gk && b1)) rfl rfl rfl rfl (fun _ _ h => h) ?_ (fun _ _ _ => rfl) ?_
          · intro l u W _ hu
            have hu : u = .bool (true) := hu
            exact want_t hu
          intro hc l a W H
          have e62 : a.eval (.tmp 62) = .bool (gk && b1) := by
            have e : a.eval (.tmp 62) = if (true) = true then .bool (gk && b1) else undef := H.facts 62 rfl
            rw [if_pos hc] at e
            exact e
          exact run_move rfl e62
        · refine asked_guard (c := ((true) && (!(gk && b1)))) (v := .bool (gk)) rfl rfl rfl rfl (fun _ _ h => h) ?_ (fun _ _ _ => rfl) ?_
          · intro l u W _ hu
            have hu : u = if (true) = true then .bool (gk && b1) else undef := hu
            exact want_nf hu
          intro hc l a W H
          have e8 : a.eval (.tmp 8) = .bool gk := H.base 8 rfl
          exact run_move rfl e8
        · refine asked_guard (c := ((true) && (!(gk && b1)))) (v := .bool (!gk)) rfl rfl rfl rfl (fun _ _ h => h) ?_ (fun _ _ _ => rfl) ?_
          · intro l u W _ hu
            have hu : u = if (true) = true then .bool (gk && b1) else undef := hu
            exact want_nf hu
          intro hc l a W H
          have e64 : a.eval (.tmp 64) = .bool (gk) := by
            have e : a.eval (.tmp 64) = if ((true) && (!(gk && b1))) = true then .bool (gk) else undef := H.facts 64 rfl
            rw [if_pos hc] at e
            exact e
          exact run_not rfl e64
        · refine asked_guard (c := ((true) && (!(gk && b1)))) (v := .bool (!gk)) rfl rfl rfl rfl (fun _ _ h => h) ?_ (fun _ _ _ => rfl) ?_
          · intro l u W _ hu
            have hu : u = if (true) = true then .bool (gk && b1) else undef := hu
            exact want_nf hu
          intro hc l a W H
          have e65 : a.eval (.tmp 65) = .bool (!gk) := by
            have e : a.eval (.tmp 65) = if ((true) && (!(gk && b1))) = true then .bool (!gk) else undef := H.facts 65 rfl
            rw [if_pos hc] at e
            exact e
          exact run_move rfl e65
        · refine asked_guard (c := (((true) && (!(gk && b1))) && (!gk))) (v := .int .i64 x) rfl rfl rfl rfl (fun _ _ h => h) ?_ (fun _ _ _ => rfl) ?_
          · intro l u W _ hu
            have hu : u = if ((true) && (!(gk && b1))) = true then .bool (!gk) else undef := hu
            exact want_nt hu
          intro hc l a W H
          have e7 : a.eval (.tmp 7) = .int .i64 x := H.base 7 rfl
          exact run_move rfl e7
        · refine asked_guard (c := (((true) && (!(gk && b1))) && (!gk))) (v := .bool (b2)) rfl rfl rfl rfl (fun _ _ h => h) ?_ (fun _ _ _ => rfl) ?_
          · intro l u W _ hu
            have hu : u = if ((true) && (!(gk && b1))) = true then .bool (!gk) else undef := hu
            exact want_nt hu
          intro hc l a W H
          have e67 : a.eval (.tmp 67) = .int .i64 x := by
            have e : a.eval (.tmp 67) = if (((true) && (!(gk && b1))) && (!gk)) = true then .int .i64 x else undef := H.facts 67 rfl
            rw [if_pos hc] at e
            exact e
          rw [← h2]
          (simp only [execOp]; try simp only [Option.map]); (try simp only [List.map_toArray, List.map_cons, List.map_nil]); (simp only [e67]; go_simp)
        · refine asked_guard (c := ((true) && (!(gk && b1)))) (v := .bool (!gk && b2)) rfl rfl rfl rfl (fun _ _ h => h) ?_ (fun _ _ _ => rfl) ?_
          · intro l u W _ hu
            have hu : u = if (true) = true then .bool (gk && b1) else undef := hu
            exact want_nf hu
          intro hc l a W H
          have e66 : a.eval (.tmp 66) = .bool (!gk) := by
            have e : a.eval (.tmp 66) = if ((true) && (!(gk && b1))) = true then .bool (!gk) else undef := H.facts 66 rfl
            rw [if_pos hc] at e
            exact e
          exact run_pick_and rfl e66 (fun hb => by
            have hc : (((true) && (!(gk && b1))) && (!gk)) = true := by simp_all
            have e68 : a.eval (.tmp 68) = .bool (b2) := by
              have e : a.eval (.tmp 68) = if (((true) && (!(gk && b1))) && (!gk)) = true then .bool (b2) else undef := H.facts 68 rfl
              rw [if_pos hc] at e
              exact e
            exact e68)
        · refine asked_guard (c := (true)) (v := .bool ((gk && b1) || (!gk && b2))) rfl rfl rfl rfl (fun _ _ h => h) ?_ (fun _ _ _ => rfl) ?_
          · intro l u W _ hu
            have hu : u = .bool (true) := hu
            exact want_t hu
          intro hc l a W H
          have e63 : a.eval (.tmp 63) = .bool (gk && b1) := by
            have e : a.eval (.tmp 63) = if (true) = true then .bool (gk && b1) else undef := H.facts 63 rfl
            rw [if_pos hc] at e
            exact e
          exact run_pick_or rfl e63 (fun hb => by
            have hc : ((true) && (!(gk && b1))) = true := by simp_all
            have e69 : a.eval (.tmp 69) = .bool (!gk && b2) := by
              have e : a.eval (.tmp 69) = if ((true) && (!(gk && b1))) = true then .bool (!gk && b2) else undef := H.facts 69 rfl
              rw [if_pos hc] at e
              exact e
            exact e69)
        · refine asked_pure rfl rfl (fun _ _ h => h) (fun _ _ _ => rfl) (fun l a W H => ?_)
          have e55 : a.eval (.tmp 55) = .bool (true) := H.facts 55 rfl
          exact run_pick_and rfl e55 (fun hb => by
            have hc : (true) = true := by simp_all
            have e70 : a.eval (.tmp 70) = .bool ((gk && b1) || (!gk && b2)) := by
              have e : a.eval (.tmp 70) = if (true) = true then .bool ((gk && b1) || (!gk && b2)) else undef := H.facts 70 rfl
              rw [if_pos hc] at e
              exact e
            exact e70)
        · refine asked_pure rfl rfl (fun _ _ h => h) (fun _ _ _ => rfl) (fun l a W H => ?_)
          have e71 : a.eval (.tmp 71) = .bool ((gk && b1) || (!gk && b2)) := H.facts 71 rfl
          exact run_move rfl e71
        · refine asked_guard (c := ((gk && b1) || (!gk && b2))) (v := .int .i64 e.a) rfl rfl rfl rfl (fun _ _ h => h) ?_ (fun _ _ _ => rfl) ?_
          · intro l u W _ hu
            have hu : u = .bool ((gk && b1) || (!gk && b2)) := hu
            exact want_t hu
          intro hc l a W H
          have e9 : a.eval (.tmp 9) = .int .i64 e.a := H.base 9 rfl
          exact run_move rfl e9
        · refine asked_guard (c := ((gk && b1) || (!gk && b2))) (v := .pointer (some ⟨g2, 1, none⟩)) rfl rfl rfl rfl (fun _ _ h => h) ?_ (fun _ _ _ => rfl) ?_
          · intro l u W _ hu
            have hu : u = .bool ((gk && b1) || (!gk && b2)) := hu
            exact want_t hu
          intro hc l a W H
          have e3 : a.eval (.tmp 3) = .pointer (some ⟨g2, 0, none⟩) := H.base 3 rfl
          (simp only [execOp]; try simp only [Option.map]); (try simp only [List.map_toArray, List.map_cons, List.map_nil]); (simp only [e3]; go_simp)
        · refine asked_guard (c := ((gk && b1) || (!gk && b2))) (v := .int .i64 e.a) rfl rfl rfl rfl (fun _ _ h => h) ?_ (fun _ _ _ => rfl) ?_
          · intro l u W _ hu
            have hu : u = .bool ((gk && b1) || (!gk && b2)) := hu
            exact want_t hu
          intro hc l a W H
          have e74 : a.eval (.tmp 74) = .pointer (some ⟨g2, 1, none⟩) := by
            have e : a.eval (.tmp 74) = if ((gk && b1) || (!gk && b2)) = true then .pointer (some ⟨g2, 1, none⟩) else undef := H.facts 74 rfl
            rw [if_pos hc] at e
            exact e
          have c := cell_below H.s c1
          (simp only [execOp]; try simp only [Option.map]); (try simp only [List.map_toArray, List.map_cons, List.map_nil]); (simp only [e74]; go_simp)
        · refine asked_guard (c := ((gk && b1) || (!gk && b2))) (v := .bool (true)) rfl rfl rfl rfl (fun _ _ h => h) ?_ (fun _ _ _ => rfl) ?_
          · intro l u W _ hu
            have hu : u = .bool ((gk && b1) || (!gk && b2)) := hu
            exact want_t hu
          intro hc l a W H
          have e73 : a.eval (.tmp 73) = .int .i64 e.a := by
            have e : a.eval (.tmp 73) = if ((gk && b1) || (!gk && b2)) = true then .int .i64 e.a else undef := H.facts 73 rfl
            rw [if_pos hc] at e
            exact e
          have e75 : a.eval (.tmp 75) = .int .i64 e.a := by
            have e : a.eval (.tmp 75) = if ((gk && b1) || (!gk && b2)) = true then .int .i64 e.a else undef := H.facts 75 rfl
            rw [if_pos hc] at e
            exact e
          (simp only [execOp]; try simp only [Option.map]); (try simp only [List.map_toArray, List.map_cons, List.map_nil]); (simp only [e73, e75]; go_simp)
        · refine asked_pure rfl rfl (fun _ _ h => h) (fun _ _ _ => rfl) (fun l a W H => ?_)
          have e72 : a.eval (.tmp 72) = .bool ((gk && b1) || (!gk && b2)) := H.facts 72 rfl
          exact run_pick_and rfl e72 (fun hb => by
            have hc : ((gk && b1) || (!gk && b2)) = true := by simp_all
            have e76 : a.eval (.tmp 76) = .bool (true) := by
              have e : a.eval (.tmp 76) = if ((gk && b1) || (!gk && b2)) = true then .bool (true) else undef := H.facts 76 rfl
              rw [if_pos hc] at e
              exact e
            exact e76)
        · refine asked_pure rfl rfl (fun _ _ h => h) (fun _ _ _ => rfl) (fun l a W H => ?_)
          have e77 : a.eval (.tmp 77) = .bool (((gk && b1) || (!gk && b2)) && true) := H.facts 77 rfl
          exact run_move rfl e77
        · refine asked_guard (c := (((gk && b1) || (!gk && b2)) && true)) (v := .bool (takes e.k)) rfl rfl rfl rfl (fun _ _ h => h) ?_ (fun _ _ _ => rfl) ?_
          · intro l u W _ hu
            have hu : u = .bool (((gk && b1) || (!gk && b2)) && true) := hu
            exact want_t hu
          intro hc l a W H
          have e10 : a.eval (.tmp 10) = .bool (takes e.k) := H.base 10 rfl
          exact run_move rfl e10
        · refine asked_guard (c := (((gk && b1) || (!gk && b2)) && true)) (v := endV e) rfl rfl rfl rfl (fun _ _ h => h) ?_ (fun _ _ _ => rfl) ?_
          · intro l u W _ hu
            have hu : u = .bool (((gk && b1) || (!gk && b2)) && true) := hu
            exact want_t hu
          intro hc l a W H
          have e3 : a.eval (.tmp 3) = .pointer (some ⟨g2, 0, none⟩) := H.base 3 rfl
          exact run_load39 rfl e3 (cell_below H.s c0) (cell_below H.s c1) (cell_below H.s c2) (cell_below H.s c3)
        · refine asked_gcall (c := (((gk && b1) || (!gk && b2)) && true)) rfl rfl rfl Try.func21 (by kernel_rfl) (by kernel_rfl) rfl rfl ?_ ?_ ?_
          · intro l u W _ hu
            have hu : u = .bool (((gk && b1) || (!gk && b2)) && true) := hu
            exact want_t hu
          · intro hc l W hS
            first | exact absurd hc (by decide) | exact ⟨(if_neg (by rw [hc]; simp)).symm, hS⟩
          intro hc l a W H
          have e80 : a.eval (.tmp 80) = endV e := by
            have e : a.eval (.tmp 80) = if (((gk && b1) || (!gk && b2)) && true) = true then endV e else undef := H.facts 80 rfl
            rw [if_pos hc] at e
            exact e
          have ea : (#[.tmp 80] : Array Operand).map a.eval = #[endV e] := by
            simp only [List.map_toArray, List.map_cons, List.map_nil, e80]
          rw [ea]
          refine (takes_any e W).mono ?_
          rintro y w' ⟨rfl, hB⟩
          exact ⟨_, rfl, (if_pos hc).symm, bel_of H.s hB, fun _ _ _ h => Gu_below h hB⟩
        · refine asked_guard (c := (((gk && b1) || (!gk && b2)) && true)) (v := .bool (true)) rfl rfl rfl rfl (fun _ _ h => h) ?_ (fun _ _ _ => rfl) ?_
          · intro l u W _ hu
            have hu : u = .bool (((gk && b1) || (!gk && b2)) && true) := hu
            exact want_t hu
          intro hc l a W H
          have e79 : a.eval (.tmp 79) = .bool (takes e.k) := by
            have e : a.eval (.tmp 79) = if (((gk && b1) || (!gk && b2)) && true) = true then .bool (takes e.k) else undef := H.facts 79 rfl
            rw [if_pos hc] at e
            exact e
          have e81 : a.eval (.tmp 81) = .bool (takes e.k) := by
            have e : a.eval (.tmp 81) = if (((gk && b1) || (!gk && b2)) && true) = true then .bool (takes e.k) else undef := H.facts 81 rfl
            rw [if_pos hc] at e
            exact e
          (simp only [execOp]; try simp only [Option.map]); (try simp only [List.map_toArray, List.map_cons, List.map_nil]); (simp only [e79, e81]; go_simp)
        · refine asked_pure rfl rfl (fun _ _ h => h) (fun _ _ _ => rfl) (fun l a W H => ?_)
          have e78 : a.eval (.tmp 78) = .bool (((gk && b1) || (!gk && b2)) && true) := H.facts 78 rfl
          exact run_pick_and rfl e78 (fun hb => by
            have hc : (((gk && b1) || (!gk && b2)) && true) = true := by simp_all
            have e82 : a.eval (.tmp 82) = .bool (true) := by
              have e : a.eval (.tmp 82) = if (((gk && b1) || (!gk && b2)) && true) = true then .bool (true) else undef := H.facts 82 rfl
              rw [if_pos hc] at e
              exact e
            exact e82)
        · refine asked_pure rfl rfl (fun _ _ h => h) (fun _ _ _ => rfl) (fun l a W H => ?_)
          have e83 : a.eval (.tmp 83) = .bool ((((gk && b1) || (!gk && b2)) && true) && true) := H.facts 83 rfl
          exact run_assign rfl e83
      · intro l s W _ hS hs
        have h4 : s 4 = .bool ((((gk && b1) || (!gk && b2)) && true) && true) := hs 4 rfl
        rw [hX] at h4
        have h4 : s 4 = .bool true := h4
        have hBf := bel_of hBw7 hS
        clear hs hS
        simp [overlay, dstsOf]
        go_wp2
        go_ret
        rw [h4]
        exact ⟨rfl, hBf⟩

set_option maxHeartbeats 1000000 in
set_option maxRecDepth 100000 in
theorem uses_many (i : Ins) (ua : Option Addr) (ca : Nat) (e : En) (w : World) (hle : 1000 < i.args.length) :
    Calls Try.prog 4 #[insV i (.slice ua i.args.length ca), endV e] w fun r w' => r = .returned (.bool true) ∧ Below w.heap.size w w' := by
  have hBa := bel1 w (.cells #[.int .u8 i.k, .int .u8 i.op, .int .i64 i.d, .int .i64 i.a, .int .i64 i.b, .int .i64 i.n, .slice ua i.args.length ca] 46)
  have hBb := bel1 (w.alloc (.cells #[.int .u8 i.k, .int .u8 i.op, .int .i64 i.d, .int .i64 i.a, .int .i64 i.b, .int .i64 i.n, .slice ua i.args.length ca] 46)) (.cells #[.int .u8 e.k, .int .i64 e.a, .int .i64 e.to, .int .i64 e.el] 39)
  have HBb := hide hBb
  have hBab := bel_of hBa hBb
  have hlei : (1000 : Int) < (i.args.length : Int) := by omega
  unfold insV endV
  clear hBa hBb
  go_enter Try.func4, Try.ntmps4
  go_wp2_with fail
  refine (awake_any _).mono ?_
  rintro r w1 ⟨rfl, hB1⟩
  have hi1 := hide (boxI (bel_of HBb.out hB1))
  obtain ⟨a0, a1, a2, a3, a4, a5, a6⟩ := hi1.out.zero
  have hBw1 := bel_of hBab hB1
  clear hB1 hBab
  go_wp2_with fail
  go_ret
  exact ⟨rfl, hBw1⟩

theorem walk {H : Type} {enc : TypeId × Value → H} (W : World) (base : Nat) (v0 v1 : Value) {d0 d1 : DataW H} {p0 p1 : List MemPlace} (o0 : Value.okWide Try.prog W .any base 46 v0) (k0 : DataW.Trod enc Try.prog W 0 (fun _ => true) true 46 v0 d0 p0) (o1 : Value.okWide Try.prog W .any base 39 v1) (k1 : DataW.Trod enc Try.prog W 0 (fun _ => true) true 39 v1 d1 p1) :
    Calls Try.prog 4 #[v0, v1] W fun e w' => e = .returned (.bool true) ∧ Below W.heap.size W w' := by
  obtain ⟨i, u, rfl, hu⟩ := ins_in o0 k0
  obtain ⟨e, rfl⟩ := en_in o1 k1
  obtain ⟨ua, ca, rfl⟩ := hu.slice
  by_cases h : i.args.length ≤ 1000
  · exact uses_few i ua ca e W hu h
  · exact uses_many i ua ca e W (by omega)

set_option maxRecDepth 100000 in
theorem lifted (os : Os) (started : os.Started) (H : Type) (enc : TypeId × Value → H) :
    ReturnsInHanded {} Try.checked os 4 .any (Rows.irUsesSpec.pre6 enc Try.prog Try.f4 Rows.irUsesRow.domain false) (Rows.irUsesSpec.post enc Try.prog Try.f4 false true false false) := by
  refine returnsInHanded_of_change (C := Try.checked) own started (by kernel_rfl) Try.func4
    (ChangeSpec.witness6 (enc := enc) (C := Try.checked) false ⟨#[], #[.agg #[.int .u8 0, .int .u8 0, .int .i64 0, .int .i64 0, .int .i64 0, .int .i64 0, .slice none 0 0], .agg #[.int .u8 0, .int .i64 0, .int .i64 0, .int .i64 0]], []⟩ 8 (by kernel_rfl) (by kernel_rfl) (by kernel_rfl) (by kernel_rfl)) ?_
  intro W base args ds gs before hval0 hW hcnd _
  have hval : ∀ (j : Nat) t v, Try.f4.params[j]? = some t → args[j]? = some v → Value.okWide Try.prog W .any base t v := hval0
  have hW' := hW
  obtain ⟨p, q, hA0, hV, rfl, hfz, hnd⟩ := hW
  have hA : DataW.TrodAll enc Try.prog W 0 (fun _ => true) true Try.f4.params.toList args.toList ds p := hA0
  rw [Try.params4] at hA hval
  obtain ⟨v0, vs0, d0, ds0, p0, q0, hargs, rfl, rfl, h0, r0⟩ := trodAll_cons hA
  obtain ⟨v1, vs1, d1, ds1, p1, q1, rfl, rfl, rfl, h1, r1⟩ := trodAll_cons r0
  obtain ⟨rfl, rfl, rfl⟩ := trodAll_nil r1
  obtain rfl : args = #[v0, v1] := by cases args; simp_all
  obtain ⟨rfl, rfl⟩ := trodVars_none hV
  have lt0 : ∀ x ∈ p0, x.block < W.heap.size := by obtain ⟨m, hm⟩ := h0; exact DataW.trod_lt m _ _ _ hm
  have lt1 : ∀ x ∈ p1, x.block < W.heap.size := by obtain ⟨m, hm⟩ := h1; exact DataW.trod_lt m _ _ _ hm
  refine (walk W base v0 v1 (hval 0 46 v0 rfl rfl) h0 (hval 1 39 v1 rfl rfl) h1).mono fun e W' ⟨he, bel⟩ => ?_
  subst he
  exact ⟨_, rfl, _, _, _, [], _, [], hW', trodAll_mk1 (shut_bool Try.underlying4 _), (trodAll_cons_mk (Below.trod laidOut (by kernel_rfl) (of_decide_eq_true (by kernel_rfl)) h0 bel lt0) (trodAll_cons_mk (Below.trod laidOut (by kernel_rfl) (of_decide_eq_true (by kernel_rfl)) h1 bel lt1) trodAll_mk0)), rfl, bel.frame _, fun h => by cases h⟩

theorem over : Rows.irUsesRow.holds Try.pinned (OpenSpec.ofChange Rows.irUsesSpec) :=
  OpenClaim.holds_of_wide 4 Try.f4 rfl rfl rfl rfl rfl rfl rfl ⟨rfl, rfl, rfl, rfl, rfl⟩ rfl rfl rfl rfl rfl (by kernel_rfl) Try.func4 (by kernel_rfl)
    (of_decide_eq_true (by kernel_rfl)) (by unfold Func.isWrapper; first | (rw [if_pos (by decide +kernel)]; kernel_rfl) | (rw [if_neg (by decide +kernel)]; exact ⟨rfl, rfl⟩))
    (fun os started H enc _ => lifted os started H enc)

end Go.Proofs.Yteidejcaoboejaa.irUses
namespace Go.Proofs.Yteidejcaoboejaa
theorem irUses_holds : Rows.IrUsesSaid := irUses.over
#print axioms irUses_holds
end Go.Proofs.Yteidejcaoboejaa
