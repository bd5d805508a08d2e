/- IrCopied: P4.1, R6: a block's copy is the same, and its own. -/
import Derived.Test.YteidejcaoboejaaRows
import Derived.WalkKit
import Derived.ProofKit
import Derived.OpenShut
import Derived.ShutString
import Derived.ChangeOld
import Derived.Below
import Derived.Test.YteidejcaoboejaaFault
import Derived.Test.YteidejcaoboejaaSameF
import Derived.Test.YteidejcaoboejaaCopied
namespace Go.Proofs.Yteidejcaoboejaa.irCopied
open Go.ChangeShapes Go.WideShapes Go.ChangeAt Go.RowKit Ir
open Go.ChangeMaps (open_string shut_string)
set_option linter.unusedVariables false

theorem own : ownKnob Try.prog.godebug = none := by kernel_rfl
theorem laidOut : laidOutB Try.prog = true := by kernel_rfl

theorem getD_memB6 {l : List Blk} (m : Nat) (h : m < l.length) : l.getD m Blk.zero ∈ l := by simp [h]
theorem blk_one (w : World) (u : Value) (is : List Ins) (e : En) (h : InssV w u is) : BlksV (w.alloc (.cells #[u, .int .u8 e.k, .int .i64 e.a, .int .i64 e.to, .int .i64 e.el] 41)) (.slice (some ⟨w.heap.size, 0, none⟩) 1 1) [⟨is, e⟩] := by
  refine ⟨_, 1, rfl, by simp, by simp [maxLen], by simp, fun _ => ⟨_, _, rfl, fun j hj => ?_⟩⟩
  match j, hj with
  | 0, _ => exact ⟨u, boxB (e := e) (Below.refl _ _), h.below (bel1 _ _)⟩
theorem blk_own {B : Nat} (w : World) (u : Value) (is : List Ins) (e : En) (h : InssO B w u is) (hB : B ≤ w.heap.size) : BlksO B (w.alloc (.cells #[u, .int .u8 e.k, .int .i64 e.a, .int .i64 e.to, .int .i64 e.el] 41)) (.slice (some ⟨w.heap.size, 0, none⟩) 1 1) [⟨is, e⟩] := by
  refine ⟨[(⟨is, e⟩, u)], rfl, ⟨rfl, .inr ⟨w.heap.size, 1, _, rfl, hB, heap_alloc_new w _, Nat.le_refl _, by simp [maxLen], rfl, rfl⟩⟩, fun p hp => ?_⟩
  simp at hp
  subst hp
  exact h.keeps (Keeps.below (bel1 _ _))
/-- What is known of each temporary of 'SameFuncs(f, Made(s))'. -/
def G6c (g1 g2 : Nat) (M : Fun) (um us : Value) (sa sb sc : Int) : Tmp → Value → World → Prop
  | 42, xx, _ => xx = .agg #[.int .i64 M.p, .int .i64 M.v, um]
  | 43, xx, _ => xx = .agg #[.int .u8 sa, .int .u8 sb, .int .u8 sc, us]
  | 44, xx, ww => (∃ u, xx = .agg #[.int .i64 M.p, .int .i64 M.v, u] ∧ BlksV ww u M.bs)
  | 45, xx, _ => xx = .bool (true)
  | 10, xx, _ => xx = .bool (true)
  | _, _, _ => True

theorem G6c_keeps {g1 g2 : Nat} {M : Fun} {um us : Value} {sa sb sc : Int} {t : Tmp} {y : Value} {W W' : World} (h : G6c g1 g2 M um us sa sb sc t y W) (hB : Below W.heap.size W W') : G6c g1 g2 M um us sa sb sc t y W' := by
  unfold G6c at h ⊢
  split
  all_goals
    first
      | exact h
      | (obtain ⟨u, e1, e2⟩ := h; exact ⟨u, e1, e2.below hB⟩)
      | trivial

set_option maxHeartbeats 8000000 in
set_option maxRecDepth 100000 in
theorem copied_walk (sp : Value) (sa sb sc : Int) (sbs : List Int) (wh k f n : Int) (w : World) (hs : SpecV w sp sa sb sc sbs) (hw : 0 ≤ wh ∧ wh < 256) (hk : 0 ≤ k ∧ k < 256) (hf : 0 ≤ f ∧ f < 256) :
    Calls Try.prog 6 #[sp, .int .u8 wh, .int .u8 k, .int .u8 f, .int .i64 n] w fun r w' => r = .returned (.bool true) ∧ Below w.heap.size w w' := by
  have hs' := hs
  obtain ⟨us, rfl, hs1, hs2, hs3, hs4⟩ := hs'
  obtain ⟨ax, cx, rfl⟩ := hs4.slice
  have hBa := bel1 w (.cells #[.int .u8 sa, .int .u8 sb, .int .u8 sc, .slice ax sbs.length cx] 27)
  have HBa := hide hBa
  have HS0 := hide (hs.below hBa)
  have hw0 := hw.1
  have hw1 := hw.2
  clear hs hBa hs1 hs2 hs3 hs4
  go_enter Try.func6, Try.ntmps6
  go_wp2_with fail
  refine (awake_any _).mono ?_
  rintro r w1 ⟨rfl, hB1⟩
  obtain ⟨s0, s1, s2, s3⟩ := boxS hB1
  have HS1 := hide (HS0.out.below hB1)
  have hBw1 := hide (bel_of HBa.out hB1)
  have hMd0 : Hid (∀ W, Below w1.heap.size w1 W → Calls Try.prog 11 #[.agg #[.int .u8 sa, .int .u8 sb, .int .u8 sc, .slice ax sbs.length cx]] W (MadePost W (made sa sb sc sbs))) := fun W hW => made_any _ sa sb sc sbs W (HS1.out.below hW)
  have hright := hide (made_right sa sb sc sbs)
  have hlen := made_len sa sb sc sbs
  generalize made sa sb sc sbs = M at hMd0 hright hlen
  have hl0 : 0 < M.bs.length ∧ M.bs.length ≤ 7 := by omega
  have hsmall := hide (right_small hright.out)
  have S0 := hide s0
  have S1 := hide s1
  have S2 := hide s2
  have S3 := hide s3
  have hMd := hide (hMd0.out w1 (Below.refl _ _))
  clear hB1 HBa HS0 hlen hright
  go_wp2_with fail
  refine hMd.out.mono ?_
  rintro r w2 ⟨um, rfl, hO2, hB2⟩
  obtain ⟨ua, uc, rfl⟩ := hO2.v.slice
  have hBx := bel1 w2 (.cells #[.int .i64 M.p, .int .i64 M.v, .slice ua M.bs.length uc] 24)
  have hB13 := bel_of hB2 hBx
  have HB13 := hide hB13
  obtain ⟨q, hq⟩ : ∃ q : Nat, (q : Int) = wh % (M.bs.length : Int) := ⟨(wh % (M.bs.length : Int)).toNat, by
    have := Int.emod_nonneg wh (b := (M.bs.length : Int)) (by omega)
    omega⟩
  have hqlt : q < M.bs.length := by
    have := Int.emod_lt_of_pos wh (b := (M.bs.length : Int)) (by omega)
    omega
  have hqt : wh.tmod (M.bs.length : Int) = (q : Int) := by rw [Int.tmod_eq_emod_of_nonneg hw0, hq]
  have hqlt' : (q : Int) < (M.bs.length : Int) := by omega
  have hV3 := hO2.v.below hBx
  obtain ⟨m0, m1, m2⟩ := boxF (Below.refl _ (w2.alloc (.cells #[.int .i64 M.p, .int .i64 M.v, .slice ua M.bs.length uc] 24)))
  have HM3 := hide hV3
  obtain ⟨ga, oa, rfl, ui, ⟨c0, c1, c2, c3, c4⟩, hui⟩ := SlV.at hV3 q hqlt
  have hsmq := hide (hsmall.out _ (getD_memB6 q hqlt))
  generalize M.bs.getD q Blk.zero = bq at *
  obtain ⟨is, e⟩ := bq
  simp only at c1 c2 c3 c4 hui hsmq
  obtain ⟨ai, ci, rfl⟩ := hui.slice
  have HI3 := hide hui
  have hne : ((M.bs.length : Nat) : Int) ≠ 0 := by omega
  have hne' : (((M.bs.length : Nat) : Int) == 0) = false := by rw [beq_eq_false_iff_ne]; exact hne
  have hl7 : (M.bs.length : Int) ≤ 7 := by omega
  have hl1 : (0 : Int) < (M.bs.length : Int) := by omega
  have hBw3 := hide (bel_of hBw1.out hB13)
  have HM0 := hide m0
  have HM1 := hide m1
  have HM2 := hide m2
  clear hMd hO2 hB2 hB13 hV3 hui hq hBx s0 s1 s2 s3 m0 m1
  go_wp2_with fail
  generalize (w2.alloc (.cells #[.int .i64 M.p, .int .i64 M.v, .slice (some ⟨ga, oa, none⟩) M.bs.length uc] 24)) = w3 at *
  generalize w2.heap.size = g2 at *
  have m2a := fun o => cell_below (bel1 _ o) m2
  have c0a := fun o => cell_below (bel1 _ o) c0
  have c1a := fun o => cell_below (bel1 _ o) c1
  have c2a := fun o => cell_below (bel1 _ o) c2
  have c3a := fun o => cell_below (bel1 _ o) c3
  have c4a := fun o => cell_below (bel1 _ o) c4
  go_region
  clear m2 m2a c0 c1 c2 c3 c4 c0a c1a c2a c3a c4a
  have hB34 : Below w3.heap.size w3 (w3.alloc (.cells #[.slice ai is.length ci, .int .u8 e.k, .int .i64 e.a, .int .i64 e.to, .int .i64 e.el] 41)).drew := (bel1 w3 (.cells #[.slice ai is.length ci, .int .u8 e.k, .int .i64 e.a, .int .i64 e.to, .int .i64 e.el] 41)).drew
  obtain ⟨b0, b1, b2, b3, b4⟩ := (boxB (e := e) (u := .slice ai is.length ci) (w := w3) (Below.refl _ (w3.alloc (.cells #[.slice ai is.length ci, .int .u8 e.k, .int .i64 e.a, .int .i64 e.to, .int .i64 e.el] 41)))).zero
  have HB34 := hide hB34
  have hCp := hide (copied_any is e _ _ (HI3.out.below hB34) (by have := hsmq.out.1; omega) (fun i hi => by have := hsmq.out.2 i hi; omega))
  unfold blkV at hCp
  have BX := hide (boxB (e := e) (u := .slice ai is.length ci) (w := w3) (Below.refl _ (w3.alloc (.cells #[.slice ai is.length ci, .int .u8 e.k, .int .i64 e.a, .int .i64 e.to, .int .i64 e.el] 41))).drew)
  clear hB34
  go_wp2_with fail
  generalize (w3.alloc (.cells #[.slice ai is.length ci, .int .u8 e.k, .int .i64 e.a, .int .i64 e.to, .int .i64 e.el] 41)).drew = w4 at *
  refine hCp.out.mono ?_
  rintro r w5 ⟨uq, rfl, hO5, hB5⟩
  obtain ⟨bi, di, rfl⟩ := hO5.v.slice
  have hSz : w4.heap.size ≤ w5.heap.size := hB5.size
  have BX5 := hide (BX.out.below hB5)
  obtain ⟨b0, b1, b2, b3, b4⟩ := BX5.out.zero
  have hI5 := hide (HI3.out.below (bel_of HB34.out hB5))
  have hv1 : BlksV (((w5.alloc (.cells #[.slice bi is.length di, .int .u8 e.k, .int .i64 e.a, .int .i64 e.to, .int .i64 e.el] 41)).alloc (.cells #[.slice ai is.length ci, .int .u8 e.k, .int .i64 e.a, .int .i64 e.to, .int .i64 e.el] 41)).alloc (.cells #[.slice bi is.length di, .int .u8 e.k, .int .i64 e.a, .int .i64 e.to, .int .i64 e.el] 41)) (.slice (some ⟨w5.heap.size + 1, 0, none⟩) 1 1) [⟨is, e⟩] := by
    have h := (blk_one (w5.alloc (.cells #[.slice bi is.length di, .int .u8 e.k, .int .i64 e.a, .int .i64 e.to, .int .i64 e.el] 41)) (.slice ai is.length ci) is e (hI5.out.below (bel1 _ _))).below (bel1 _ (.cells #[.slice bi is.length di, .int .u8 e.k, .int .i64 e.a, .int .i64 e.to, .int .i64 e.el] 41))
    simp only [World.size_alloc] at h
    exact h
  have hv2 : BlksV (((w5.alloc (.cells #[.slice bi is.length di, .int .u8 e.k, .int .i64 e.a, .int .i64 e.to, .int .i64 e.el] 41)).alloc (.cells #[.slice ai is.length ci, .int .u8 e.k, .int .i64 e.a, .int .i64 e.to, .int .i64 e.el] 41)).alloc (.cells #[.slice bi is.length di, .int .u8 e.k, .int .i64 e.a, .int .i64 e.to, .int .i64 e.el] 41)) (.slice (some ⟨w5.heap.size + 1 + 1, 0, none⟩) 1 1) [⟨is, e⟩] := by
    have h := blk_one ((w5.alloc (.cells #[.slice bi is.length di, .int .u8 e.k, .int .i64 e.a, .int .i64 e.to, .int .i64 e.el] 41)).alloc (.cells #[.slice ai is.length ci, .int .u8 e.k, .int .i64 e.a, .int .i64 e.to, .int .i64 e.el] 41)) (.slice bi is.length di) is e (hO5.v.below (bel2 _ _ _))
    simp only [World.size_alloc] at h
    exact h
  have HV1 := hide hv1
  have HV2 := hide hv2
  have HO5 := hide hO5
  have HB5 := hide hB5
  have b0a := fun o => cell_below (bel1 w5 o) b0
  have b1a := fun o => cell_below (bel1 w5 o) b1
  have b2a := fun o => cell_below (bel1 w5 o) b2
  have b3a := fun o => cell_below (bel1 w5 o) b3
  have b4a := fun o => cell_below (bel1 w5 o) b4
  clear hCp hO5 hB5 BX hv1 hv2
  go_wp2_with fail
  refine (sameBlocks_any _ _ [⟨is, e⟩] _ HV1.out HV2.out (fun b hb i hi => by simp at hb; subst hb; have := hsmq.out.2 i hi; omega)).mono ?_
  rintro r w8 ⟨rfl, hB8⟩
  clear b0 b1 b2 b3 b4 b0a b1a b2a b3a b4a
  have hBc8 := bel_of (bel2 (w5.alloc (.cells #[.slice bi is.length di, .int .u8 e.k, .int .i64 e.a, .int .i64 e.to, .int .i64 e.el] 41)) (.cells #[.slice ai is.length ci, .int .u8 e.k, .int .i64 e.a, .int .i64 e.to, .int .i64 e.el] 41) (.cells #[.slice bi is.length di, .int .u8 e.k, .int .i64 e.a, .int .i64 e.to, .int .i64 e.el] 41)) hB8
  obtain ⟨b0, b1, b2, b3, b4⟩ := (boxB (e := e) (u := .slice bi is.length di) (w := w5) hBc8).zero
  have hB58 := bel_of (bel1 w5 (.cells #[.slice bi is.length di, .int .u8 e.k, .int .i64 e.a, .int .i64 e.to, .int .i64 e.el] 41)) hBc8
  have hO8 := HO5.out.keeps (Keeps.below hB58)
  have hB48 := bel_of HB5.out hB58
  have hBx9 := bel1 w8 (.cells #[.slice bi is.length di, .int .u8 e.k, .int .i64 e.a, .int .i64 e.to, .int .i64 e.el] 41)
  have hT := hide (turn_any w4.heap.size _ [⟨is, e⟩] 0 k f n _ (blk_own w8 (.slice bi is.length di) is e hO8 hB48.size) (Nat.le_trans hB48.size hBx9.size) (by omega) (by omega) hk.1 hk.2 hf.1 (fun x hx => by simp at hx; subst hx; exact hsmq.out))
  have HB49 := hide (bel_of hB48 hBx9)
  clear hB8 hBc8 hB58 hO8 hB48 hBx9 HV1 HV2 HO5 HB5 BX5
  go_wp2_with fail
  refine hT.out.mono ?_
  rintro r w10 ⟨rfl, _, hB10, _⟩
  have hB310 := bel_of HB34.out (HB49.out.trans hB10)
  have hB110 := bel_of HB13.out hB310
  have m0 := cell_below hB310 HM0.out
  have m1 := cell_below hB310 HM1.out
  have m2 := cell_below hB310 HM2.out
  have s0 := cell_below hB110 S0.out
  have s1 := cell_below hB110 S1.out
  have s2 := cell_below hB110 S2.out
  have s3 := cell_below hB110 S3.out
  have hM := HM3.out.below hB310
  have hMd : ∀ W, Below w10.heap.size w10 W → Calls Try.prog 11 #[.agg #[.int .u8 sa, .int .u8 sb, .int .u8 sc, .slice ax sbs.length cx]] W (MadePost W M) := fun W hW => hMd0.out W (bel_of hB110 hW)
  have hsm : ∀ b ∈ M.bs, ∀ i ∈ b.ins, i.args.length ≤ 1000000000 := fun b hb i hi => by have := (hsmall.out b hb).2 i hi; omega
  have HBF := hide (bel_of hBw3.out hB310)
  clear hT hB10 hB310 hB110 b0 b1 b2 b3 b4
  go_wp2_with fail
  generalize hume : Value.slice (some ⟨ga, oa, none⟩) M.bs.length uc = um at hM m2
  have hus : ∃ xa xn xc, Value.slice ax sbs.length cx = .slice xa xn xc := ⟨_, _, _, rfl⟩
  generalize Value.slice ax sbs.length cx = us at hMd s3 hus
  generalize w.heap.size = g1 at s0 s1 s2 s3 ⊢
  refine wp_region_each (by kernel_rfl) (fun t y W => G6c g1 g2 M um us sa sb sc t y W) (fun _ W => Below w10.heap.size w10 W) (by kernel_rfl) (Below.refl _ _).drew ?_ ?_
  · refine And.intro ?_ (And.intro ?_ (And.intro ?_ (And.intro ?_ (And.intro ?_ trivial))))
    · refine asked_pure rfl rfl (fun _ _ h => h) (fun _ _ _ => rfl) (fun l a W H => ?_)
      have e11 : a.eval (.tmp 11) = .pointer (some ⟨g2, 0, none⟩) := H.base 11 rfl
      exact run_load24 rfl e11 (cell_below H.s m0) (cell_below H.s m1) (cell_below H.s m2)
    · refine asked_pure rfl rfl (fun _ _ h => h) (fun _ _ _ => rfl) (fun l a W H => ?_)
      have e5 : a.eval (.tmp 5) = .pointer (some ⟨g1, 0, none⟩) := H.base 5 rfl
      have s0 := cell_below H.s s0
      have s1 := cell_below H.s s1
      have s2 := cell_below H.s s2
      have s3 := cell_below H.s s3
      obtain ⟨xa, xn, xc, rfl⟩ := hus
      (simp only [execOp]; try simp only [Option.map]); (try simp only [List.map_toArray, List.map_cons, List.map_nil]); (simp only [e5]; go_simp)
    · refine asked_call rfl Try.func11 (by kernel_rfl) (by kernel_rfl) rfl rfl (fun l a W H => ?_)
      have e43 : a.eval (.tmp 43) = .agg #[.int .u8 sa, .int .u8 sb, .int .u8 sc, us] := H.facts 43 rfl
      have hE : (#[Operand.tmp 43] : Array Operand).map a.eval = #[.agg #[.int .u8 sa, .int .u8 sb, .int .u8 sc, us]] := by simp [e43]
      rw [hE]
      refine (hMd W H.s).mono ?_
      rintro y w' ⟨u, rfl, hO, hB⟩
      exact ⟨_, rfl, ⟨u, rfl, hO.v⟩, bel_of H.s hB, fun _ _ _ h => G6c_keeps h hB⟩
    · refine asked_call rfl Try.func26 (by kernel_rfl) (by kernel_rfl) rfl rfl (fun l a W H => ?_)
      have e42 : a.eval (.tmp 42) = .agg #[.int .i64 M.p, .int .i64 M.v, um] := H.facts 42 rfl
      obtain ⟨u, e44, hu⟩ : ∃ u, a.eval (.tmp 44) = .agg #[.int .i64 M.p, .int .i64 M.v, u] ∧ BlksV W u M.bs := H.facts 44 rfl
      have hE : (#[Operand.tmp 42, Operand.tmp 44] : Array Operand).map a.eval = #[.agg #[.int .i64 M.p, .int .i64 M.v, um], .agg #[.int .i64 M.p, .int .i64 M.v, u]] := by simp [e42, e44]
      rw [hE]
      refine (sameFuncs_any M um u W (hM.below H.s) hu hsm).mono ?_
      rintro y w' ⟨rfl, hB⟩
      exact ⟨_, rfl, rfl, bel_of H.s hB, fun _ _ _ h => G6c_keeps h hB⟩
    · refine asked_pure rfl rfl (fun _ _ h => h) (fun _ _ _ => rfl) (fun l a W H => ?_)
      have e45 : a.eval (.tmp 45) = .bool (true) := H.facts 45 rfl
      exact run_assign rfl e45
  · intro l s W _ hS hs
    have h10 : s 10 = .bool true := hs 10 rfl
    have hBf := bel_of HBF.out hS
    clear hs hS
    simp [overlay, dstsOf]
    go_wp2
    go_ret
    rw [h10]
    exact ⟨rfl, hBf⟩

theorem walk {H : Type} {enc : TypeId × Value → H} (W : World) (base : Nat) (v0 v1 v2 v3 v4 : Value) {d0 d1 d2 d3 d4 : DataW H} {p0 p1 p2 p3 p4 : List MemPlace} (o0 : Value.okWide Try.prog W .any base 27 v0) (k0 : DataW.Trod enc Try.prog W 0 (fun _ => true) true 27 v0 d0 p0) (o1 : Value.okWide Try.prog W .any base 5 v1) (k1 : DataW.Trod enc Try.prog W 0 (fun _ => true) true 5 v1 d1 p1) (o2 : Value.okWide Try.prog W .any base 5 v2) (k2 : DataW.Trod enc Try.prog W 0 (fun _ => true) true 5 v2 d2 p2) (o3 : Value.okWide Try.prog W .any base 5 v3) (k3 : DataW.Trod enc Try.prog W 0 (fun _ => true) true 5 v3 d3 p3) (o4 : Value.okWide Try.prog W .any base 3 v4) (k4 : DataW.Trod enc Try.prog W 0 (fun _ => true) true 3 v4 d4 p4) :
    Calls Try.prog 6 #[v0, v1, v2, v3, v4] W fun e w' => e = .returned (.bool true) ∧ Below W.heap.size W w' := by
  obtain ⟨sa, sb, sc, sbs, hs⟩ := spec_in o0 k0
  obtain ⟨wh, rfl, hw⟩ := byte_in o1 k1
  obtain ⟨k, rfl, hk⟩ := byte_in o2 k2
  obtain ⟨f, rfl, hf⟩ := byte_in o3 k3
  obtain ⟨n, rfl, _⟩ := i64_in o4 k4
  exact copied_walk v0 sa sb sc sbs wh k f n W hs hw hk hf

set_option maxRecDepth 100000 in
theorem lifted (os : Os) (started : os.Started) (H : Type) (enc : TypeId × Value → H) :
    ReturnsInHanded {} Try.checked os 6 .any (Rows.irCopiedSpec.pre6 enc Try.prog Try.f6 Rows.irCopiedRow.domain false) (Rows.irCopiedSpec.post enc Try.prog Try.f6 false true false false) := by
  refine returnsInHanded_of_change (C := Try.checked) own started (by kernel_rfl) Try.func6
    (ChangeSpec.witness6 (enc := enc) (C := Try.checked) false ⟨#[], #[.agg #[.int .u8 0, .int .u8 0, .int .u8 0, .slice none 0 0], .int .u8 0, .int .u8 0, .int .u8 0, .int .i64 0], []⟩ 8 (by kernel_rfl) (by kernel_rfl) (by kernel_rfl) (by kernel_rfl)) ?_
  intro W base args ds gs before hval0 hW hcnd _
  have hval : ∀ (j : Nat) t v, Try.f6.params[j]? = some t → args[j]? = some v → Value.okWide Try.prog W .any base t v := hval0
  have hW' := hW
  obtain ⟨p, q, hA0, hV, rfl, hfz, hnd⟩ := hW
  have hA : DataW.TrodAll enc Try.prog W 0 (fun _ => true) true Try.f6.params.toList args.toList ds p := hA0
  rw [Try.params6] at hA hval
  obtain ⟨v0, vs0, d0, ds0, p0, q0, hargs, rfl, rfl, h0, r0⟩ := trodAll_cons hA
  obtain ⟨v1, vs1, d1, ds1, p1, q1, rfl, rfl, rfl, h1, r1⟩ := trodAll_cons r0
  obtain ⟨v2, vs2, d2, ds2, p2, q2, rfl, rfl, rfl, h2, r2⟩ := trodAll_cons r1
  obtain ⟨v3, vs3, d3, ds3, p3, q3, rfl, rfl, rfl, h3, r3⟩ := trodAll_cons r2
  obtain ⟨v4, vs4, d4, ds4, p4, q4, rfl, rfl, rfl, h4, r4⟩ := trodAll_cons r3
  obtain ⟨rfl, rfl, rfl⟩ := trodAll_nil r4
  obtain rfl : args = #[v0, v1, v2, v3, v4] := by cases args; simp_all
  obtain ⟨rfl, rfl⟩ := trodVars_none hV
  have lt0 : ∀ x ∈ p0, x.block < W.heap.size := by obtain ⟨m, hm⟩ := h0; exact DataW.trod_lt m _ _ _ hm
  have lt1 : ∀ x ∈ p1, x.block < W.heap.size := by obtain ⟨m, hm⟩ := h1; exact DataW.trod_lt m _ _ _ hm
  have lt2 : ∀ x ∈ p2, x.block < W.heap.size := by obtain ⟨m, hm⟩ := h2; exact DataW.trod_lt m _ _ _ hm
  have lt3 : ∀ x ∈ p3, x.block < W.heap.size := by obtain ⟨m, hm⟩ := h3; exact DataW.trod_lt m _ _ _ hm
  have lt4 : ∀ x ∈ p4, x.block < W.heap.size := by obtain ⟨m, hm⟩ := h4; exact DataW.trod_lt m _ _ _ hm
  refine (walk W base v0 v1 v2 v3 v4 (hval 0 27 v0 rfl rfl) h0 (hval 1 5 v1 rfl rfl) h1 (hval 2 5 v2 rfl rfl) h2 (hval 3 5 v3 rfl rfl) h3 (hval 4 3 v4 rfl rfl) h4).mono fun e W' ⟨he, bel⟩ => ?_
  subst he
  exact ⟨_, rfl, _, _, _, [], _, [], hW', trodAll_mk1 (shut_bool Try.underlying4 _), (trodAll_cons_mk (Below.trod laidOut (by kernel_rfl) (of_decide_eq_true (by kernel_rfl)) h0 bel lt0) (trodAll_cons_mk (Below.trod laidOut (by kernel_rfl) (of_decide_eq_true (by kernel_rfl)) h1 bel lt1) (trodAll_cons_mk (Below.trod laidOut (by kernel_rfl) (of_decide_eq_true (by kernel_rfl)) h2 bel lt2) (trodAll_cons_mk (Below.trod laidOut (by kernel_rfl) (of_decide_eq_true (by kernel_rfl)) h3 bel lt3) (trodAll_cons_mk (Below.trod laidOut (by kernel_rfl) (of_decide_eq_true (by kernel_rfl)) h4 bel lt4) trodAll_mk0))))), rfl, bel.frame _, fun h => by cases h⟩

theorem over : Rows.irCopiedRow.holds Try.pinned (OpenSpec.ofChange Rows.irCopiedSpec) :=
  OpenClaim.holds_of_wide 6 Try.f6 rfl rfl rfl rfl rfl rfl rfl ⟨rfl, rfl, rfl, rfl, rfl⟩ rfl rfl rfl rfl rfl (by kernel_rfl) Try.func6 (by kernel_rfl)
    (of_decide_eq_true (by kernel_rfl)) (by unfold Func.isWrapper; first | (rw [if_pos (by decide +kernel)]; kernel_rfl) | (rw [if_neg (by decide +kernel)]; exact ⟨rfl, rfl⟩))
    (fun os started H enc _ => lifted os started H enc)

end Go.Proofs.Yteidejcaoboejaa.irCopied
namespace Go.Proofs.Yteidejcaoboejaa
theorem irCopied_holds : Rows.IrCopiedSaid := irCopied.over
#print axioms irCopied_holds
end Go.Proofs.Yteidejcaoboejaa
