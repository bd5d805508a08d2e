/- FrameTakes: P3.2: any bytes; and such as begin like a frame. -/
import Derived.Test.YtlonniegaaocoaaRows
import Derived.WalkKit
import Derived.ProofKit
import Derived.OpenShut
import Derived.ShutString
import Derived.ChangeOld
import Derived.Below
import Derived.Test.YtlonniegaaocoaaAwake
import Derived.Test.YtlonniegaaocoaaRefTake
namespace Go.Proofs.Ytlonniegaaocoaa.frameTakes
open Go.ChangeShapes Go.WideShapes Go.ChangeAt Go.RowKit
open Go.ChangeMaps (open_string shut_string)
set_option linter.unusedVariables false

theorem own : ownKnob Try.prog.godebug = none := by kernel_rfl
theorem laidOut : laidOutB Try.prog = true := by kernel_rfl

theorem parts_below {w w' : World} {v : Value} {ps : List (List Int)} (h : Parts w v ps) (hB : Below w.heap.size w w') : Parts w' v ps := by
  obtain ⟨ao, cap, e, hl, hp⟩ := h
  refine ⟨ao, cap, e, hl, fun h0 => ?_⟩
  obtain ⟨b, off, e2, hc⟩ := hp h0
  refine ⟨b, off, e2, fun j hj => ?_⟩
  obtain ⟨u, hu, hb⟩ := hc j hj
  exact ⟨u, (hB.cell (p := ⟨b, off + j, none⟩) (World.block_lt_of_cell? w _ hu)).trans hu, hb.below hB⟩
theorem parts_at {w : World} {b off n cap : Nat} {ps : List (List Int)} (h : Parts w (.slice (some ⟨b, off, none⟩) n cap) ps) (j : Nat) (hj : j < ps.length) : ∃ u, w.cell? ⟨b, off + j, none⟩ = some u ∧ Byt w u (ps.getD j []) := by
  obtain ⟨ao, cap, e, hl, hp⟩ := h
  obtain ⟨b', off', e2, hc⟩ := hp (by omega)
  simp only [Value.slice.injEq] at e
  rw [e2] at e
  simp only [Option.some.injEq, Addr.mk.injEq, and_true] at e
  obtain ⟨⟨rfl, rfl⟩, _⟩ := e
  exact hc j hj

set_option maxHeartbeats 1000000 in
set_option maxRecDepth 100000 in
theorem frameTakes_few (k : Int) (ao : Option Addr) (cap : Nat) (xs : List Int) (w : World) (hk0 : 0 ≤ k) (hk1 : k < 256) (hv : Byt w (.slice ao xs.length cap) xs) (hx : xs.length ≤ 5000) :
    Calls Try.prog 4 #[.slice ao xs.length cap, .int .u8 k] w fun e w' => e = .returned (.bool true) ∧ Below w.heap.size w w' := by
  obtain ⟨i0, hi, hz0, hz1, hz2⟩ := info_parts info5
  have HV := hide hv
  have hbx : Hid (Frm.Bts xs) := hv.bytes
  clear hv
  go_enter Try.func4, Try.ntmps4
  go_wp2_with fail
  refine (awake_any _).mono ?_
  rintro e w1 ⟨rfl, hB1⟩
  have hE := owns_two w1 111 k w1.heap.size (Nat.le_refl _)
  have hBE := (Below.refl w1.heap.size w1).alloc (Nat.le_refl _) (.cells #[.int .u8 111, .int .u8 k] 5)
  have hv1 := HV.out.below hB1
  have hv2 := hv1.below hBE
  go_wp2_with (at_builtin; go_must (refine wpList_append_byt _ rfl (.tmp 22) (.tmp 23) 22 rfl w1.heap.size i0 Try.underlying22 hi hz0 hz1 hz2 _ _ _ rfl hE _ xs rfl hv2 (by omega) (by simp) ?_))
  intro v2 w2 hO2 hg2
  have hB2 : Below w1.heap.size w1 w2 := hBE.grown hg2 (by simp) (fun k hk => (hE.lt k hk).1)
  have hb2 : Byt w2 v2 (111 :: k :: xs) := Byt.of_owns (n := 2 + xs.length) (by simpa using hO2) (Frm.Bts.cons (by omega) (by omega) (Frm.Bts.cons hk0 hk1 hbx.out))
  have hv3 := hv1.below hB2
  have hB2' := bel_of hB1 hB2
  clear hE hBE hg2 hO2 hv2 hv1 hB2 hB1
  go_wp2_with fail
  refine (refLay_own k _ xs w2 hk0 hk1 hv3 (by omega)).mono ?_
  rintro e w3 ⟨v3, rfl, hO3, hB3⟩
  have hb3 := Byt.of_owns hO3 (Frm.lay_bts hk0 hk1 hbx.out)
  have hP := Parts.three (hv3.below hB3) (hb2.below hB3) hb3
  have hll := Frm.lay_more (k := k) (xs := xs) (by omega)
  have hB4 := (bel_of hB2' hB3).alloc (by have := (bel_of hB2' hB3).size; exact this) (.cells #[.slice ao xs.length cap, v2, v3] 22)
  obtain ⟨a2, c2, rfl⟩ := hb2.slice
  obtain ⟨a3, c3, rfl⟩ := hb3.slice
  obtain ⟨ps, hps⟩ : ∃ ps, ps = [xs, 111 :: k :: xs, Frm.lay k xs] := ⟨_, rfl⟩
  rw [← hps] at hP
  have hpl : Hid (ps.length = 3) := by rw [hps]; rfl
  have hpsl : Hid (∀ j, (ps.getD j []).length ≤ 1000000000) := by
    intro j
    rw [hps]
    match j with
    | 0 => simp; omega
    | 1 => simp; omega
    | 2 => simp; omega
    | j + 3 => simp
  have HP := hide hP
  have hB4' := hide hB4
  clear hP hps hb2 hb3 hv3 hO3 hB3 hB2' hB4 HV
  go_wp2_with fail
  go_loopw [6, 7, 8, 9, 10, 11, 12, 13, 14, 30] (fun _ _ _ _ _ _ _ _ _ iv wr => ∃ i : Nat, i ≤ 3 ∧ iv = .int .i64 i ∧ Parts wr (.slice (some ⟨w3.heap.size, 0, none⟩) 3 3) ps ∧ Below w.heap.size w wr) (fun _ _ _ _ _ _ _ _ _ iv _ => 3 - (intOf iv).toNat)
  case atStart => exact ⟨0, by omega, rfl, HP.out, hB4'.out⟩
  case round =>
    obtain ⟨i, hi3, rfl, hPr, hBr⟩ := hrel
    by_cases hlt : i < 3
    · obtain ⟨u, hcu, hbu⟩ := parts_at hPr i (by rw [hpl.out]; exact hlt)
      rw [Nat.zero_add] at hcu
      obtain ⟨ys, hys⟩ : ∃ ys, ys = ps.getD i [] := ⟨_, rfl⟩
      have hyl : ys.length ≤ 1000000000 := by rw [hys]; exact hpsl.out i
      rw [← hys] at hbu
      have hT := hide (take_any u ys wr hbu hyl)
      obtain ⟨au, cu, rfl⟩ := hbu.slice
      have HBU := hide hbu
      have HPR := hide hPr
      clear hys hbu hPr
      go_wp2_with fail
      refine hT.out.mono ?_
      rintro e w4 ⟨v4, rfl, hb4, hB4⟩
      have hT2 := hide (refTake_any _ ys w4 (HBU.out.below hB4) hyl)
      have HB4 := hide hb4
      clear hT hb4 hcu
      go_wp2_with fail
      refine hT2.out.mono ?_
      rintro e w5 ⟨v5, rfl, hb5, hB5⟩
      have c4 := str_conv (HB4.out.below hB5)
      have c5 := str_conv hb5
      have hB6 := bel_of hBr (bel_of hB4 hB5)
      have hP6 := parts_below HPR.out (bel_of hB4 hB5)
      generalize Frm.tk ys = r at *
      clear hT2 hb5 HB4 hB4 hB5 HBU HPR hBr
      go_wp2_with fail
      go_roundw
      case rel => exact ⟨i + 1, by omega, by go_num, hP6, hB6⟩
      case measure => simp [intOf]; omega
    · obtain rfl : i = 3 := by omega
      go_wp2_with fail
      go_ret
      exact ⟨rfl, hBr⟩

theorem walk (a0 : Option Addr) (len0 cap0 : Nat) (z0 : List Int) (a1 : Int) (w : World) (w0 : IsRow .u8 w a0 len0 cap0 z0) (w1 : (Lit.int .u8 a1).wf = true) :
    Calls Try.prog 4 #[.slice a0 len0 cap0, .int .u8 a1] w fun e w' => e = .returned (.bool true) ∧ Below w.heap.size w w' := by
  have hk : 0 ≤ a1 ∧ a1 < 256 := by
    simp [Lit.wf, IntKind.min, IntKind.max, IntKind.signed, IntKind.bits] at w1
    omega
  clear w1
  obtain ⟨hl, hv⟩ := Byt.of_row w0
  obtain ⟨xs, hxs⟩ : ∃ xs, xs = z0.take len0 := ⟨_, rfl⟩
  rw [← hxs] at hl hv
  subst hl
  clear w0 hxs
  by_cases hx : xs.length ≤ 5000
  · exact frameTakes_few a1 a0 cap0 xs w hk.1 hk.2 hv hx
  · clear hv
    go_enter Try.func4, Try.ntmps4
    go_wp2_with fail
    refine (awake_any _).mono ?_
    rintro e w1 ⟨rfl, hB1⟩
    go_wp2_with fail
    go_ret
    exact ⟨rfl, hB1⟩

/-! ### THE ROW's STEP: WRITTEN OUT: LEAVE IT -/
set_option maxRecDepth 100000 in
theorem lifted (os : Os) (started : os.Started) (H : Type) (enc : TypeId × Value → H) :
    ReturnsInHanded {} Try.checked os 4 .any (Rows.frameTakesSpec.pre6 enc Try.prog Try.f4 Rows.frameTakesRow.domain false) (Rows.frameTakesSpec.post enc Try.prog Try.f4 false true false false) := by
  refine returnsInHanded_of_change (C := Try.checked) own started (by kernel_rfl) Try.func4
    (ChangeSpec.witness6 (enc := enc) (C := Try.checked) false ⟨#[], #[.slice none 0 0, .int .u8 0], []⟩ 8 (by kernel_rfl) (by kernel_rfl) (by kernel_rfl) (by kernel_rfl)) ?_
  intro W base args ds gs before hval0 hW hcnd _
  have hval : ∀ (j : Nat) t v, Try.f4.params[j]? = some t → args[j]? = some v → Value.okWide Try.prog W .any base t v := hval0
  have hW' := hW
  obtain ⟨p, q, hA0, hV, rfl, hfz, hnd⟩ := hW
  have hA : DataW.TrodAll enc Try.prog W 0 (fun _ => true) true Try.f4.params.toList args.toList ds p := hA0
  rw [Try.params4] at hA hval
  obtain ⟨v0, vs0, d0, ds0, p0, q0, hargs, rfl, rfl, h0, r0⟩ := trodAll_cons hA
  obtain ⟨v1, vs1, d1, ds1, p1, q1, rfl, rfl, rfl, h1, r1⟩ := trodAll_cons r0
  obtain ⟨rfl, rfl, rfl⟩ := trodAll_nil r1
  obtain rfl : args = #[v0, v1] := by cases args; simp_all
  obtain ⟨rfl, rfl⟩ := trodVars_none hV
  obtain ⟨a0, len0, cap0, rfl⟩ := okWide_slice Try.underlying22 (hval 0 22 v0 rfl rfl)
  have k0 := h0
  have lt0 : ∀ x ∈ p0, x.block < W.heap.size := by obtain ⟨m, hm⟩ := k0; exact DataW.trod_lt m _ _ _ hm
  obtain ⟨z0, w0⟩ : ∃ zs, IsRow .u8 W a0 len0 cap0 zs := by
    obtain ⟨fuel, hf⟩ := h0
    rcases open_ints Try.underlying22 Try.underlying5 (by kernel_rfl) hf with ⟨hcs, _⟩ | ⟨x, l, c, zs, hcs, _, hl, hm, hz, _, hcell, hwz⟩
    · simp [Value.cells] at hcs
      obtain ⟨rfl, rfl, rfl⟩ := hcs
      exact ⟨[], .inl ⟨rfl, rfl, rfl, rfl⟩⟩
    · simp [Value.cells] at hcs
      obtain ⟨rfl, rfl, rfl⟩ := hcs
      exact ⟨zs, .inr ⟨_, rfl, hl, hm, by simpa using hz, hcell, hwz⟩⟩
  obtain ⟨a1, rfl, rfl, rfl, w1⟩ := open_int Try.underlying5 (hval 1 5 v1 rfl rfl) h1
  clear hA0 hval0
  refine (walk a0 len0 cap0 z0 a1 W w0 w1).mono fun e W' ⟨he, bel⟩ => ?_
  subst he
  exact ⟨_, rfl, _, _, _, [], _, [], hW', trodAll_mk1 (shut_bool Try.underlying4 _), (trodAll_cons_mk (Below.trod laidOut (by kernel_rfl) (of_decide_eq_true (by kernel_rfl)) k0 bel lt0) (trodAll_cons_mk (shut_int Try.underlying5 w1) trodAll_mk0)), rfl, bel.frame _, fun h => by cases h⟩

theorem over : Rows.frameTakesRow.holds Try.pinned (OpenSpec.ofChange Rows.frameTakesSpec) :=
  OpenClaim.holds_of_wide 4 Try.f4 rfl rfl rfl rfl rfl rfl rfl ⟨rfl, rfl, rfl, rfl, rfl⟩ rfl rfl rfl rfl rfl (by kernel_rfl) Try.func4 (by kernel_rfl)
    (of_decide_eq_true (by kernel_rfl)) (by unfold Func.isWrapper; first | (rw [if_pos (by decide +kernel)]; kernel_rfl) | (rw [if_neg (by decide +kernel)]; exact ⟨rfl, rfl⟩))
    (fun os started H enc _ => lifted os started H enc)

end Go.Proofs.Ytlonniegaaocoaa.frameTakes
namespace Go.Proofs.Ytlonniegaaocoaa
theorem frameTakes_holds : Rows.FrameTakesSaid := frameTakes.over
#print axioms frameTakes_holds
end Go.Proofs.Ytlonniegaaocoaa
