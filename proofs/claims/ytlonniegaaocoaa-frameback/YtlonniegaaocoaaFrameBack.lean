/- FrameBack: P3.1, P3.2: frames are taken as they were laid, whatever stands behind; cut anywhere a frame is short; with a bit turned it isn't taken as it was. -/
import Derived.Test.YtlonniegaaocoaaRows
import Derived.WalkKit
import Derived.ProofKit
import Derived.OpenShut
import Derived.ShutString
import Derived.ChangeOld
import Derived.Below
import Derived.Test.YtlonniegaaocoaaAwake
import Derived.Test.YtlonniegaaocoaaRefTake
namespace Go.Proofs.Ytlonniegaaocoaa.frameBack
open Go.ChangeShapes Go.WideShapes Go.ChangeAt Go.RowKit
open Go.ChangeMaps (open_string shut_string)
set_option linter.unusedVariables false

theorem own : ownKnob Try.prog.godebug = none := by kernel_rfl
theorem laidOut : laidOutB Try.prog = true := by kernel_rfl

theorem place_nat (a : Int) (L : Nat) (h0 : 0 < L) (h1 : L ≤ 1000000) : ∃ k : Nat, k < L ∧ wrap64 ((IntKind.u64.wrap a).tmod (L : Int)) = (k : Int) := by
  have hp : 0 ≤ IntKind.u64.wrap a := by rw [IntKind.wrap_u64]; omega
  have e : (IntKind.u64.wrap a).tmod (L : Int) = (IntKind.u64.wrap a) % (L : Int) := Int.tmod_eq_emod_of_nonneg hp
  have l1 := Int.emod_nonneg (IntKind.u64.wrap a) (show (L : Int) ≠ 0 by omega)
  have l2 := Int.emod_lt_of_pos (IntKind.u64.wrap a) (show 0 < (L : Int) by omega)
  rw [e]
  generalize (IntKind.u64.wrap a) % (L : Int) = r at *
  refine ⟨r.toNat, by omega, ?_⟩
  simp only [wrap64]
  omega
theorem place_nat8 (a : Int) (L : Nat) (h0 : 0 < L) (h1 : L ≤ 100000) : ∃ k : Nat, k < 8 * L ∧ wrap64 ((IntKind.u64.wrap a).tmod (8 * (L : Int))) = (k : Int) := by
  have := place_nat a (8 * L) (by omega) (by omega)
  rwa [show ((8 * L : Nat) : Int) = 8 * (L : Int) from by simp] at this

/-- A byte with a bit turned is a byte, and another one. -/
theorem turn_byte (c : Int) (h0 : 0 ≤ c) (h1 : c < 256) (j : Nat) (hj : j < 8) : 0 ≤ bits .xor .u8 c (2 ^ j % 256) ∧ bits .xor .u8 c (2 ^ j % 256) < 256 ∧ bits .xor .u8 c (2 ^ j % 256) ≠ c := by
  obtain ⟨d, rfl⟩ := Int.eq_ofNat_of_zero_le h0
  have hp : 2 ^ j < 256 := Nat.lt_of_lt_of_le (Nat.pow_lt_pow_right (by omega) hj) (by decide)
  have e : (2 ^ j % 256 : Int) = ((2 ^ j : Nat) : Int) := by
    rw [show ((2 : Int) ^ j) = ((2 ^ j : Nat) : Int) from by simp]
    generalize 2 ^ j = p at *
    omega
  have hx : d ^^^ 2 ^ j < 256 := Nat.xor_lt_two_pow (n := 8) (by omega) hp
  rw [e, u8_xor_nat _ _ (by omega) hp]
  refine ⟨by omega, by omega, fun h => ?_⟩
  have h2 : d ^^^ 2 ^ j = d := by omega
  have h3 := congrArg (fun x => d ^^^ x) h2
  simp only [← Nat.xor_assoc, Nat.xor_self, Nat.zero_xor] at h3
  have := Nat.two_pow_pos j
  omega

set_option maxHeartbeats 1000000 in
set_option maxRecDepth 100000 in
theorem back_few (k : Int) (a1 : Option Addr) (cap1 : Nat) (xs : List Int) (a2 : Option Addr) (cap2 : Nat) (ys : List Int) (cut bit : Int) (w : World) (hk0 : 0 ≤ k) (hk1 : k < 256)
    (hv1 : Byt w (.slice a1 xs.length cap1) xs) (hv2 : Byt w (.slice a2 ys.length cap2) ys) (hx : xs.length ≤ 3000) (hy : ys.length ≤ 1000)
    (hc0 : -9223372036854775808 ≤ cut) (hc1 : cut ≤ 9223372036854775807) (hb0 : -9223372036854775808 ≤ bit) (hb1 : bit ≤ 9223372036854775807) :
    Calls Try.prog 6 #[.int .u8 k, .slice a1 xs.length cap1, .slice a2 ys.length cap2, .int .i64 cut, .int .i64 bit] w fun e w' => e = .returned (.bool true) ∧ Below w.heap.size w w' := by
  obtain ⟨i0, hi, hz0, hz1, hz2⟩ := info_parts info5
  have hbx : Frm.Bts xs := hv1.bytes
  have hbF : Frm.Bts (Frm.lay k xs) := Frm.lay_bts hk0 hk1 hbx
  have htk := Frm.tk_lay (k := k) (xs := xs) (by omega) ys
  have hcut := Frm.tk_part (k := k) (xs := xs) (by omega)
  have hsame := fun zs => Frm.tk_same' (k := k) (xs := xs) (ys := zs)
  have hlm := Frm.lay_more (k := k) (xs := xs) (by omega)
  have hlp := Frm.lay_pos k xs
  have hlo := fun W h => lay_own k (.slice a1 xs.length cap1) xs W hk0 hk1 h (by omega)
  generalize Frm.lay k xs = F at *
  have HF := hide hbF
  have HTK := hide htk
  have HCUT := hide hcut
  have HSAME := hide hsame
  have HLO := hide hlo
  have HV1 := hide hv1
  have HV2 := hide hv2
  have HX := hide hbx
  clear hbF htk hcut hsame hlo hv1 hv2 hbx
  obtain ⟨c, hcL, ec⟩ := place_nat cut F.length (by omega) (by omega)
  obtain ⟨q, hqL, eq⟩ := place_nat8 bit F.length (by omega) (by omega)
  go_enter Try.func6, Try.ntmps6
  go_wp2_with fail
  refine (awake_any _).mono ?_
  rintro e w1 ⟨rfl, hB1⟩
  go_wp2_with fail
  refine (HLO.out w1 (HV1.out.below hB1)).mono ?_
  rintro e w2 ⟨v2, rfl, hO2, hB2⟩
  have hf2 := Byt.of_owns hO2 HF.out
  have hB2' := bel_of hB1 hB2
  have hB1s := hide hB1.size
  have hE := owns_empty w2 w2.heap.size (Nat.le_refl _)
  have hBE := (Below.refl w2.heap.size w2).alloc (Nat.le_refl _) (.cells #[] 5)
  have hf2' := hf2.below hBE
  go_wp2_with (at_builtin; go_must (refine wpList_append_byt _ rfl (.tmp 41) (.tmp 42) 22 rfl w2.heap.size i0 Try.underlying22 hi hz0 hz1 hz2 _ _ _ rfl hE _ F rfl hf2' (by omega) (by simp) ?_))
  intro v3 w3 hO3 hg3
  have hB3 : Below w2.heap.size w2 w3 := hBE.grown hg3 (by simp) (fun k hk => (hE.lt k hk).1)
  have hy3 := HV2.out.below (bel_of hB2' hB3)
  have hsz3 := hB3.size
  clear hE hBE hg3 hf2' hf2
  go_wp2_with (at_builtin; go_must (refine wpList_append_byt _ rfl (.tmp 43) (.tmp 44) 22 rfl w2.heap.size i0 Try.underlying22 hi hz0 hz1 hz2 _ _ _ rfl hO3 _ ys rfl hy3 (by omega) hsz3 ?_))
  intro v4 w4 hO4 hg4
  have hB4 : Below w2.heap.size w2 w4 := hB3.grown hg4 hsz3 (fun k hk => (hO3.lt k hk).1)
  have hb4 : Byt w4 v4 (F ++ ys) := Byt.of_owns (n := F.length + ys.length) (by simpa using hO4) (HF.out.app HV2.out.bytes)
  have hT4 := hide (take_any v4 _ w4 hb4 (by simp; omega))
  clear hO4 hO3 hg4 hy3 hB3 hsz3 hb4 hB1 hB2
  go_wp2_with fail
  refine hT4.out.mono ?_
  rintro e w5 ⟨v5, rfl, hb5, hB5⟩
  rw [HTK.out] at hb5 ⊢
  have hB5' := bel_of hB4 hB5
  have hO5 := owns_below hO2 hB5'
  have c5 := str_conv hb5
  have c1 := str_conv (HV1.out.below (bel_of hB2' hB5'))
  have hf5 := Byt.of_owns hO5 HF.out
  have hBw5 := bel_of hB2' hB5'
  obtain ⟨g, cap, rfl, hgb, hcp⟩ : ∃ g cap, v2 = .slice (some ⟨g, 0, none⟩) F.length cap ∧ w1.heap.size ≤ g ∧ F.length ≤ cap := by
    rcases hO5.2 with ⟨_, hn0⟩ | ⟨g, cap, cur, rfl, hgb, _, hnc, _⟩
    · omega
    · exact ⟨g, cap, rfl, hgb, hnc⟩
  have hft := hf5.take c (by omega)
  have hccap : (c : Int) ≤ (cap : Int) := by omega
  have hT6 := hide (take_any _ _ w5 hft (by simp; omega))
  have hz' : ((F.length : Int) == 0) = false := by simp only [beq_eq_false_iff_ne]; omega
  clear hT4 hb5 hf5 hft hB4 hB5 hB5' hO2 hB2'
  go_wp2_with fail
  refine hT6.out.mono ?_
  rintro e w6 ⟨v6, rfl, hb6, hB6⟩
  have hcode := HCUT.out c hcL
  rw [hcode]
  generalize (Frm.tk (F.take c)).1 = k6
  generalize (Frm.tk (F.take c)).2.2.1 = n6
  have hO6 := owns_below hO5 hB6
  have hq8 : q / 8 < F.length := by omega
  have hcl := hO6.cellAt (q / 8) (by omega)
  rw [List.getElem?_map, List.getElem?_eq_getElem hq8, Option.map_some] at hcl
  have hfz := hO6.frozenAt (q / 8)
  have hst := (hO6.stored (q / 8) (.int .u8 (bits .xor .u8 F[q / 8] (2 ^ (q % 8) % 256)))).1.drew
  rw [← List.map_set] at hst
  have hFq := HF.out F[q / 8] (List.getElem_mem hq8)
  have htb := turn_byte F[q / 8] hFq.1 hFq.2 (q % 8) (by omega)
  have hBw6 := bel_of hBw5 hB6
  have hB7 := (hBw6.setCell (p := ⟨g, q / 8, none⟩) (show w.heap.size ≤ g from by have := hB1s.out; omega) (.int .u8 (bits .xor .u8 F[q / 8] (2 ^ (q % 8) % 256)))).drew
  obtain ⟨t, ht⟩ : ∃ t, t = bits .xor .u8 F[q / 8] (2 ^ (q % 8) % 256) := ⟨_, rfl⟩
  have hCb : Frm.Bts (F.set (q / 8) t) := by
    intro x hx
    rcases List.mem_or_eq_of_mem_set hx with h | h
    · exact HF.out x h
    · rw [h, ht]; exact ⟨htb.1, htb.2.1⟩
  have hCne : F.set (q / 8) t ≠ F := by
    intro h
    have := congrArg (fun l => l[q / 8]?) h
    simp only [List.getElem?_set_self hq8, List.getElem?_eq_getElem hq8, Option.some.injEq] at this
    rw [ht] at this
    exact htb.2.2 this
  have HTT := hide ht
  rw [← ht] at hst hB7
  have hC7 := Byt.of_owns hst hCb
  have hT7 := hide (take_any _ _ _ hC7 (by simp; omega))
  clear hT6 hb6 hO6 hO5 hst hB6 hBw5 hcode htb hFq hC7
  generalize F[q / 8] = z at *
  have HCB := hide hCb
  have HCN := hide hCne
  have HS := hide (HSAME.out (F.set (q / 8) t))
  have hCl : (F.set (q / 8) t).length = F.length := by simp
  generalize F.set (q / 8) t = C at *
  clear hCb hCne
  go_wp2_with fail
  go_region
  go_wp2_with fail
  rw [HTT.out] at hT7 hB7
  refine hT7.out.mono ?_
  rintro e w8 ⟨v8, rfl, hb8, hB8⟩
  have hB9 := bel_of hB7 hB8
  have c1 := str_conv (HV1.out.below hB9)
  have c8 := str_conv hb8
  have hbb := HX.out
  have hb8' := hb8.bytes
  have hno := HS.out HCB.out hCl
  generalize Frm.tk C = r at *
  obtain ⟨rk, rb, rn, rc⟩ := r
  simp only at hno hb8' c8 ⊢
  by_cases h1 : rc = 0
  · subst h1
    by_cases h2 : rk = k
    · subst h2
      have h3 : rb ≠ xs := fun h3 => HCN.out (hno rfl rfl h3)
      have hs : ((strOfNums rb).toList == (strOfNums xs).toList) = false := by rw [str_beq hb8' hbb]; simpa using h3
      clear hno h3 hb8 hb8' hbb hB7 hB8 hT7
      go_wp2_with fail
      go_ret
      exact ⟨rfl, hB9⟩
    · clear hno hb8 hb8' hbb hB7 hB8 hT7
      go_wp2_with fail
      all_goals
        go_ret
        first
          | exact ⟨rfl, hB9⟩
          | exact absurd (by assumption) h2
  · clear hno hb8 hb8' hbb hB7 hB8 hT7
    go_wp2_with fail
    all_goals
      go_ret
      first
        | exact ⟨rfl, hB9⟩
        | exact absurd (by assumption) h1

theorem walk (a0 : Int) (a1 : Option Addr) (len1 cap1 : Nat) (z1 : List Int) (a2 : Option Addr) (len2 cap2 : Nat) (z2 : List Int) (a3 : Int) (a4 : Int) (w : World) (w0 : (Lit.int .u8 a0).wf = true) (w1 : IsRow .u8 w a1 len1 cap1 z1) (w2 : IsRow .u8 w a2 len2 cap2 z2) (w3 : (Lit.int .i64 a3).wf = true) (w4 : (Lit.int .i64 a4).wf = true) :
    Calls Try.prog 6 #[.int .u8 a0, .slice a1 len1 cap1, .slice a2 len2 cap2, .int .i64 a3, .int .i64 a4] w fun e w' => e = .returned (.bool true) ∧ Below w.heap.size w w' := by
  have hk : 0 ≤ a0 ∧ a0 < 256 := by
    simp [Lit.wf, IntKind.min, IntKind.max, IntKind.signed, IntKind.bits] at w0
    omega
  have hc : -9223372036854775808 ≤ a3 ∧ a3 ≤ 9223372036854775807 := by
    simp [Lit.wf, IntKind.min, IntKind.max, IntKind.signed, IntKind.bits] at w3
    omega
  have hb : -9223372036854775808 ≤ a4 ∧ a4 ≤ 9223372036854775807 := by
    simp [Lit.wf, IntKind.min, IntKind.max, IntKind.signed, IntKind.bits] at w4
    omega
  clear w0 w3 w4
  obtain ⟨hl, hv⟩ := Byt.of_row w1
  obtain ⟨xs, hxs⟩ : ∃ xs, xs = z1.take len1 := ⟨_, rfl⟩
  rw [← hxs] at hl hv
  subst hl
  obtain ⟨hl2, hv2⟩ := Byt.of_row w2
  obtain ⟨ys, hys⟩ : ∃ ys, ys = z2.take len2 := ⟨_, rfl⟩
  rw [← hys] at hl2 hv2
  subst hl2
  clear w1 w2 hxs hys
  by_cases hx : xs.length ≤ 3000
  · by_cases hy : ys.length ≤ 1000
    · exact back_few a0 a1 cap1 xs a2 cap2 ys a3 a4 w hk.1 hk.2 hv hv2 hx hy hc.1 hc.2 hb.1 hb.2
    · clear hv hv2 hc hb hk
      go_enter Try.func6, Try.ntmps6
      go_wp2_with fail
      refine (awake_any _).mono ?_
      rintro e w1 ⟨rfl, hB1⟩
      go_wp2_with fail
      go_ret
      exact ⟨rfl, hB1⟩
  · clear hv hv2 hc hb hk
    go_enter Try.func6, Try.ntmps6
    go_wp2_with fail
    refine (awake_any _).mono ?_
    rintro e w1 ⟨rfl, hB1⟩
    go_wp2_with fail
    go_ret
    exact ⟨rfl, hB1⟩

/-! ### THE ROW's STEP: WRITTEN OUT: LEAVE IT -/
set_option maxRecDepth 100000 in
theorem lifted (os : Os) (started : os.Started) (H : Type) (enc : TypeId × Value → H) :
    ReturnsInHanded {} Try.checked os 6 .any (Rows.frameBackSpec.pre6 enc Try.prog Try.f6 Rows.frameBackRow.domain false) (Rows.frameBackSpec.post enc Try.prog Try.f6 false true false false) := by
  refine returnsInHanded_of_change (C := Try.checked) own started (by kernel_rfl) Try.func6
    (ChangeSpec.witness6 (enc := enc) (C := Try.checked) false ⟨#[], #[.int .u8 0, .slice none 0 0, .slice none 0 0, .int .i64 0, .int .i64 0], []⟩ 8 (by kernel_rfl) (by kernel_rfl) (by kernel_rfl) (by kernel_rfl)) ?_
  intro W base args ds gs before hval0 hW hcnd _
  have hval : ∀ (j : Nat) t v, Try.f6.params[j]? = some t → args[j]? = some v → Value.okWide Try.prog W .any base t v := hval0
  have hW' := hW
  obtain ⟨p, q, hA0, hV, rfl, hfz, hnd⟩ := hW
  have hA : DataW.TrodAll enc Try.prog W 0 (fun _ => true) true Try.f6.params.toList args.toList ds p := hA0
  rw [Try.params6] at hA hval
  obtain ⟨v0, vs0, d0, ds0, p0, q0, hargs, rfl, rfl, h0, r0⟩ := trodAll_cons hA
  obtain ⟨v1, vs1, d1, ds1, p1, q1, rfl, rfl, rfl, h1, r1⟩ := trodAll_cons r0
  obtain ⟨v2, vs2, d2, ds2, p2, q2, rfl, rfl, rfl, h2, r2⟩ := trodAll_cons r1
  obtain ⟨v3, vs3, d3, ds3, p3, q3, rfl, rfl, rfl, h3, r3⟩ := trodAll_cons r2
  obtain ⟨v4, vs4, d4, ds4, p4, q4, rfl, rfl, rfl, h4, r4⟩ := trodAll_cons r3
  obtain ⟨rfl, rfl, rfl⟩ := trodAll_nil r4
  obtain rfl : args = #[v0, v1, v2, v3, v4] := by cases args; simp_all
  obtain ⟨rfl, rfl⟩ := trodVars_none hV
  obtain ⟨a0, rfl, rfl, rfl, w0⟩ := open_int Try.underlying5 (hval 0 5 v0 rfl rfl) h0
  obtain ⟨a1, len1, cap1, rfl⟩ := okWide_slice Try.underlying22 (hval 1 22 v1 rfl rfl)
  have k1 := h1
  have lt1 : ∀ x ∈ p1, x.block < W.heap.size := by obtain ⟨m, hm⟩ := k1; exact DataW.trod_lt m _ _ _ hm
  obtain ⟨z1, w1⟩ : ∃ zs, IsRow .u8 W a1 len1 cap1 zs := by
    obtain ⟨fuel, hf⟩ := h1
    rcases open_ints Try.underlying22 Try.underlying5 (by kernel_rfl) hf with ⟨hcs, _⟩ | ⟨x, l, c, zs, hcs, _, hl, hm, hz, _, hcell, hwz⟩
    · simp [Value.cells] at hcs
      obtain ⟨rfl, rfl, rfl⟩ := hcs
      exact ⟨[], .inl ⟨rfl, rfl, rfl, rfl⟩⟩
    · simp [Value.cells] at hcs
      obtain ⟨rfl, rfl, rfl⟩ := hcs
      exact ⟨zs, .inr ⟨_, rfl, hl, hm, by simpa using hz, hcell, hwz⟩⟩
  obtain ⟨a2, len2, cap2, rfl⟩ := okWide_slice Try.underlying22 (hval 2 22 v2 rfl rfl)
  have k2 := h2
  have lt2 : ∀ x ∈ p2, x.block < W.heap.size := by obtain ⟨m, hm⟩ := k2; exact DataW.trod_lt m _ _ _ hm
  obtain ⟨z2, w2⟩ : ∃ zs, IsRow .u8 W a2 len2 cap2 zs := by
    obtain ⟨fuel, hf⟩ := h2
    rcases open_ints Try.underlying22 Try.underlying5 (by kernel_rfl) hf with ⟨hcs, _⟩ | ⟨x, l, c, zs, hcs, _, hl, hm, hz, _, hcell, hwz⟩
    · simp [Value.cells] at hcs
      obtain ⟨rfl, rfl, rfl⟩ := hcs
      exact ⟨[], .inl ⟨rfl, rfl, rfl, rfl⟩⟩
    · simp [Value.cells] at hcs
      obtain ⟨rfl, rfl, rfl⟩ := hcs
      exact ⟨zs, .inr ⟨_, rfl, hl, hm, by simpa using hz, hcell, hwz⟩⟩
  obtain ⟨a3, rfl, rfl, rfl, w3⟩ := open_int Try.underlying3 (hval 3 3 v3 rfl rfl) h3
  obtain ⟨a4, rfl, rfl, rfl, w4⟩ := open_int Try.underlying3 (hval 4 3 v4 rfl rfl) h4
  clear hA0 hval0
  refine (walk a0 a1 len1 cap1 z1 a2 len2 cap2 z2 a3 a4 W w0 w1 w2 w3 w4).mono fun e W' ⟨he, bel⟩ => ?_
  subst he
  exact ⟨_, rfl, _, _, _, [], _, [], hW', trodAll_mk1 (shut_bool Try.underlying4 _), (trodAll_cons_mk (shut_int Try.underlying5 w0) (trodAll_cons_mk (Below.trod laidOut (by kernel_rfl) (of_decide_eq_true (by kernel_rfl)) k1 bel lt1) (trodAll_cons_mk (Below.trod laidOut (by kernel_rfl) (of_decide_eq_true (by kernel_rfl)) k2 bel lt2) (trodAll_cons_mk (shut_int Try.underlying3 w3) (trodAll_cons_mk (shut_int Try.underlying3 w4) trodAll_mk0))))), rfl, bel.frame _, fun h => by cases h⟩

theorem over : Rows.frameBackRow.holds Try.pinned (OpenSpec.ofChange Rows.frameBackSpec) :=
  OpenClaim.holds_of_wide 6 Try.f6 rfl rfl rfl rfl rfl rfl rfl ⟨rfl, rfl, rfl, rfl, rfl⟩ rfl rfl rfl rfl rfl (by kernel_rfl) Try.func6 (by kernel_rfl)
    (of_decide_eq_true (by kernel_rfl)) (by unfold Func.isWrapper; first | (rw [if_pos (by decide +kernel)]; kernel_rfl) | (rw [if_neg (by decide +kernel)]; exact ⟨rfl, rfl⟩))
    (fun os started H enc _ => lifted os started H enc)

end Go.Proofs.Ytlonniegaaocoaa.frameBack
namespace Go.Proofs.Ytlonniegaaocoaa
theorem frameBack_holds : Rows.FrameBackSaid := frameBack.over
#print axioms frameBack_holds
end Go.Proofs.Ytlonniegaaocoaa
