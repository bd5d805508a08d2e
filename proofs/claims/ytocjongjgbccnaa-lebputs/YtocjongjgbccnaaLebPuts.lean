/- Proved: for all bytes and numbers the law LebPuts returns true and leaves its arguments as they were: Put and PutInt leave just what the document's answer leaves, and what was handed in, spare room included, is as it was; no conditions. -/
import Derived.Test.YtocjongjgbccnaaRows
import Derived.WalkKit
import Derived.ProofKit
import Derived.OpenShut
import Derived.ShutString
import Derived.ChangeOld
import Derived.Below
import Derived.Test.YtocjongjgbccnaaAwake
import Derived.Test.YtocjongjgbccnaaRefPut
import Derived.Deep.RegionWith
import Derived.Deep.RegionHeld
namespace Go.Proofs.Ytocjongjgbccnaa.lebPuts
open Go.ChangeShapes Go.WideShapes Go.ChangeAt Go.RowKit
open Go.ChangeMaps (open_string shut_string)
set_option linter.unusedVariables false

theorem own : ownKnob Try.prog.godebug = none := by kernel_rfl
theorem laidOut : laidOutB Try.prog = true := by kernel_rfl

/-- What stands while the last statement is reckoned: the two answers, the bytes that were handed on, those that came in, and the two behind them. -/
structure Keep (W : World) (vx vy vi vb : Value) (X Y xs : List Int) (g k : Nat) : Prop where
  x : Byt W vx X
  y : Byt W vy Y
  i : Byt W vi xs
  b : Byt W vb xs
  c0 : W.cell? ⟨g, k, none⟩ = some (.int .u8 7)
  c1 : W.cell? ⟨g, k + 1, none⟩ = some (.int .u8 7)

theorem Keep.below {W W' : World} {vx vy vi vb : Value} {X Y xs : List Int} {g k : Nat} (h : Keep W vx vy vi vb X Y xs g k) (hb : Below W.heap.size W W') : Keep W' vx vy vi vb X Y xs g k :=
  ⟨h.x.below hb, h.y.below hb, h.i.below hb, h.b.below hb, (hb.cell (p := ⟨g, k, none⟩) (World.block_lt_of_cell? W _ h.c0)).trans h.c0, (hb.cell (p := ⟨g, k + 1, none⟩) (World.block_lt_of_cell? W _ h.c1)).trans h.c1⟩
theorem Keep.drew {W : World} {vx vy vi vb : Value} {X Y xs : List Int} {g k : Nat} (h : Keep W vx vy vi vb X Y xs g k) : Keep W.drew vx vy vi vb X Y xs g k := h.below (Below.refl _ _).drew
theorem Keep.eqs {W : World} {vx vy vi vb : Value} {X Y xs : List Int} {g k : Nat} (h : Keep W vx vy vi vb X Y xs g k) :
    (convert 22 9 vx).run Try.prog W = .ok (.string (strOfNums X)) W ∧ (convert 22 9 vy).run Try.prog W = .ok (.string (strOfNums Y)) W ∧ (convert 22 9 vi).run Try.prog W = .ok (.string (strOfNums xs)) W ∧
    (convert 22 9 vb).run Try.prog W = .ok (.string (strOfNums xs)) W :=
  ⟨str_conv h.x, str_conv h.y, str_conv h.i, str_conv h.b⟩

theorem Keep.held {W w : World} {vx vy vi vb : Value} {X Y xs : List Int} {g k : Nat} (h : Keep W vx vy vi vb X Y xs g k) (hb : Below w.heap.size w W) :
    Keep W vx vy vi vb X Y xs g k ∧ Below w.heap.size w W ∧ (convert 22 9 vx).run Try.prog W = .ok (.string (strOfNums X)) W ∧ (convert 22 9 vy).run Try.prog W = .ok (.string (strOfNums Y)) W ∧ (convert 22 9 vi).run Try.prog W = .ok (.string (strOfNums xs)) W ∧
    (convert 22 9 vb).run Try.prog W = .ok (.string (strOfNums xs)) W ∧ W.cell? ⟨g, k, none⟩ = some (.int .u8 7) ∧ W.cell? ⟨g, k + 1, none⟩ = some (.int .u8 7) :=
  ⟨h, hb, str_conv h.x, str_conv h.y, str_conv h.i, str_conv h.b, h.c0, h.c1⟩

theorem nat_of_wf {a : Int} (h : (Lit.int .u64 a).wf = true) : ∃ n : Nat, a = (n : Int) ∧ Leb.Fits n := by
  have := bounds_u64 h
  exact ⟨a.toNat, by omega, by unfold Leb.Fits; omega⟩

theorem puts_in {w : World} {base : Nat} {v : Value} {xs : List Int} (h : w.ownsRow base 5 1 v (xs.length + 2) (xs.map (Value.int .u8) ++ [.int .u8 7, .int .u8 7])) (hx : ∀ x ∈ xs, 0 ≤ x ∧ x < 256) :
    ∃ g cap, v = .slice (some ⟨g, 0, none⟩) (xs.length + 2) cap ∧ xs.length + 2 ≤ cap ∧ cap ≤ maxLen ∧ Byt w (.slice (some ⟨g, 0, none⟩) xs.length cap) xs ∧
      w.cell? ⟨g, xs.length, none⟩ = some (.int .u8 7) ∧ w.cell? ⟨g, xs.length + 1, none⟩ = some (.int .u8 7) := by
  rcases h.2 with ⟨_, h0⟩ | ⟨g, cap, cur, rfl, _, _, hnc, hcm, _, _⟩
  · omega
  · refine ⟨g, cap, rfl, hnc, hcm, ⟨g, hx, _, cap, rfl, by omega, hcm, by simp, fun _ => ⟨0, rfl, fun j hj => ?_⟩⟩, ?_, ?_⟩
    · have := h.cellAt j (by omega)
      rw [Nat.zero_add, this, List.getElem?_append_left (by simpa using hj)]
      simp [List.getElem?_eq_getElem hj]
    · have := h.cellAt xs.length (by omega)
      rw [this, List.getElem?_append_right (by simp)]
      simp
    · have := h.cellAt (xs.length + 1) (by omega)
      rw [this, List.getElem?_append_right (by simp)]
      simp

set_option maxHeartbeats 1000000 in
set_option maxRecDepth 100000 in
theorem walk_few (a0 : Option Addr) (cap0 : Nat) (xs : List Int) (n : Nat) (i : Int) (w : World) (hv : Byt w (.slice a0 xs.length cap0) xs) (hx : xs.length ≤ 1000) (hn : Leb.Fits n)
    (h1 : -9223372036854775808 ≤ i) (h2 : i ≤ 9223372036854775807) :
    Calls Try.prog 3 #[.slice a0 xs.length cap0, .int .u64 n, .int .i64 i] w fun e w' => e = .returned (.bool true) ∧ Below w.heap.size w w' := by
  have hb0 : Hid (∀ x ∈ xs, 0 ≤ x ∧ x < 256) := by obtain ⟨_, h, _⟩ := hv; exact h
  obtain ⟨i0, hi, hz0, hz1, hz2⟩ := info_parts info5
  have HI := hide (And.intro h1 h2)
  clear h1 h2
  go_enter Try.func3, Try.ntmps3
  go_wp2_with fail
  refine (awake_any _).mono ?_
  rintro e w1 ⟨rfl, hB1⟩
  have hE := owns_empty w1 w1.heap.size (Nat.le_refl _)
  have hBE := (Below.refl w1.heap.size w1).alloc (Nat.le_refl _) (.cells #[] 5)
  have hv1 := hv.below hB1
  clear hv
  go_wp2_with (at_builtin; go_must (refine wpList_append_byt _ rfl (.tmp 16) (.tmp 17) 22 rfl w1.heap.size i0 Try.underlying22 hi hz0 hz1 hz2 _ _ _ rfl hE _ xs rfl (hv1.below hBE) (by omega) (by simp) ?_))
  intro v2 w2 hown2 hg2
  have hB2 : Below w1.heap.size w1 w2 := hBE.grown hg2 (by simp) (fun k hk => (hE.lt k hk).1)
  have hzw2 : w1.heap.size < w2.heap.size := by have := hg2.size; simp at this; omega
  clear hE hBE hg2
  go_wp2_with (at_builtin; go_must (refine wpList_append_byt _ rfl (.tmp 18) (.tmp 19) 22 rfl w1.heap.size i0 Try.underlying22 hi hz0 hz1 hz2 _ xs.length (xs.map (Value.int .u8)) rfl (hown2.alloc _) (.slice (some ⟨w2.heap.size, 0, none⟩) 2 2) [7, 7] rfl (Byt.two w2 7 7 (by omega) (by omega) (by omega) (by omega)) (by simp; omega) (by simp; omega) ?_))
  intro v3 w3 hown3 hg3
  have hB3 : Below w1.heap.size w1 w3 := (hB2.alloc (by omega) _).grown hg3 (by simp; omega) (fun k hk => (hown2.lt k hk).1)
  clear hg3 hown2 hB2 hzw2
  obtain ⟨g, cap, rfl, hnc, hcm, hin, hc0, hc1⟩ := puts_in hown3 hb0.out
  have hvb := hv1.below hB3
  have hB3' := bel_of hB1 hB3
  unfold maxLen at hcm
  clear hown3 hB1 hB3 hv1
  go_wp2_with fail
  refine (put_any _ xs n w3 hin (by omega) hn).mono ?_
  rintro e w4 ⟨v4, rfl, h4, hB4⟩
  have c0 := (hB4.cell (p := ⟨g, xs.length, none⟩) (World.block_lt_of_cell? w3 _ hc0)).trans hc0
  have c1 := (hB4.cell (p := ⟨g, xs.length + 1, none⟩) (World.block_lt_of_cell? w3 _ hc1)).trans hc1
  have i4 := hin.below hB4
  have b4 := hvb.below hB4
  have hB4' := bel_of hB3' hB4
  clear hB3' hB4 hc0 hc1 hin hvb
  go_wp2_with fail
  refine (putInt_any _ xs i w4 i4 (by omega) HI.out.1 HI.out.2).mono ?_
  rintro e w5 ⟨v5, rfl, h5, hB5⟩
  have hK : Keep w5 v4 v5 (.slice (some ⟨g, 0, none⟩) xs.length cap) (.slice a0 xs.length cap0) (xs ++ Leb.enc n) (xs ++ Leb.enc (Leb.zig i)) xs g xs.length :=
    ⟨h4.below hB5, h5, i4.below hB5, b4.below hB5, (hB5.cell (p := ⟨g, xs.length, none⟩) (World.block_lt_of_cell? w4 _ c0)).trans c0, (hB5.cell (p := ⟨g, xs.length + 1, none⟩) (World.block_lt_of_cell? w4 _ c1)).trans c1⟩
  have hB5' := bel_of hB4' hB5
  clear h4 h5 i4 b4 c0 c1 hB4' hB5
  have hfz : Leb.Fits (Leb.zig i) := Leb.zig_lt HI.out.1 HI.out.2
  have HX : Hid (∀ x ∈ xs ++ Leb.enc n, 0 ≤ x ∧ x < 256) := by
    intro x hx
    rcases List.mem_append.1 hx with h | h
    · exact hb0.out x h
    · exact Leb.enc_byte _ x h
  have HY : Hid (∀ x ∈ xs ++ Leb.enc (Leb.zig i), 0 ≤ x ∧ x < 256) := by
    intro x hx
    rcases List.mem_append.1 hx with h | h
    · exact hb0.out x h
    · exact Leb.enc_byte _ x h
  have P1 := fun w hv => refPut_any (.slice a0 xs.length cap0) xs n w hv (by omega) hn
  have P2 := fun w hv => refPut_any (.slice a0 xs.length cap0) xs (Leb.zig i) w hv (by omega) hfz
  have P3 := fun w => refZig_any i w HI.out.1 HI.out.2
  have e1 : ((strOfNums (xs ++ Leb.enc n)).toList == (strOfNums (xs ++ Leb.enc n)).toList) = true := by simp
  have e2 : ((strOfNums (xs ++ Leb.enc (Leb.zig i))).toList == (strOfNums (xs ++ Leb.enc (Leb.zig i))).toList) = true := by simp
  have e3 : ((strOfNums xs).toList == (strOfNums xs).toList) = true := by simp
  generalize xs ++ Leb.enc n = X at *
  generalize xs ++ Leb.enc (Leb.zig i) = Y at *
  generalize Leb.zig i = z at *
  have H1 := hide P1
  have H2 := hide P2
  have H3 := hide P3
  clear P1 P2 P3 hi hz0 hz1 hz2 e1 e2 e3 HI hn hfz
  have hKd := hK.drew
  have hBd := hB5'.drew
  clear hK hB5'
  go_wp2_with fail
  go_region_held (fun W => Keep W v4 v5 (.slice (some ⟨g, 0, none⟩) xs.length cap) (.slice a0 xs.length cap0) X Y xs g xs.length ∧ Below w.heap.size w W ∧ (convert 22 9 v4).run Try.prog W = .ok (.string (strOfNums X)) W ∧
      (convert 22 9 v5).run Try.prog W = .ok (.string (strOfNums Y)) W ∧ (convert 22 9 (.slice (some ⟨g, 0, none⟩) xs.length cap)).run Try.prog W = .ok (.string (strOfNums xs)) W ∧
      (convert 22 9 (.slice a0 xs.length cap0)).run Try.prog W = .ok (.string (strOfNums xs)) W ∧ W.cell? ⟨g, xs.length, none⟩ = some (.int .u8 7) ∧ W.cell? ⟨g, xs.length + 1, none⟩ = some (.int .u8 7))
    (first | assumption | exact Keep.held hK8 hBb8 | exact Keep.held hK6 hBb6 | exact Keep.held hKd hBd)
    (first
      | (go_at_call_of 12 (Value.int IntKind.u64 (n : Int)); refine (H1.out _ hKd.b).mono ?_; rintro e w6 ⟨v6, rfl, h6, hB6⟩; have hK6 := hKd.below hB6; have hBb6 := bel_of hBd hB6; have k6 := str_conv h6; clear hB6)
      | (go_at_call 13; refine (H3.out _).mono ?_; rintro e w7 ⟨rfl, rfl⟩)
      | (go_at_call_of 12 (Value.int IntKind.u64 (z : Int)); refine (H2.out _ hK6.b).mono ?_; rintro e w8 ⟨v8, rfl, h8, hB8⟩; have hK8 := hK6.below hB8; have hBb8 := bel_of hBb6 hB8; have k8 := str_conv h8; clear hB8))
  all_goals
    go_wp2
    go_ret
    exact ⟨rfl, by assumption⟩

theorem walk (a0 : Option Addr) (len0 cap0 : Nat) (z0 : List Int) (a1 : Int) (a2 : Int) (w : World) (w0 : IsRow .u8 w a0 len0 cap0 z0) (w1 : (Lit.int .u64 a1).wf = true) (w2 : (Lit.int .i64 a2).wf = true) :
    Calls Try.prog 3 #[.slice a0 len0 cap0, .int .u64 a1, .int .i64 a2] w fun e w' => e = .returned (.bool true) ∧ Below w.heap.size w w' := by
  obtain ⟨hlen, hv⟩ := Byt.of_row w0
  obtain ⟨n, rfl, hn⟩ := nat_of_wf w1
  have b2 := bounds_i64 w2
  clear w0 w1 w2
  generalize z0.take len0 = xs at *
  subst hlen
  by_cases h30 : 1000 < xs.length
  · clear hv b2
    go_enter Try.func3, Try.ntmps3
    go_wp2_with fail
    refine (awake_any _).mono ?_
    rintro e w1 ⟨rfl, hB1⟩
    go_wp2_with fail
    go_ret
    exact ⟨rfl, hB1⟩
  · exact walk_few a0 cap0 xs n a2 w hv (by omega) hn b2.1 b2.2

/-! ### THE ROW's STEP: WRITTEN OUT: LEAVE IT -/
set_option maxRecDepth 100000 in
theorem lifted (os : Os) (started : os.Started) (H : Type) (enc : TypeId × Value → H) :
    ReturnsInHanded {} Try.checked os 3 .any (Rows.lebPutsSpec.pre6 enc Try.prog Try.f3 Rows.lebPutsRow.domain false) (Rows.lebPutsSpec.post enc Try.prog Try.f3 false true false false) := by
  refine returnsInHanded_of_change (C := Try.checked) own started (by kernel_rfl) Try.func3
    (ChangeSpec.witness6 (enc := enc) (C := Try.checked) false ⟨#[], #[.slice none 0 0, .int .u64 0, .int .i64 0], []⟩ 8 (by kernel_rfl) (by kernel_rfl) (by kernel_rfl) (by kernel_rfl)) ?_
  intro W base args ds gs before hval0 hW hcnd _
  have hval : ∀ (j : Nat) t v, Try.f3.params[j]? = some t → args[j]? = some v → Value.okWide Try.prog W .any base t v := hval0
  have hW' := hW
  obtain ⟨p, q, hA0, hV, rfl, hfz, hnd⟩ := hW
  have hA : DataW.TrodAll enc Try.prog W 0 (fun _ => true) true Try.f3.params.toList args.toList ds p := hA0
  rw [Try.params3] at hA hval
  obtain ⟨v0, vs0, d0, ds0, p0, q0, hargs, rfl, rfl, h0, r0⟩ := trodAll_cons hA
  obtain ⟨v1, vs1, d1, ds1, p1, q1, rfl, rfl, rfl, h1, r1⟩ := trodAll_cons r0
  obtain ⟨v2, vs2, d2, ds2, p2, q2, rfl, rfl, rfl, h2, r2⟩ := trodAll_cons r1
  obtain ⟨rfl, rfl, rfl⟩ := trodAll_nil r2
  obtain rfl : args = #[v0, v1, v2] := by cases args; simp_all
  obtain ⟨rfl, rfl⟩ := trodVars_none hV
  obtain ⟨a0, len0, cap0, rfl⟩ := okWide_slice Try.underlying22 (hval 0 22 v0 rfl rfl)
  have k0 := h0
  have lt0 : ∀ x ∈ p0, x.block < W.heap.size := by obtain ⟨m, hm⟩ := k0; exact DataW.trod_lt m _ _ _ hm
  obtain ⟨z0, w0⟩ : ∃ zs, IsRow .u8 W a0 len0 cap0 zs := by
    obtain ⟨fuel, hf⟩ := h0
    rcases open_ints Try.underlying22 Try.underlying5 (by kernel_rfl) hf with ⟨hcs, _⟩ | ⟨x, l, c, zs, hcs, _, hl, hm, hz, _, hcell, hwz⟩
    · simp [Value.cells] at hcs
      obtain ⟨rfl, rfl, rfl⟩ := hcs
      exact ⟨[], .inl ⟨rfl, rfl, rfl, rfl⟩⟩
    · simp [Value.cells] at hcs
      obtain ⟨rfl, rfl, rfl⟩ := hcs
      exact ⟨zs, .inr ⟨_, rfl, hl, hm, by simpa using hz, hcell, hwz⟩⟩
  obtain ⟨a1, rfl, rfl, rfl, w1⟩ := open_int Try.underlying23 (hval 1 23 v1 rfl rfl) h1
  obtain ⟨a2, rfl, rfl, rfl, w2⟩ := open_int Try.underlying2 (hval 2 2 v2 rfl rfl) h2
  clear hA0 hval0
  refine (walk a0 len0 cap0 z0 a1 a2 W w0 w1 w2).mono fun e W' ⟨he, bel⟩ => ?_
  subst he
  exact ⟨_, rfl, _, _, _, [], _, [], hW', trodAll_mk1 (shut_bool Try.underlying4 _), (trodAll_cons_mk (Below.trod laidOut (by kernel_rfl) (of_decide_eq_true (by kernel_rfl)) k0 bel lt0) (trodAll_cons_mk (shut_int Try.underlying23 w1) (trodAll_cons_mk (shut_int Try.underlying2 w2) trodAll_mk0))), rfl, bel.frame _, fun h => by cases h⟩

theorem over : Rows.lebPutsRow.holds Try.pinned (OpenSpec.ofChange Rows.lebPutsSpec) :=
  OpenClaim.holds_of_wide 3 Try.f3 rfl rfl rfl rfl rfl rfl rfl ⟨rfl, rfl, rfl, rfl, rfl⟩ rfl rfl rfl rfl rfl (by kernel_rfl) Try.func3 (by kernel_rfl)
    (of_decide_eq_true (by kernel_rfl)) (by unfold Func.isWrapper; first | (rw [if_pos (by decide +kernel)]; kernel_rfl) | (rw [if_neg (by decide +kernel)]; exact ⟨rfl, rfl⟩))
    (fun os started H enc _ => lifted os started H enc)

end Go.Proofs.Ytocjongjgbccnaa.lebPuts
namespace Go.Proofs.Ytocjongjgbccnaa
theorem lebPuts_holds : Rows.LebPutsSaid := lebPuts.over
#print axioms lebPuts_holds
end Go.Proofs.Ytocjongjgbccnaa
