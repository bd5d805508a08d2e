/- FrameRows: P3.2: frames one behind the other, with bytes turned, and any behind. -/
import Derived.Test.YtlonniegaaocoaaRows
import Derived.WalkKit
import Derived.ProofKit
import Derived.OpenShut
import Derived.ShutString
import Derived.ChangeOld
import Derived.Below
import Derived.Test.YtlonniegaaocoaaAwake
import Derived.Test.YtlonniegaaocoaaSame
import Derived.Test.YtlonniegaaocoaaOpen
import Derived.BigRegion
namespace Go.Proofs.Ytlonniegaaocoaa.frameRows
open Go.ChangeShapes Go.WideShapes Go.ChangeAt Go.RowKit
open Go.ChangeMaps (open_string shut_string)
set_option linter.unusedVariables false

theorem own : ownKnob Try.prog.godebug = none := by kernel_rfl
theorem laidOut : laidOutB Try.prog = true := by kernel_rfl

theorem lays_len {fs : List (Int × List Int)} {m : Nat} (h : ∀ f ∈ fs, f.2.length ≤ m) (hm : m ≤ 65536) : (Frm.lays fs).length ≤ (20 + m) * fs.length := by
  induction fs with
  | nil => simp [Frm.lays]
  | cons f fs ih =>
    have h1 := ih (fun g hg => h g (by simp [hg]))
    have h2 := h f (by simp)
    have h3 := Frm.lay_more (k := f.1) (xs := f.2) (by omega)
    have e : Frm.lays (f :: fs) = Frm.lay f.1 f.2 ++ Frm.lays fs := by simp [Frm.lays]
    rw [e, List.length_append, List.length_cons, Nat.mul_add]
    omega
theorem lays_bts {fs : List (Int × List Int)} (h : ∀ f ∈ fs, 0 ≤ f.1 ∧ f.1 < 256 ∧ Frm.Bts f.2) : Frm.Bts (Frm.lays fs) := by
  intro x hx
  obtain ⟨f, hf, hx⟩ := List.mem_flatMap.1 hx
  obtain ⟨h1, h2, h3⟩ := h f hf
  exact Frm.lay_bts h1 h2 h3 x hx
theorem lays_ge (fs : List (Int × List Int)) : fs.length ≤ (Frm.lays fs).length := by
  induction fs with
  | nil => simp
  | cons f fs ih =>
    have e : Frm.lays (f :: fs) = Frm.lay f.1 f.2 ++ Frm.lays fs := by simp [Frm.lays]
    have := Frm.lay_pos f.1 f.2
    rw [e, List.length_append, List.length_cons]
    omega
/-- A byte with bits turned is a byte. -/
theorem turn_any (c : Int) (h0 : 0 ≤ c) (h1 : c < 256) (j : Nat) : 0 ≤ bits .xor .u8 c (2 ^ j % 256) ∧ bits .xor .u8 c (2 ^ j % 256) < 256 := by
  obtain ⟨d, rfl⟩ := Int.eq_ofNat_of_zero_le h0
  have e : (2 ^ j % 256 : Int) = ((2 ^ j % 256 : Nat) : Int) := by
    rw [show ((2 : Int) ^ j) = ((2 ^ j : Nat) : Int) from by simp]
    generalize 2 ^ j = p
    omega
  have hp : 2 ^ j % 256 < 256 := Nat.mod_lt _ (by omega)
  have hx : d ^^^ (2 ^ j % 256) < 256 := Nat.xor_lt_two_pow (n := 8) (by omega) hp
  rw [e, u8_xor_nat _ _ (by omega) hp]
  omega
theorem take_all {fs : List (Int × List Int)} {i : Nat} {Q : Int × List Int → Prop} (hi : i < fs.length) (h : ∀ f ∈ fs.take i, Q f) (hq : Q (fs.getD i (0, []))) : ∀ f ∈ fs.take (i + 1), Q f := by
  intro f hf
  rw [List.take_succ_eq_append_getElem hi] at hf
  rcases List.mem_append.1 hf with h1 | h1
  · exact h f h1
  · simp at h1
    rw [h1]
    simpa [List.getElem?_eq_getElem hi] using hq
theorem place_nat (a : Int) (L : Nat) (h0 : 0 < L) (h1 : L ≤ 1000000) : ∃ k : Nat, k < L ∧ wrap64 ((IntKind.u64.wrap a).tmod (L : Int)) = (k : Int) := by
  have hp : 0 ≤ IntKind.u64.wrap a := by rw [IntKind.wrap_u64]; omega
  have e : (IntKind.u64.wrap a).tmod (L : Int) = (IntKind.u64.wrap a) % (L : Int) := Int.tmod_eq_emod_of_nonneg hp
  have l1 := Int.emod_nonneg (IntKind.u64.wrap a) (show (L : Int) ≠ 0 by omega)
  have l2 := Int.emod_lt_of_pos (IntKind.u64.wrap a) (show 0 < (L : Int) by omega)
  rw [e]
  generalize (IntKind.u64.wrap a) % (L : Int) = r at *
  refine ⟨r.toNat, by omega, ?_⟩
  simp only [wrap64]
  omega

set_option maxHeartbeats 2000000 in
set_option maxRecDepth 100000 in
theorem rows_few (al : Option Addr) (cl : Nat) (fs : List (Int × List Int)) (aa : Option Addr) (ca : Nat) (ns : List Int) (ab : Option Addr) (cb : Nat) (bs : List Int) (am : Option Addr) (cm : Nat) (ms : List Int) (w : World)
    (hf : Frames w (.slice al fs.length cl) fs) (ha : Ints .i64 w aa ns) (haw : ∀ n ∈ ns, (Lit.int .i64 n).wf = true) (hb : Byt w (.slice ab bs.length cb) bs) (hm : Byt w (.slice am ms.length cm) ms)
    (hl : fs.length ≤ 20) (hml : ms.length ≤ 1000) :
    Calls Try.prog 5 #[.slice al fs.length cl, .slice aa ns.length ca, .slice ab bs.length cb, .slice am ms.length cm] w fun e w' => e = .returned (.bool true) ∧ Below w.heap.size w w' := by
  obtain ⟨i0, hi0, hz0, hz1, hz2⟩ := info_parts info5
  have HF := hide hf
  have HA := hide ha
  have HAW := hide haw
  have HB := hide hb
  have HM := hide hm
  clear hf ha haw hb hm
  go_enter Try.func5, Try.ntmps5
  go_wp2_with fail
  refine (awake_any _).mono ?_
  rintro e w1 ⟨rfl, hB1⟩
  go_wp2_with fail
  go_loopw [9, 11, 29] (fun xv _ iv wr => ∃ (i : Nat) (F : List Int), i ≤ fs.length ∧ iv = .int .i64 i ∧ Hid (F = Frm.lays (fs.take i)) ∧ Hid (∀ f ∈ fs.take i, f.2.length ≤ 500 ∧ 0 ≤ f.1 ∧ f.1 < 256 ∧ Frm.Bts f.2) ∧
      wr.ownsRow w.heap.size 5 1 xv F.length (F.map (Value.int .u8)) ∧ Below w.heap.size w wr) (fun _ _ iv _ => fs.length - (intOf iv).toNat)
  case atStart => exact ⟨0, [], by omega, rfl, rfl, by intro f hf; simp at hf, World.ownsRow_nil _ _ _ _, hB1⟩
  case round =>
    obtain ⟨i, F, hi, rfl, HFi, hall, hown, hBr⟩ := hrel
    have hFl : F.length ≤ 10400 := by
      rw [HFi.out]
      have := lays_len (m := 500) (fun f hf => (hall.out f hf).1) (by omega)
      have h2 : (fs.take i).length ≤ 20 := by simp; omega
      omega
    by_cases hlt : i < fs.length
    · obtain ⟨b, off, rfl, ⟨c0, hk0, hk1, u, c1, hu⟩⟩ := (HF.out.below hBr).at i hlt
      have HT := hide (Frm.lays_take hlt)
      have hA := take_all (Q := fun f => f.2.length ≤ 500 ∧ 0 ≤ f.1 ∧ f.1 < 256 ∧ Frm.Bts f.2) hlt hall.out
      generalize fs.getD i (0, []) = f at *
      obtain ⟨k, xs⟩ := f
      simp only at c0 hk0 hk1 hu HT hA
      have HAl := hide hA
      clear hA
      obtain ⟨au, cu, rfl⟩ := hu.slice
      have hBx := hBr.alloc hBr.size (.cells #[.int .u8 k, .slice au xs.length cu] 38)
      have hBy := (Below.refl wr.heap.size wr).alloc (Nat.le_refl _) (.cells #[.int .u8 k, .slice au xs.length cu] 38)
      have hux := hu.below hBy
      have hox := hown.alloc (.cells #[.int .u8 k, .slice au xs.length cu] 38)
      have hbx : Hid (Frm.Bts xs) := hu.bytes
      by_cases hbig : 500 < xs.length
      · have h5 : (500 : Int) < (xs.length : Int) := by omega
        clear hu hux hown hBr
        go_wp2_with fail
        go_ret
        exact ⟨rfl, hBx⟩
      · have h5 : (xs.length : Int) ≤ 500 := by omega
        have hL := hide (refLay_own k _ xs _ hk0 hk1 hux (by omega))
        clear hu hux hown hBr
        go_wp2_with fail
        refine hL.out.mono ?_
        rintro e w3 ⟨v3, rfl, hO3, hB3⟩
        have hBw3 := bel_of hBx hB3
        have hb3 := Byt.of_owns hO3 (Frm.lay_bts hk0 hk1 hbx.out)
        have ho3 := owns_below hox hB3
        have hlm := Frm.lay_more (k := k) (xs := xs) (by omega)
        have HA2 := hide (HAl.out ⟨by omega, hk0, hk1, hbx.out⟩)
        have hFn : Hid (F ++ Frm.lay k xs = Frm.lays (fs.take (i + 1))) := by show _ = _; rw [HT.out, HFi.out]
        clear HT HAl HFi hall hbx hO3 hB3 hBx hBy hox c0 c1 hL
        generalize Frm.lay k xs = L at *
        go_wp2_with (at_builtin; go_must (refine wpList_append_byt _ rfl (.tmp 37) (.tmp 42) 22 rfl w.heap.size i0 Try.underlying22 hi0 hz0 hz1 hz2 _ _ _ rfl ho3 _ _ rfl hb3 (by omega) hBw3.size ?_))
        intro v4 w4 hO4 hg4
        have hB4 := hBw3.grown hg4 hBw3.size (fun k hk => (ho3.lt k hk).1)
        have hO4' : w4.ownsRow w.heap.size 5 1 v4 (F ++ L).length ((F ++ L).map (Value.int .u8)) := owns_cast hO4 (by simp) (by simp)
        clear hO4 hg4 ho3 hb3 hBw3
        go_wp2_with fail
        go_roundw
        case rel => exact ⟨i + 1, F ++ L, by omega, by go_num, hFn, HA2, hO4', hB4⟩
        case measure => simp [intOf]; omega
    · obtain rfl : i = fs.length := by omega
      have hFb : Hid (Frm.Bts F) := by
        show Frm.Bts F
        rw [HFi.out]
        exact lays_bts (fun f hf => (hall.out f hf).2)
      obtain ⟨ax, cx, rfl⟩ : ∃ ax cx, u9 = .slice ax F.length cx := (Byt.of_owns hown hFb.out).slice
      have hown0 := hide hown
      have hBr0 := hide hBr
      clear HFi hall hown hBr HF
      go_wp2_with fail
      go_loopw [12] (fun iv wr => ∃ (i : Nat) (C : List Int), i ≤ 4 ∧ iv = .int .i64 i ∧ Hid (C.length = F.length) ∧ Hid (Frm.Bts C) ∧ wr.ownsRow w.heap.size 5 1 (.slice ax F.length cx) F.length (C.map (Value.int .u8)) ∧ Below w.heap.size w wr) (fun iv _ => 4 - (intOf iv).toNat)
      case atStart => exact ⟨0, F, by omega, rfl, rfl, hFb, hown0.out, hBr0.out⟩
      case round =>
        obtain ⟨i, C, hi4, rfl, HCl, HCb, hown, hBr⟩ := hrel
        by_cases q1 : i < ns.length
        · by_cases q2 : i < bs.length
          · by_cases q3 : i < 4
            · by_cases q4 : 0 < F.length
              · obtain ⟨ba, oa, rfl, hbal, hca⟩ := HA.out (by omega)
                obtain ⟨bb, ob, rfl, hbbl, hcb⟩ := HB.out.at i q2
                have ca := (hBr.cell (p := ⟨ba, oa + i, none⟩) hbal).trans (hca i q1)
                have cb := (hBr.cell (p := ⟨bb, ob + i, none⟩) hbbl).trans hcb
                have hbb := HB.out.bytes (bs.getD i 0) (by simp [List.getElem?_eq_getElem q2])
                obtain ⟨q, hq, eq⟩ := place_nat (ns.getD i 0) F.length q4 (by omega)
                generalize ns.getD i 0 = an at *
                generalize bs.getD i 0 = bn at *
                obtain ⟨g, rfl, hgb⟩ : ∃ g, ax = some ⟨g, 0, none⟩ ∧ w.heap.size ≤ g := by
                  rcases hown.2 with ⟨_, hn0⟩ | ⟨g, cap, cur, e, hgb, _, hnc, _⟩
                  · omega
                  · simp only [Value.slice.injEq] at e
                    exact ⟨g, e.1, hgb⟩
                have hcl := hown.cellAt q (by omega)
                have hqC : q < C.length := by rw [HCl.out]; exact hq
                rw [List.getElem?_map, List.getElem?_eq_getElem hqC, Option.map_some] at hcl
                have hfz := hown.frozenAt q
                have hst := fun t => (hown.stored q (.int .u8 t)).1.drew
                have hB3 := fun t => (hBr.setCell (p := ⟨g, q, none⟩) hgb (.int .u8 t)).drew
                have hz' : ((F.length : Int) == 0) = false := by simp only [beq_eq_false_iff_ne]; omega
                have HCB : Hid (∀ t, 0 ≤ t ∧ t < 256 → Frm.Bts (C.set q t)) := by
                  intro t ht x hx
                  rcases List.mem_or_eq_of_mem_set hx with h | h
                  · exact HCb.out x h
                  · rw [h]; exact ht
                have hzb := HCb.out C[q] (List.getElem_mem hqC)
                generalize C[q] = z at *
                have HST := hide hst
                have HB3 := hide hB3
                clear hown hBr hst hB3 hca hcb
                go_wp2_with fail
                go_region
                have htb := turn_any z hzb.1 hzb.2 (bn % 9).toNat
                have hst := HST.out (bits .xor .u8 z (2 ^ (bn % 9).toNat % 256))
                have hB3 := HB3.out (bits .xor .u8 z (2 ^ (bn % 9).toNat % 256))
                have HCB2 := hide (HCB.out _ htb)
                rw [← List.map_set] at hst
                have HCl2 : Hid ((C.set q (bits .xor .u8 z (2 ^ (bn % 9).toNat % 256))).length = F.length) := by
                  show _ = _
                  rw [List.length_set]
                  exact HCl.out
                clear htb hzb HCB HST HB3
                generalize bits .xor .u8 z (2 ^ (bn % 9).toNat % 256) = t at *
                go_wp2_with fail
                go_roundw
                case rel => exact ⟨i + 1, _, by omega, by go_num, HCl2, HCB2, hst, hB3⟩
                case measure => simp [intOf]; omega
              · have d1 : (i : Int) < (ns.length : Int) := by omega
                have d2 : (i : Int) < (bs.length : Int) := by omega
                have d3 : (i : Int) < 4 := by omega
                have d4 : (F.length : Int) ≤ 0 := by omega
                have hvm := HM.out.below hBr
                have hmb : Hid (Frm.Bts ms) := HM.out.bytes
                go_wp2_with (at_builtin; go_must (refine wpList_append_byt _ rfl (.tmp 87) (.tmp 88) 22 rfl w.heap.size i0 Try.underlying22 hi0 hz0 hz1 hz2 _ _ _ rfl hown _ _ rfl hvm (by omega) hBr.size ?_))
                intro vx w2 hO2 hg2
                have hB2 := hBr.grown hg2 hBr.size (fun k hk => (hown.lt k hk).1)
                obtain ⟨X, hX⟩ : ∃ X, X = C ++ ms := ⟨_, rfl⟩
                have hXb : Frm.Bts X := by rw [hX]; exact HCb.out.app hmb.out
                have hx2 : Byt w2 vx X := Byt.of_owns (n := F.length + ms.length) (by rw [hX]; simpa using hO2) hXb
                have hXl : X.length ≤ 20000 := by rw [hX, List.length_append, HCl.out]; omega
                have hal : (Frm.al X).length ≤ 1000000000 := by
                  have h1 := lays_ge (Frm.al X)
                  have h2 := Frm.al_laid X hXb
                  omega
                have hA := hide (all_any vx X w2 hx2 (by omega))
                have HX2 := hide hx2
                clear hX hXb hx2 hown hg2 hO2 hBr hvm
                go_wp2_with fail
                refine hA.out.mono ?_
                rintro e w3 ⟨vg, rfl, hG3, hB3⟩
                have hR := hide (refAll_any vx X w3 (HX2.out.below hB3) (by omega))
                have HG3 := hide hG3
                have hBw3 := bel_of hB2 hB3
                clear hA hG3 hB3 hB2
                go_wp2_with fail
                refine hR.out.mono ?_
                rintro e w4 ⟨vh, rfl, hG4, hB4⟩
                have hS := hide (same_any vg vh _ w4 (HG3.out.below hB4) hG4 hal)
                have hBw4 := bel_of hBw3 hB4
                clear hR hG4 hB4 hBw3 HG3
                go_wp2_with fail
                refine hS.out.mono ?_
                rintro e w5 ⟨rfl, hB5⟩
                have hBf := bel_of hBw4 hB5
                clear hS hB5 hBw4
                go_wp2_with fail
                go_ret
                exact ⟨rfl, hBf⟩
            · have d1 : (i : Int) < (ns.length : Int) := by omega
              have d2 : (i : Int) < (bs.length : Int) := by omega
              obtain rfl : i = 4 := by omega
              have hvm := HM.out.below hBr
              have hmb : Hid (Frm.Bts ms) := HM.out.bytes
              go_wp2_with (at_builtin; go_must (refine wpList_append_byt _ rfl (.tmp 87) (.tmp 88) 22 rfl w.heap.size i0 Try.underlying22 hi0 hz0 hz1 hz2 _ _ _ rfl hown _ _ rfl hvm (by omega) hBr.size ?_))
              intro vx w2 hO2 hg2
              have hB2 := hBr.grown hg2 hBr.size (fun k hk => (hown.lt k hk).1)
              obtain ⟨X, hX⟩ : ∃ X, X = C ++ ms := ⟨_, rfl⟩
              have hXb : Frm.Bts X := by rw [hX]; exact HCb.out.app hmb.out
              have hx2 : Byt w2 vx X := Byt.of_owns (n := F.length + ms.length) (by rw [hX]; simpa using hO2) hXb
              have hXl : X.length ≤ 20000 := by rw [hX, List.length_append, HCl.out]; omega
              have hal : (Frm.al X).length ≤ 1000000000 := by
                have h1 := lays_ge (Frm.al X)
                have h2 := Frm.al_laid X hXb
                omega
              have hA := hide (all_any vx X w2 hx2 (by omega))
              have HX2 := hide hx2
              clear hX hXb hx2 hown hg2 hO2 hBr hvm
              go_wp2_with fail
              refine hA.out.mono ?_
              rintro e w3 ⟨vg, rfl, hG3, hB3⟩
              have hR := hide (refAll_any vx X w3 (HX2.out.below hB3) (by omega))
              have HG3 := hide hG3
              have hBw3 := bel_of hB2 hB3
              clear hA hG3 hB3 hB2
              go_wp2_with fail
              refine hR.out.mono ?_
              rintro e w4 ⟨vh, rfl, hG4, hB4⟩
              have hS := hide (same_any vg vh _ w4 (HG3.out.below hB4) hG4 hal)
              have hBw4 := bel_of hBw3 hB4
              clear hR hG4 hB4 hBw3 HG3
              go_wp2_with fail
              refine hS.out.mono ?_
              rintro e w5 ⟨rfl, hB5⟩
              have hBf := bel_of hBw4 hB5
              clear hS hB5 hBw4
              go_wp2_with fail
              go_ret
              exact ⟨rfl, hBf⟩
          · have d1 : (i : Int) < (ns.length : Int) := by omega
            have d2 : (bs.length : Int) ≤ (i : Int) := by omega
            have hvm := HM.out.below hBr
            have hmb : Hid (Frm.Bts ms) := HM.out.bytes
            go_wp2_with (at_builtin; go_must (refine wpList_append_byt _ rfl (.tmp 87) (.tmp 88) 22 rfl w.heap.size i0 Try.underlying22 hi0 hz0 hz1 hz2 _ _ _ rfl hown _ _ rfl hvm (by omega) hBr.size ?_))
            intro vx w2 hO2 hg2
            have hB2 := hBr.grown hg2 hBr.size (fun k hk => (hown.lt k hk).1)
            obtain ⟨X, hX⟩ : ∃ X, X = C ++ ms := ⟨_, rfl⟩
            have hXb : Frm.Bts X := by rw [hX]; exact HCb.out.app hmb.out
            have hx2 : Byt w2 vx X := Byt.of_owns (n := F.length + ms.length) (by rw [hX]; simpa using hO2) hXb
            have hXl : X.length ≤ 20000 := by rw [hX, List.length_append, HCl.out]; omega
            have hal : (Frm.al X).length ≤ 1000000000 := by
              have h1 := lays_ge (Frm.al X)
              have h2 := Frm.al_laid X hXb
              omega
            have hA := hide (all_any vx X w2 hx2 (by omega))
            have HX2 := hide hx2
            clear hX hXb hx2 hown hg2 hO2 hBr hvm
            go_wp2_with fail
            refine hA.out.mono ?_
            rintro e w3 ⟨vg, rfl, hG3, hB3⟩
            have hR := hide (refAll_any vx X w3 (HX2.out.below hB3) (by omega))
            have HG3 := hide hG3
            have hBw3 := bel_of hB2 hB3
            clear hA hG3 hB3 hB2
            go_wp2_with fail
            refine hR.out.mono ?_
            rintro e w4 ⟨vh, rfl, hG4, hB4⟩
            have hS := hide (same_any vg vh _ w4 (HG3.out.below hB4) hG4 hal)
            have hBw4 := bel_of hBw3 hB4
            clear hR hG4 hB4 hBw3 HG3
            go_wp2_with fail
            refine hS.out.mono ?_
            rintro e w5 ⟨rfl, hB5⟩
            have hBf := bel_of hBw4 hB5
            clear hS hB5 hBw4
            go_wp2_with fail
            go_ret
            exact ⟨rfl, hBf⟩
        · have d1 : (ns.length : Int) ≤ (i : Int) := by omega
          have hvm := HM.out.below hBr
          have hmb : Hid (Frm.Bts ms) := HM.out.bytes
          go_wp2_with (at_builtin; go_must (refine wpList_append_byt _ rfl (.tmp 87) (.tmp 88) 22 rfl w.heap.size i0 Try.underlying22 hi0 hz0 hz1 hz2 _ _ _ rfl hown _ _ rfl hvm (by omega) hBr.size ?_))
          intro vx w2 hO2 hg2
          have hB2 := hBr.grown hg2 hBr.size (fun k hk => (hown.lt k hk).1)
          obtain ⟨X, hX⟩ : ∃ X, X = C ++ ms := ⟨_, rfl⟩
          have hXb : Frm.Bts X := by rw [hX]; exact HCb.out.app hmb.out
          have hx2 : Byt w2 vx X := Byt.of_owns (n := F.length + ms.length) (by rw [hX]; simpa using hO2) hXb
          have hXl : X.length ≤ 20000 := by rw [hX, List.length_append, HCl.out]; omega
          have hal : (Frm.al X).length ≤ 1000000000 := by
            have h1 := lays_ge (Frm.al X)
            have h2 := Frm.al_laid X hXb
            omega
          have hA := hide (all_any vx X w2 hx2 (by omega))
          have HX2 := hide hx2
          clear hX hXb hx2 hown hg2 hO2 hBr hvm
          go_wp2_with fail
          refine hA.out.mono ?_
          rintro e w3 ⟨vg, rfl, hG3, hB3⟩
          have hR := hide (refAll_any vx X w3 (HX2.out.below hB3) (by omega))
          have HG3 := hide hG3
          have hBw3 := bel_of hB2 hB3
          clear hA hG3 hB3 hB2
          go_wp2_with fail
          refine hR.out.mono ?_
          rintro e w4 ⟨vh, rfl, hG4, hB4⟩
          have hS := hide (same_any vg vh _ w4 (HG3.out.below hB4) hG4 hal)
          have hBw4 := bel_of hBw3 hB4
          clear hR hG4 hB4 hBw3 HG3
          go_wp2_with fail
          refine hS.out.mono ?_
          rintro e w5 ⟨rfl, hB5⟩
          have hBf := bel_of hBw4 hB5
          clear hS hB5 hBw4
          go_wp2_with fail
          go_ret
          exact ⟨rfl, hBf⟩

set_option maxHeartbeats 1000000 in
set_option maxRecDepth 100000 in
theorem rows_many (al : Option Addr) (cl ll : Nat) (aa : Option Addr) (ca la : Nat) (ab : Option Addr) (cb lb : Nat) (am : Option Addr) (cm lm : Nat) (w : World) (h : 20 < ll ∨ 1000 < lm) :
    Calls Try.prog 5 #[.slice al ll cl, .slice aa la ca, .slice ab lb cb, .slice am lm cm] w fun e w' => e = .returned (.bool true) ∧ Below w.heap.size w w' := by
  have HH := hide h
  clear h
  go_enter Try.func5, Try.ntmps5
  go_wp2_with fail
  refine (awake_any _).mono ?_
  rintro e w2 ⟨rfl, hBw⟩
  by_cases h1 : 20 < ll
  · have h1' : (20 : Int) < (ll : Int) := by omega
    go_wp2_with fail
    go_ret
    exact ⟨rfl, hBw⟩
  · have h1' : (ll : Int) ≤ 20 := by omega
    have h2 : (1000 : Int) < (lm : Int) := by have := HH.out; omega
    go_wp2_with fail
    go_ret
    exact ⟨rfl, hBw⟩

theorem walk {H : Type} {enc : TypeId × Value → H} (W : World) (base : Nat) (v0 v1 v2 v3 : Value) {d0 d1 d2 d3 : DataW H} {p0 p1 p2 p3 : List MemPlace} (o0 : Value.okWide Try.prog W .any base 35 v0) (k0 : DataW.Trod enc Try.prog W 0 (fun _ => true) true 35 v0 d0 p0) (o1 : Value.okWide Try.prog W .any base 36 v1) (k1 : DataW.Trod enc Try.prog W 0 (fun _ => true) true 36 v1 d1 p1) (o2 : Value.okWide Try.prog W .any base 22 v2) (k2 : DataW.Trod enc Try.prog W 0 (fun _ => true) true 22 v2 d2 p2) (o3 : Value.okWide Try.prog W .any base 22 v3) (k3 : DataW.Trod enc Try.prog W 0 (fun _ => true) true 22 v3 d3 p3) :
    Calls Try.prog 5 #[v0, v1, v2, v3] W fun e w' => e = .returned (.bool true) ∧ Below W.heap.size W w' := by
  obtain ⟨fs, hf⟩ := frames_in o0 k0
  obtain ⟨aa, ca, ns, rfl, ha, haw⟩ := ints_in o1 k1
  obtain ⟨bs, hb⟩ := byt_in o2 k2
  obtain ⟨ms, hm⟩ := byt_in o3 k3
  obtain ⟨al, cl, rfl⟩ := hf.slice
  obtain ⟨ab, cb, rfl⟩ := hb.slice
  obtain ⟨am, cm, rfl⟩ := hm.slice
  clear o0 o1 o2 o3 k0 k1 k2 k3
  by_cases hl : fs.length ≤ 20 ∧ ms.length ≤ 1000
  · exact rows_few al cl fs aa ca ns ab cb bs am cm ms W hf ha haw hb hm hl.1 hl.2
  · exact rows_many al cl fs.length aa ca ns.length ab cb bs.length am cm ms.length W (by omega)

set_option maxRecDepth 100000 in
theorem lifted (os : Os) (started : os.Started) (H : Type) (enc : TypeId × Value → H) :
    ReturnsInHanded {} Try.checked os 5 .any (Rows.frameRowsSpec.pre6 enc Try.prog Try.f5 Rows.frameRowsRow.domain false) (Rows.frameRowsSpec.post enc Try.prog Try.f5 false true false false) := by
  refine returnsInHanded_of_change (C := Try.checked) own started (by kernel_rfl) Try.func5
    (ChangeSpec.witness6 (enc := enc) (C := Try.checked) false ⟨#[], #[.slice none 0 0, .slice none 0 0, .slice none 0 0, .slice none 0 0], []⟩ 8 (by kernel_rfl) (by kernel_rfl) (by kernel_rfl) (by kernel_rfl)) ?_
  intro W base args ds gs before hval0 hW hcnd _
  have hval : ∀ (j : Nat) t v, Try.f5.params[j]? = some t → args[j]? = some v → Value.okWide Try.prog W .any base t v := hval0
  have hW' := hW
  obtain ⟨p, q, hA0, hV, rfl, hfz, hnd⟩ := hW
  have hA : DataW.TrodAll enc Try.prog W 0 (fun _ => true) true Try.f5.params.toList args.toList ds p := hA0
  rw [Try.params5] at hA hval
  obtain ⟨v0, vs0, d0, ds0, p0, q0, hargs, rfl, rfl, h0, r0⟩ := trodAll_cons hA
  obtain ⟨v1, vs1, d1, ds1, p1, q1, rfl, rfl, rfl, h1, r1⟩ := trodAll_cons r0
  obtain ⟨v2, vs2, d2, ds2, p2, q2, rfl, rfl, rfl, h2, r2⟩ := trodAll_cons r1
  obtain ⟨v3, vs3, d3, ds3, p3, q3, rfl, rfl, rfl, h3, r3⟩ := trodAll_cons r2
  obtain ⟨rfl, rfl, rfl⟩ := trodAll_nil r3
  obtain rfl : args = #[v0, v1, v2, v3] := by cases args; simp_all
  obtain ⟨rfl, rfl⟩ := trodVars_none hV
  have lt0 : ∀ x ∈ p0, x.block < W.heap.size := by obtain ⟨m, hm⟩ := h0; exact DataW.trod_lt m _ _ _ hm
  have lt1 : ∀ x ∈ p1, x.block < W.heap.size := by obtain ⟨m, hm⟩ := h1; exact DataW.trod_lt m _ _ _ hm
  have lt2 : ∀ x ∈ p2, x.block < W.heap.size := by obtain ⟨m, hm⟩ := h2; exact DataW.trod_lt m _ _ _ hm
  have lt3 : ∀ x ∈ p3, x.block < W.heap.size := by obtain ⟨m, hm⟩ := h3; exact DataW.trod_lt m _ _ _ hm
  refine (walk W base v0 v1 v2 v3 (hval 0 35 v0 rfl rfl) h0 (hval 1 36 v1 rfl rfl) h1 (hval 2 22 v2 rfl rfl) h2 (hval 3 22 v3 rfl rfl) h3).mono fun e W' ⟨he, bel⟩ => ?_
  subst he
  exact ⟨_, rfl, _, _, _, [], _, [], hW', trodAll_mk1 (shut_bool Try.underlying4 _), (trodAll_cons_mk (Below.trod laidOut (by kernel_rfl) (of_decide_eq_true (by kernel_rfl)) h0 bel lt0) (trodAll_cons_mk (Below.trod laidOut (by kernel_rfl) (of_decide_eq_true (by kernel_rfl)) h1 bel lt1) (trodAll_cons_mk (Below.trod laidOut (by kernel_rfl) (of_decide_eq_true (by kernel_rfl)) h2 bel lt2) (trodAll_cons_mk (Below.trod laidOut (by kernel_rfl) (of_decide_eq_true (by kernel_rfl)) h3 bel lt3) trodAll_mk0)))), rfl, bel.frame _, fun h => by cases h⟩

theorem over : Rows.frameRowsRow.holds Try.pinned (OpenSpec.ofChange Rows.frameRowsSpec) :=
  OpenClaim.holds_of_wide 5 Try.f5 rfl rfl rfl rfl rfl rfl rfl ⟨rfl, rfl, rfl, rfl, rfl⟩ rfl rfl rfl rfl rfl (by kernel_rfl) Try.func5 (by kernel_rfl)
    (of_decide_eq_true (by kernel_rfl)) (by unfold Func.isWrapper; first | (rw [if_pos (by decide +kernel)]; kernel_rfl) | (rw [if_neg (by decide +kernel)]; exact ⟨rfl, rfl⟩))
    (fun os started H enc _ => lifted os started H enc)

end Go.Proofs.Ytlonniegaaocoaa.frameRows
namespace Go.Proofs.Ytlonniegaaocoaa
theorem frameRows_holds : Rows.FrameRowsSaid := frameRows.over
#print axioms frameRows_holds
end Go.Proofs.Ytlonniegaaocoaa
