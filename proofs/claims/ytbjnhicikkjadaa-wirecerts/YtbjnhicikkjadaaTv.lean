/- Turned by contract: bytes again, no more of them. -/
import Derived.Test.YtbjnhicikkjadaaTu
import Derived.Deep.Cut
import Derived.OpenShut
import Derived.Deep.RegionHeld3
namespace Go.Proofs.Ytbjnhicikkjadaa
open Go.RowKit Ir

theorem cut_kT (cut : Int) (n : Nat) (h : 0 < n) (hn : n ≤ 1000000000) : ∃ k : Nat, k < n ∧ IntKind.u64.wrap (n : Int) = (n : Int) ∧ wrap64 ((IntKind.u64.wrap cut).tmod (n : Int)) = (k : Int) := by
  have h1 : 0 ≤ IntKind.u64.wrap cut := by rw [IntKind.wrap_u64]; omega
  have h2 := Int.emod_nonneg (IntKind.u64.wrap cut) (b := (n : Int)) (by omega)
  have h3 := Int.emod_lt_of_pos (IntKind.u64.wrap cut) (b := (n : Int)) (by omega)
  refine ⟨((IntKind.u64.wrap cut) % (n : Int)).toNat, by omega, by rw [IntKind.wrap_u64]; omega, ?_⟩
  rw [Int.tmod_eq_emod_of_nonneg h1]
  generalize (IntKind.u64.wrap cut) % (n : Int) = y at *
  unfold wrap64
  omega
theorem byt_cell {w : World} {a : Option Addr} {n c : Nat} {xs : List Int} (h : Lb.Byt w (.slice a n c) xs) : n = xs.length ∧ ∀ j, j < xs.length → ∃ b off, a = some ⟨b, off, none⟩ ∧ w.cell? ⟨b, off + j, none⟩ = some (.int .u8 (xs.getD j 0)) ∧ 0 ≤ xs.getD j 0 ∧ xs.getD j 0 < 256 := by
  obtain ⟨b, h0, ao, c', e, h2, h3, h4, h5⟩ := h
  simp only [Value.slice.injEq] at e
  obtain ⟨rfl, rfl, rfl⟩ := e
  refine ⟨rfl, fun j hj => ?_⟩
  obtain ⟨off, e, hc⟩ := h5 (by omega)
  have h6 := h0 xs[j] (List.getElem_mem hj)
  exact ⟨b, off, e, hc j hj, by simpa [List.getD_eq_getElem?_getD, List.getElem?_eq_getElem hj] using h6⟩
set_option maxHeartbeats 4000000 in
set_option maxRecDepth 100000 in
theorem turned_any (v av bv : Value) (xs ns bs : List Int) (w : World) (hv : Lb.Byt w v xs) (ha : IntsV w av ns) (hb : Lb.Byt w bv bs) (hx : xs.length ≤ 1000000000) :
    Calls Try.prog 20 #[v, av, bv] w fun e w' => ∃ u zs, e = .returned u ∧ Lb.Byt w' u zs ∧ zs.length ≤ xs.length ∧ Below w.heap.size w w' := by
  have hb0 : Hid (∀ x ∈ xs, 0 ≤ x ∧ x < 256) := by obtain ⟨_, h, _⟩ := hv; exact h
  obtain ⟨ao, xn, xc, rfl⟩ := bysnd _ _ _ hv
  obtain ⟨aa, ac, rfl⟩ := ha.slice
  obtain ⟨ba, bn, bc, rfl⟩ := bysnd _ _ _ hb
  have HA := hide ha
  have HB := hide hb
  have Hbn := hide (byt_cell hb).1
  obtain ⟨i0, hi, hz0, hz1, hz2⟩ := info_parts Lb.info5
  have hE := Lb.owns_empty w w.heap.size (Nat.le_refl _)
  have hBE := (Below.refl w.heap.size w).alloc (Nat.le_refl _) (.cells #[] 5)
  clear ha hb
  go_enter Try.func20, Try.ntmps20
  go_wp2_with (at_builtin; go_must (refine Lb.wpList_append_byt _ rfl (.tmp 10) (.tmp 11) 25 rfl w.heap.size i0 Try.underlying25 hi hz0 hz1 hz2 _ _ _ rfl hE _ xs rfl (hv.below hBE) (by omega) (by simp) ?_))
  intro v2 w2 hown hg2
  have hT : Hid (Tw w.heap.size w2 v2 xs) := Tw.of_owns hb0.out (owns_cast hown (by simp) (by simp))
  have HB2 : Hid (Below w.heap.size w w2) := hBE.grown hg2 (by simp) (fun k hk => (hE.lt k hk).1)
  clear hown hg2 hE hBE hi hz0 hz1 hz2 hv
  go_wp2_with fail
  go_loopw [7, 8, 9] (fun ov iv _ wr => ∃ (i : Nat) (zs : List Int), i ≤ 4 ∧ iv = .int .i64 i ∧ Tw w.heap.size wr ov zs ∧ zs.length ≤ xs.length ∧ Below w.heap.size w wr) (fun _ iv _ _ => 4 - (intOf iv).toNat)
  case atStart => exact ⟨0, xs, by omega, rfl, hT.out, Nat.le_refl _, HB2.out⟩
  case round =>
    rename World => ws
    obtain ⟨i, zs, hi4, rfl, hTw, hzl, hBw⟩ := hrel
    obtain ⟨za, zn, zc, hz⟩ := bysnd _ _ _ hTw.byt
    subst hz
    have Hzn := hide (byt_cell hTw.byt).1
    have HT := hide hTw
    have HBW := hide hBw
    clear hTw hBw
    by_cases h1 : i < ns.length
    · by_cases h2 : i < bn
      · by_cases h3 : i < 4
        · by_cases h4 : 0 < zn
          · have g1 : (i : Int) < (ns.length : Int) := by omega
            have g2 : (i : Int) < (bn : Int) := by omega
            have g3 : (i : Int) < 4 := by omega
            have g4 : (0 : Int) < (zn : Int) := by omega
            have g5 : (0 : Int) ≤ (i : Int) := by omega
            obtain ⟨ab, aoff, rfl, hac⟩ := (HA.out.below HBW.out).at i h1
            obtain ⟨bb, boff, rfl, hbc, hy0, hy1⟩ := (byt_cell (HB.out.below HBW.out)).2 i (by have := Hbn.out; omega)
            obtain ⟨k, hk, e1, e2⟩ := cut_kT (ns.getD i 0) zn h4 (by have := Hzn.out; omega)
            have e3 : ((zn : Int) == 0) = false := by simp; omega
            have e6 : ¬ zn = 0 := by omega
            have e7 : ¬ (zn : Int) = 0 := by omega
            have e8 : (zn == 0) = false := by simp; omega
            generalize bs.getD i 0 = Y at *
            generalize ns.getD i 0 = A at *
            have tY : Y.tmod 9 = Y % 9 := Int.tmod_eq_emod_of_nonneg hy0
            by_cases hy : Y % 9 = 8
            · obtain ⟨hz0, ⟨hzv, hznil⟩ | ⟨g, cap, cur, hzv, hBg, hg, hzc, hcm, h3⟩⟩ := HT.out
              · have := Hzn.out
                rw [hznil] at this
                simp at this
                omega
              simp only [Value.slice.injEq] at hzv
              obtain ⟨rfl, hzn', rfl⟩ := hzv
              have Hg := hide (And.intro hz0 (And.intro hBg (And.intro hg h3)))
              have Hk := hide (And.intro hk (And.intro hzn' e2))
              clear hzn' hz0 hBg hg h3 hi4
              go_upto_region 7 with fail
              rw [e2]
              have f1 : (0 : Int) ≤ (k : Int) := by omega
              have f2 : (k : Int) ≤ (zc : Int) := by have := Hk.out.2.1; omega
              have f3 : IntKind.i64.wrap ((k : Int) + 1) = ((k + 1 : Nat) : Int) := by rw [IntKind.wrap_i64]; have := Hzn.out; omega
              obtain ⟨ad, tm, tc, had, htm, hrun⟩ := tail_run (g := g) (cap := zc) hk (by have := Hk.out.2.1; omega)
              generalize ((k + 1 : Nat) : Int) = K1 at f3 hrun
              have Had := hide (And.intro had htm)
              have f4 : wrap64 ((k : Int) + 1) = K1 := by rw [← f3]; exact (IntWalk.i64_left _).symm
              clear had htm
              clear hk e1 e2 e3 e6 e7 e8 hzc hcm tY hy hy0 hy1
              go_region_held3 (fun _ => True) (trivial)
                (first
                  | (refine step_cutout rfl (.tmp 53) (.tmp 57) rfl rfl rfl Had.out.1 Hg.out.1 Hg.out.2.2.1 (by have := Hk.out.2.1; omega) Hg.out.2.2.2 (by have := Hk.out.2.1; have := Had.out.2; omega) Hg.out.2.1 (HBW.out.size) ?_; intro v7 w7 hT7 hB7))
              have HB7 := hide (HBW.out.drew.trans (hB7.mono HBW.out.size))
              have HT7 := hide hT7
              clear hT7 hB7
              go_wp2_with fail
              go_roundw
              case rel => exact ⟨i + 1, _, by omega, by first | go_num | (simp; omega), HT7.out, by have := Hk.out.2.1; have := Had.out.2; simp; omega, HB7.out⟩
              case measure => simp [intOf]; omega
            · obtain ⟨hz0, ⟨hzv, hznil⟩ | ⟨g, cap, cur, hzv, hBg, hg, hzc, hcm, h3⟩⟩ := HT.out
              · have := Hzn.out
                rw [hznil] at this
                simp at this
                omega
              simp only [Value.slice.injEq] at hzv
              obtain ⟨rfl, hzn', rfl⟩ := hzv
              have c0 : ws.cell? ⟨g, k, none⟩ = some (.int .u8 (zs.getD k 0)) := by rw [cell_of_row _ _ _ _ _ _ hg]; exact h3 k (by omega)
              have d0 : ws.frozen? ⟨g, k, none⟩ = false := frozen_of_row _ _ _ _ _ hg
              have Hset := hide (fun x (hx : 0 ≤ x ∧ x < 256) => Tw.set (x := x) (k := k) hz0 hBg hg hzc hcm h3 (by omega) hx)
              have Hset2 := hide (fun x => (HBW.out.setCell (p := ⟨g, k, none⟩) hBg x))
              have Hk := hide (And.intro hk (And.intro hzn' e2))
              have b1 : (0 : Int) ≤ (k : Int) := by omega
              have b2 : (k : Int) < (zn : Int) := by omega
              have b3 : 0 ≤ Y % 9 ∧ Y % 9 < 9 := by omega
              clear hzn' hz0 hBg hg h3 hzc hcm
              generalize zs.getD k 0 = Z at *
              go_upto_region 8 with fail
              rw [e2]
              clear e1 e2 e3 e6 e7 e8 hk
              go_region
              have hX : 0 ≤ bits BinOp.xor IntKind.u8 Z (2 ^ (Y % 9).toNat % 256) ∧ bits BinOp.xor IntKind.u8 Z (2 ^ (Y % 9).toNat % 256) < 256 := by
                have h := wf_bits .xor .u8 Z (2 ^ (Y % 9).toNat % 256)
                generalize bits BinOp.xor IntKind.u8 Z (2 ^ (Y % 9).toNat % 256) = q at *
                simp [Lit.wf, IntKind.min, IntKind.max, IntKind.signed, IntKind.bits] at h
                omega
              generalize bits BinOp.xor IntKind.u8 Z (2 ^ (Y % 9).toNat % 256) = q at *
              have HT8 := hide ((Hset.out q hX).below (Below.refl _ _).drew)
              have HB8 := hide (Hset2.out (.int .u8 q)).drew
              clear hX
              have Hv : Hid (zs.length = zn) := hide Hk.out.2.1.symm
              rw [Hv.out] at HT8
              go_wp2_with fail
              go_roundw
              case rel => exact ⟨i + 1, _, by omega, by first | go_num | (simp; omega), HT8.out, by simp; omega, HB8.out⟩
              case measure => simp [intOf]; omega
          · obtain rfl : zn = 0 := by omega
            have g1 : (i : Int) < (ns.length : Int) := by omega
            have g2 : (i : Int) < (bn : Int) := by omega
            have g3 : (i : Int) < 4 := by omega
            go_wp2_with fail
            go_ret
            first | exact ⟨_, zs, rfl, HT.out.byt, hzl, HBW.out⟩ | exact ⟨zs, rfl, HT.out.byt, hzl, HBW.out⟩ | exact ⟨_, rfl, zs, HT.out.byt, hzl, HBW.out⟩
        · have g1 : (i : Int) < (ns.length : Int) := by omega
          have g2 : (i : Int) < (bn : Int) := by omega
          have g3 : ¬ (i : Int) < 4 := by omega
          go_wp2_with fail
          go_ret
          first | exact ⟨_, zs, rfl, HT.out.byt, hzl, HBW.out⟩ | exact ⟨zs, rfl, HT.out.byt, hzl, HBW.out⟩ | exact ⟨_, rfl, zs, HT.out.byt, hzl, HBW.out⟩
      · have g1 : (i : Int) < (ns.length : Int) := by omega
        have g2 : ¬ (i : Int) < (bn : Int) := by omega
        go_wp2_with fail
        go_ret
        first | exact ⟨_, zs, rfl, HT.out.byt, hzl, HBW.out⟩ | exact ⟨zs, rfl, HT.out.byt, hzl, HBW.out⟩ | exact ⟨_, rfl, zs, HT.out.byt, hzl, HBW.out⟩
    · have g1 : ¬ (i : Int) < (ns.length : Int) := by omega
      go_wp2_with fail
      go_ret
      first | exact ⟨_, zs, rfl, HT.out.byt, hzl, HBW.out⟩ | exact ⟨zs, rfl, HT.out.byt, hzl, HBW.out⟩ | exact ⟨_, rfl, zs, HT.out.byt, hzl, HBW.out⟩
end Go.Proofs.Ytbjnhicikkjadaa
