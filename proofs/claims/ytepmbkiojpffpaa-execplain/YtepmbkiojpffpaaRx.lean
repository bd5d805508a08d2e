/- run.Run, by contract. -/
import Derived.Test.YtepmbkiojpffpaaRr
namespace Go.Proofs.Ytepmbkiojpffpaa
open Go.RowKit Ir

namespace Ir
/-- The number of run.Run's error. -/
def runF (F : Fun) (I : Inp) : Int := if (chk F).1 ≠ 0 then 30 else inpF F.p I
/-- run.Run's output. -/
def runO (F : Fun) (I : Inp) : Out := if runF F I = 0 then play F.v F.bs 0 (st0 F.v.toNat 0 I) else out00
end Ir
/-- A function's box and an input's, behind. -/
theorem run_box {w Wo : World} {go : Nat} {a b c d e f g : Value} {P : Prop} (h : Hid (go = ((w.alloc (.cells #[a, b, c] 53)).alloc (.cells #[d, e, f, g] 27)).heap.size ∧ P ∧ Below go ((w.alloc (.cells #[a, b, c] 53)).alloc (.cells #[d, e, f, g] 27)) Wo)) :
    Wo.cell? ⟨w.heap.size, 0, none⟩ = some a ∧ Wo.cell? ⟨w.heap.size, 1, none⟩ = some b ∧ Wo.cell? ⟨w.heap.size, 2, none⟩ = some c ∧ Wo.cell? ⟨w.heap.size + 1, 0, none⟩ = some d ∧ Wo.cell? ⟨w.heap.size + 1, 1, none⟩ = some e ∧ Wo.cell? ⟨w.heap.size + 1, 2, none⟩ = some f ∧ Wo.cell? ⟨w.heap.size + 1, 3, none⟩ = some g ∧ Hid (go = w.heap.size + 2) ∧ Below w.heap.size w Wo := by
  obtain ⟨rfl, _, hB⟩ := h.out
  have h1 : (w.alloc (.cells #[a, b, c] 53)).heap.size = w.heap.size + 1 := by simp
  have hB1 := bel1' (w.alloc (.cells #[a, b, c] 53)) (.cells #[d, e, f, g] 27)
  have hr1 := heap_alloc_new w (.cells #[a, b, c] 53)
  have hr2 := heap_alloc_new (w.alloc (.cells #[a, b, c] 53)) (.cells #[d, e, f, g] 27)
  rw [h1] at hr2
  refine ⟨?_, ?_, ?_, ?_, ?_, ?_, ?_, (show _ = _ by simp), bel_of (bel1' w _) (bel_of hB1 hB)⟩
  all_goals refine cell_below hB ?_
  iterate 3 (refine cell_below hB1 ?_; rw [cell_of_row _ _ _ _ _ _ hr1]; rfl)
  all_goals (rw [cell_of_row _ _ _ _ _ _ hr2]; rfl)

set_option maxHeartbeats 4000000 in
set_option maxRecDepth 100000 in
theorem run_any (F : Fun) (I : Inp) (fv iv : Value) (w : World) (hF : FunV w fv F) (hI : InpV w iv I) :
    Calls Try.prog 18 #[fv, iv] w fun e w' => ∃ x, e = .returned (.tuple #[x, .int .i64 (runF F I)]) ∧ OutO w.heap.size w' x (runO F I) ∧ Below w.heap.size w w' := by
  obtain ⟨u, rfl, hu⟩ := hF
  obtain ⟨ub, cb, rfl⟩ := hu.slice
  have hI' := hI
  obtain ⟨a, b, c, rfl, ha, hm, hc⟩ := hI'
  obtain ⟨aa, ac, rfl⟩ := ha.slice
  obtain ⟨ma, mc, rfl⟩ := hm.slice
  obtain ⟨ca, cc, rfl⟩ := hc.slice
  have hz37 := (zero_of_info zero37).1
  obtain ⟨Z37, hZ37⟩ : ∃ Z, Z = (out0 0).toArray := ⟨_, rfl⟩
  simp only [← hZ37] at hz37
  have HZ37 := hide hz37
  have HZ := hide hZ37
  have hzl : Z37.size = 68 := by rw [hZ37]; simp [out0, outL_len, z64]
  have hzo : ∀ v ∈ Z37.toList, v.oneCell' = true := by rw [hZ37]; simpa [out0] using outL_one (how := 0) (val := 0) (mem := z64) (left := 0) (cv := .slice none 0 0) rfl
  have hbd : ∀ W, (Instr.build 37 #[]).run Try.prog W = .ok (.agg Z37) W := fun W => by rw [hZ37]; exact build37z W
  have HZZ := hide (And.intro hzl (And.intro hzo hbd))
  clear hz37 hZ37 hzl hzo hbd ha hm hc
  go_enter Try.func18, Try.ntmps18
  go_wp2_with (first | (refine wpList_alloc' rfl 37 rfl Z37 HZ37.out ?_; intro go Wo ho; obtain ⟨f0, f1, f2, i0, i1, i2, i3, hgo, hBo⟩ := run_box ho))
  have hgW : go < Wo.heap.size := (Array.getElem?_eq_some_iff.1 ho.out.2.1).1
  have hC := check_any F _ Wo ⟨_, rfl, hu.below hBo⟩
  refine hC.mono ?_
  rintro x W1 ⟨rfl, hB1⟩
  clear hC
  have hr1 : W1.heap[go]? = some (Obj.cells Z37 37 (0, 0)) := (hB1.block go hgW).trans ho.out.2.1
  have hBw := bel_of hBo hB1
  have f0 := cell_below hB1 f0
  have f1 := cell_below hB1 f1
  have f2 := cell_below hB1 f2
  have i0 := cell_below hB1 i0
  have i1 := cell_below hB1 i1
  have i2 := cell_below hB1 i2
  have i3 := cell_below hB1 i3
  have HR1 := hide (And.intro hr1 hBw)
  have hgo2 : w.heap.size ≤ go := by have := hgo.out; omega
  unfold faultV
  have hfd := fun W => run_field50 (chk F).1 (chk F).2.1 (chk F).2.2 W
  clear hr1 hB1 hBo hgW ho
  by_cases hck : (chk F).1 = 0
  · have HRF : Hid (runF F I = inpF F.p I) := by show _ = _; unfold runF; rw [if_neg (by simpa using hck)]
    have hC2 := hide (rcheck_any F.p _ I W1 (hI.below hBw))
    rw [hck] at hfd ⊢
    clear hBw
    go_wp2_with fail
    refine hC2.out.mono ?_
    rintro x W2 ⟨rfl, hB2⟩
    clear hC2
    have hr2 : W2.heap[go]? = some (Obj.cells Z37 37 (0, 0)) := (hB2.block go (Array.getElem?_eq_some_iff.1 HR1.out.1).1).trans HR1.out.1
    have hBw2 := bel_of HR1.out.2 hB2
    have f1 := cell_below hB2 f1
    have f2 := cell_below hB2 f2
    have i0 := cell_below hB2 i0
    have i1 := cell_below hB2 i1
    have i2 := cell_below hB2 i2
    have i3 := cell_below hB2 i3
    by_cases hin : inpF F.p I = 0
    · have hrf : runF F I = 0 := HRF.out.trans hin
      have hsz : sized F = true := (chk_all hck).1
      simp only [sized, decide_eq_true_eq] at hsz
      obtain ⟨vn, hvn⟩ : ∃ vn : Nat, F.v = (vn : Int) := ⟨F.v.toNat, by omega⟩
      have hok := okay_of hck hvn
      rw [← hvn] at hok
      have hrm : rm F.bs 0 = 0 := rm0 fun b hb i hi => okS_of ((hok b hb).2.1 i hi)
      have hO : Hid (runO F I = play F.v F.bs 0 (st0 vn 0 I)) := by show _ = _; unfold runO; rw [if_pos hrf, hvn]; rfl
      have hC3 := hide (do_any _ F.bs F.v 0 0 _ I vn W2 (hu.below hBw2) (hI.below hBw2) hok (by rw [hrm, hvn]; simp) (by omega) (by omega) (by omega))
      have HRF2 := hide hrf
      have HR2 := hide (And.intro hr2 hBw2)
      rw [hin]
      clear hok hrm hrf hsz hin hB2 hr2 hBw2 HR1 hck HRF hvn hfd f0
      go_wp2_with fail
      refine hC3.out.mono ?_
      rintro x W3 ⟨v, rfl, hOut, hB3⟩
      have hr3 : W3.heap[go]? = some (Obj.cells Z37 37 (0, 0)) := (hB3.block go (Array.getElem?_eq_some_iff.1 HR2.out.1).1).trans HR2.out.1
      have hBw3 := bel_of HR2.out.2 hB3
      obtain ⟨cv, gp, rfl, hcalls, hmem⟩ := hOut
      obtain ⟨OL, hOL⟩ : ∃ OL, OL = outL (play F.v F.bs 0 (st0 vn 0 I)).how (play F.v F.bs 0 (st0 vn 0 I)).val cv (play F.v F.bs 0 (st0 vn 0 I)).mem (play F.v F.bs 0 (st0 vn 0 I)).left := ⟨_, rfl⟩
      rw [← hOL]
      have hlen : OL.length = 68 := by rw [hOL]; exact outL_len hmem
      have hone : ∀ v ∈ OL, v.oneCell' = true := by
        rw [hOL]
        obtain ⟨ao, cap, rfl⟩ := hcalls.v.slice
        exact outL_one rfl
      have HF := hide (And.intro hlen (And.intro hone (And.intro hr3 hBw3)))
      have HO := hide (And.intro hOL (And.intro hcalls hmem))
      clear hlen hone hr3 hBw3 hOL hcalls hmem hB3 hC3 f1 f2 i0 i1 i2 i3
      go_wp2_with (refine wpList_store_whole rfl 37 (.tmp 4) (.tmp 25) rfl go 37 Z37 OL.toArray rfl rfl HF.out.2.2.1 (by simp only [List.size_toArray, HF.out.1]; exact size37) (by simp only [List.size_toArray, HF.out.1]; exact HZZ.out.1) (by simpa using HF.out.2.1) w.heap.size w HF.out.2.2.2 hgo2 ?_; intro W7 hrow7 hgr7 hbel7)
      refine bodyPost_ret (results_out rfl _ W7 go 37 OL.toArray rfl hrow7.out (by simpa using HF.out.1)) rfl ?_
      refine ⟨_, by rw [HRF2.out]; rfl, ?_, hbel7.out⟩
      rw [hO.out]
      refine ⟨cv, gp, by rw [HO.out.1], (HO.out.2.1.less HR2.out.2.size).kept fun k cs t ht hk => ?_, HO.out.2.2⟩
      rw [hgr7.out.block k (Array.getElem?_eq_some_iff.1 hk).1 (fun e => ?_)]
      · exact hk
      · simp only [Option.some.injEq] at e
        subst e
        rw [HF.out.2.2.1] at hk
        simp only [Option.some.injEq, Obj.cells.injEq] at hk
        rcases ht with rfl | rfl
        · exact absurd hk.2.1 (by decide)
        · exact absurd hk.2.1 (by decide)
    · have hrf : Hid (runF F I = inpF F.p I ∧ runO F I = out00) := by
        refine ⟨HRF.out, ?_⟩
        unfold runO
        rw [HRF.out, if_neg hin]
      have hnb : (inpF F.p I == 0) = false := by simpa using hin
      have HR2 := hide (And.intro hr2 hBw2)
      generalize inpF F.p I = ee at *
      clear hin hB2 hr2 hBw2 HR1 hck HRF hfd f0 f1 f2 i0 i1 i2 i3
      go_wp2_with (first | (refine wpList_build0 rfl 37 rfl (.agg Z37) (HZZ.out.2.2 _) ?_) | (refine wpList_store_whole rfl 37 (.tmp 4) (.tmp 18) rfl go 37 Z37 Z37 rfl rfl HR2.out.1 (by rw [HZZ.out.1]; exact size37) rfl HZZ.out.2.1 w.heap.size w HR2.out.2 hgo2 ?_; intro W7 hrow7 hgr7 hbel7))
      refine bodyPost_ret (results_out rfl _ W7 go 37 Z37 rfl hrow7.out HZZ.out.1) rfl ?_
      refine ⟨_, by rw [hrf.out.1]; rfl, ?_, hbel7.out⟩
      rw [hrf.out.2]
      exact ⟨.slice none 0 0, 0, by rw [HZ.out]; rfl, CallsO.nil _ _ _, by simp [out00]⟩
  · have hrf : Hid (runF F I = 30 ∧ runO F I = out00) := by
      have h1 : runF F I = 30 := by unfold runF; rw [if_pos hck]
      refine ⟨h1, ?_⟩
      unfold runO
      rw [h1, if_neg (by decide)]
    have hnb : ((chk F).1 == 0) = false := by simpa using hck
    generalize (chk F).1 = k1 at *
    generalize (chk F).2.1 = k2 at *
    generalize (chk F).2.2 = k3 at *
    clear hck hBw f0 f1 f2 i0 i1 i2 i3
    go_wp2_with (first | (refine wpList_build0 rfl 37 rfl (.agg Z37) (HZZ.out.2.2 _) ?_) | (refine wpList_store_whole rfl 37 (.tmp 4) (.tmp 11) rfl go 37 Z37 Z37 rfl rfl HR1.out.1 (by rw [HZZ.out.1]; exact size37) rfl HZZ.out.2.1 w.heap.size w HR1.out.2 hgo2 ?_; intro W7 hrow7 hgr7 hbel7))
    refine bodyPost_ret (results_out rfl _ W7 go 37 Z37 rfl hrow7.out HZZ.out.1) rfl ?_
    refine ⟨_, by rw [hrf.out.1]; rfl, ?_, hbel7.out⟩
    rw [hrf.out.2]
    exact ⟨.slice none 0 0, 0, by rw [HZ.out]; rfl, CallsO.nil _ _ _, by simp [out00]⟩
theorem runF_zero {F : Fun} {I : Inp} {pn : Nat} (hF : chk F = (0, 0, 0)) (hp : F.p = (pn : Int)) (hl : I.args.length = pn) (hf : 0 ≤ I.fuel ∧ I.fuel ≤ 1048576) : runF F I = 0 := by
  unfold runF
  rw [hF]
  unfold inpF
  rw [hp, hl]
  simp
  omega
theorem runO_play {F : Fun} {I : Inp} (h : runF F I = 0) : runO F I = play F.v F.bs 0 (st0 F.v.toNat 0 I) := by unfold runO; rw [if_pos h]
end Go.Proofs.Ytepmbkiojpffpaa
