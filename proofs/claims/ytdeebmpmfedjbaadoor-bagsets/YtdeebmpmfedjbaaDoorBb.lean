/- BagSets: the walk. -/
import Derived.Test.YtdeebmpmfedjbaaDoorBr
import Derived.Test.YtdeebmpmfedjbaaDoorR50
import Derived.Deep.Cut
import Derived.Deep.CutRange
import Derived.Deep.CutBlock
import Derived.Deep.DeepCutAuto
namespace Go.Proofs.YtdeebmpmfedjbaaDoor
open Go Go.RowKit Bag
set_option linter.unusedVariables false
set_option maxHeartbeats 16000000 in
set_option maxRecDepth 100000 in
theorem sets_any (v : Value) (xs : List (ActD × Value)) (w : World) (hT : Tab w) (hx : ActsV w v xs) : Calls Tryd.prog 3 #[v] w fun e w' => e = .returned (.bool true) ∧ w.grownBy w' none := by
  obtain ⟨ao0, cap0, rfl⟩ := SlV.slice hx
  have HT := hide hT
  have HX := hide hx
  clear hT hx
  go_enter Tryd.func3, Tryd.ntmps3
  go_wp2_with (first | (go_at_call 9; refine (awake_any _ HT.out).mono ?_; rintro e w1 ⟨rfl, hg1⟩; have HG1 := hide hg1; clear hg1) | (refine wpList_new 3 rfl rfl 27 rfl z64 z27 ?_; intro gs w2 h2) | (refine wpList_is rfl (v := .agg z4096) (w' := _) (by show (Instr.build 30 #[] >>= fun x => pure (Next.value x)).run Tryd.prog _ = _; rw [Sem.run_bind, build30]; rfl) ?_) | (refine wpList_box' rfl 30 (.tmp 21) rfl z4096 rfl ?_; intro gm w3 h3))
  have HB3 := hide (show Below w.heap.size w w3 from gb_to ((HG1.out.trans (gb_at h2.out)).trans (gb_at h3.out)))
  have HS3 : Hid (SetAt w3 gs (fun _ => false)) := hide ⟨z64, 27, cells_at h2.out.2.1 (gb_at h3.out) (by simp), z64_set⟩
  have HM3 : Hid (ModAt w3 gm (fun _ => false)) := hide ⟨z4096, 30, h3.out.2.1, z4096_mod⟩
  have HGS : Hid (w.heap.size ≤ gs ∧ gs < gm) := hide (by
    have q1 := h2.out.1
    have q2 := HG1.out.size
    have q3 := (Array.getElem?_eq_some_iff.1 h2.out.2.1).1
    have q4 := h3.out.1
    omega)
  clear h2 h3 HG1
  go_loopw [25] (fun iv wr => ∃ (i : Nat) (f : Nat → Bool), i ≤ xs.length ∧ i ≤ 61 ∧ iv = .int .i64 i ∧ Hid (SetAt wr gs f) ∧ Hid (ModAt wr gm f) ∧ Hid (Below w.heap.size w wr)) (fun iv _ => xs.length - (intOf iv).toNat)
  case atStart => exact ⟨0, _, by omega, by omega, rfl, HS3, HM3, HB3⟩
  case round =>
    rename World => wq
    obtain ⟨i, f, hiL, hi2, rfl, HS, HM, HB⟩ := hrel
    by_cases hlt : i < xs.length
    · have hlt' : (i : Int) < (xs.length : Int) := by omega
      by_cases h60 : i ≤ 60
      · have h60' : ¬ (60 : Int) < (i : Int) := by omega
        go_upto_block 1 with fail
        refine blk_any HT HX HGS HS HM HB hlt h60 actS_lit ?_
        intro a' W f' r7 r8 r9 r10 r11 r12 r13 r60 hA q1 q2 q5
        obtain ⟨ρ, rfl⟩ := hA.lit
        clear hA
        have R1 := hide q1
        have R2 := hide q2
        have R5 := hide q5
        clear q1 q2 q5 HS HM HB
        simp only [P0]
        go_wp2_with fail
        go_roundw
        case rel => exact ⟨i + 1, f', by omega, by omega, by go_num, R1, R2, R5⟩
        case measure => simp [intOf]; omega
      · obtain ⟨b0, off, rfl, hat⟩ := ActsV.at (HX.out.below HB.out) i hlt
        obtain ⟨⟨ca, cb, cc, cd⟩, hu, hk⟩ := hat
        generalize xs.getD i actZ = a at ca cb cc cd hu hk
        obtain ⟨⟨k, x, L, raw⟩, u⟩ := a
        simp only at ca cb cc cd hu hk
        have HU := hide hu
        have hlt' : (i : Int) < (xs.length : Int) := by omega
        have hB0 := hide HB.out.size
        have HONE := hide (one4 hu k x raw)
        obtain ⟨ua, uc, rfl⟩ := hu.slice
        clear hu
        have h60' : (60 : Int) < (i : Int) := by omega
        go_wp2_with (first | (refine wpList_newv 6 rfl rfl 33 rfl _ zero33 ?_; intro g6 w6 h6) | (refine wpList_store_whole rfl 33 (.tmp 6) (.tmp 29) rfl g6 33 _ _ rfl rfl h6.out.2.1 (info33 _ _ _ _) rfl HONE.out ?_; intro w7 h7 hg7 hs7; obtain ⟨d0, d1, d2, d3⟩ := box4 h7.out; have G7 := hide ((gb_at h6.out).andThen hg7.out (fun j e => by cases e; exact .inl (by rw [h6.out.1]; exact Nat.le_refl _))); have HS7 := hide (HS.out.kept G7.out (by simp)); have HM7 := hide (HM.out.kept G7.out (by simp)); have HB7 := hide (HB.out.trans ((gb_to G7.out).mono hB0.out)); have HU7 := hide (HU.out.below (gb_to G7.out)); have HB7s := hide (Nat.le_trans hB0.out G7.out.size); clear HS HM HB HU))
        go_ret
        exact ⟨rfl, gb_of HB7.out⟩
    · obtain rfl : i = xs.length := by omega
      go_wp2_with fail
      go_ret
      exact ⟨rfl, gb_of HB.out⟩
end Go.Proofs.YtdeebmpmfedjbaaDoor
