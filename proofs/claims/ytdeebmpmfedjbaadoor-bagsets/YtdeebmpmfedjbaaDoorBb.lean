/- BagSets: the walk. -/
import Derived.Test.YtdeebmpmfedjbaaDoorSw
import Derived.Test.YtdeebmpmfedjbaaDoorTl
import Derived.Test.YtdeebmpmfedjbaaDoorR50
import Derived.Deep.Cut
import Derived.Deep.CutBlock
import Derived.Deep.DeepCutAuto
namespace Go.Proofs.YtdeebmpmfedjbaaDoor
open Go Go.RowKit Bag
set_option linter.unusedVariables false
theorem zero33 (W : World) : (zeroValue 33).run Tryd.prog W = .ok (.agg #[.int .u8 0, .int .i64 0, .slice none 0 0, .bool false]) W := by kernel_rfl
theorem ActsV.at {w : World} {ao : Option Addr} {n c : Nat} {xs : List (ActD × Value)} (h : ActsV w (.slice ao n c) xs) (j : Nat) (hj : j < xs.length) : ∃ b off, ao = some ⟨b, off, none⟩ ∧ ActAt w b (off + j * 4) (xs.getD j actZ) := SlV.at h j hj
theorem one4 {w : World} {u : Value} {L : List Int} (h : IntsV w u L) (k : Nat) (x : Int) (raw : Bool) : ∀ v ∈ (#[.int .u8 k, .int .i64 x, u, .bool raw] : Array Value).toList, v.oneCell' = true := by
  obtain ⟨ao, c, rfl⟩ := h.slice
  intro v hv
  simp at hv
  rcases hv with rfl | rfl | rfl | rfl <;> rfl
theorem BSt.below {gs gm go gw B : Nat} {g : Nat → Bool} {w0 wz : World} (h : BSt gs gm go gw g B w0 wz) : Below B w0 wz := by
  obtain ⟨_, _, _, _, _, h⟩ := h
  exact h
set_option maxHeartbeats 16000000 in
set_option maxRecDepth 100000 in
theorem sets_any (v : Value) (xs : List (ActD × Value)) (w : World) (hT : Tab w) (hx : ActsV w v xs) : Calls Tryd.prog 3 #[v] w fun e w' => e = .returned (.bool true) ∧ w.grownBy w' none := by
  obtain ⟨ao0, cap0, rfl⟩ := SlV.slice hx
  have HT := hide hT
  have HX := hide hx
  clear hT hx
  go_enter Tryd.func3, Tryd.ntmps3
  go_wp2_with (first | (go_at_call 9; refine (awake_any _ HT.out).mono ?_; rintro e w1 ⟨rfl, hg1⟩; have HG1 := hide hg1; clear hg1) | (refine wpList_new 3 rfl rfl 27 rfl z64 z27 ?_; intro gs w2 h2) | (refine wpList_is rfl (v := .agg z4096) (w' := _) (by show (Instr.build 30 #[] >>= fun x => pure (Next.value x)).run Tryd.prog _ = _; rw [Sem.run_bind, build30]; rfl) ?_) | (refine wpList_box' rfl 30 (.tmp 21) rfl z4096 rfl ?_; intro gm w3 h3))
  have HB3 := hide (show Below w.heap.size w w3 from gb_to ((HG1.out.trans (gb_at h2.out)).trans (gb_at h3.out)))
  have HS3 : Hid (SetAt w3 gs (fun _ => false)) := hide ⟨z64, 27, cells_at h2.out.2.1 (gb_at h3.out) (by simp), z64_set⟩
  have HM3 : Hid (ModAt w3 gm (fun _ => false)) := hide ⟨z4096, 30, h3.out.2.1, z4096_mod⟩
  have HGS : Hid (w.heap.size ≤ gs ∧ gs < gm) := hide (by
    have q1 := h2.out.1
    have q2 := HG1.out.size
    have q3 := (Array.getElem?_eq_some_iff.1 h2.out.2.1).1
    have q4 := h3.out.1
    omega)
  clear h2 h3 HG1
  go_loopw [25] (fun iv wr => ∃ (i : Nat) (f : Nat → Bool), i ≤ xs.length ∧ i ≤ 61 ∧ iv = .int .i64 i ∧ Hid (SetAt wr gs f) ∧ Hid (ModAt wr gm f) ∧ Hid (Below w.heap.size w wr)) (fun iv _ => xs.length - (intOf iv).toNat)
  case atStart => exact ⟨0, _, by omega, by omega, rfl, HS3, HM3, HB3⟩
  case round =>
    rename World => wq
    obtain ⟨i, f, hiL, hi2, rfl, HS, HM, HB⟩ := hrel
    by_cases hlt : i < xs.length
    · obtain ⟨b0, off, rfl, hat⟩ := ActsV.at (HX.out.below HB.out) i hlt
      obtain ⟨⟨ca, cb, cc, cd⟩, hu, hk⟩ := hat
      generalize xs.getD i actZ = a at ca cb cc cd hu hk
      obtain ⟨⟨k, x, L, raw⟩, u⟩ := a
      simp only at ca cb cc cd hu hk
      have HU := hide hu
      have hlt' : (i : Int) < (xs.length : Int) := by omega
      have hB0 := hide HB.out.size
      have HONE := hide (one4 hu k x raw)
      obtain ⟨ua, uc, rfl⟩ := hu.slice
      clear hu
      by_cases h60 : i ≤ 60
      · have h60' : ¬ (60 : Int) < (i : Int) := by omega
        go_upto_region 10 with (first | (refine wpList_newv 6 rfl rfl 33 rfl _ zero33 ?_; intro g6 w6 h6) | (refine wpList_store_whole rfl 33 (.tmp 6) (.tmp 29) rfl g6 33 _ _ rfl rfl h6.out.2.1 (info33 _ _ _ _) rfl HONE.out ?_; intro w7 h7 hg7 hs7; obtain ⟨d0, d1, d2, d3⟩ := box4 h7.out; have G7 := hide ((gb_at h6.out).andThen hg7.out (fun j e => by cases e; exact .inl (by rw [h6.out.1]; exact Nat.le_refl _))); have HS7 := hide (HS.out.kept G7.out (by simp)); have HM7 := hide (HM.out.kept G7.out (by simp)); have HB7 := hide (HB.out.trans ((gb_to G7.out).mono hB0.out)); have HU7 := hide (HU.out.below (gb_to G7.out)); have HB7s := hide (Nat.le_trans hB0.out G7.out.size); clear HS HM HB HU) | (go_at_call 10; refine (near_any _ _ _).mono ?_; rintro e w8 ⟨rfl, hw8⟩; subst hw8))
        generalize nearN x raw = y
        go_cut [8] (fun c8 wc => c8 = .bool (inS y) ∧ wc = w8)
        case first =>
          by_cases hy0 : 0 ≤ y
          · by_cases hy1 : y < 4096
            · have e := inS_yes hy0 hy1
              go_wp2_with fail
              go_meet
              case rel => exact ⟨by rw [e], rfl⟩
            · have e := inS_no (x := y) (by omega)
              go_wp2_with fail
              go_meet
              case rel => exact ⟨by rw [e], rfl⟩
          · have e := inS_no (x := y) (by omega)
            go_wp2_with fail
            go_meet
            case rel => exact ⟨by rw [e], rfl⟩
        case rest =>
          obtain ⟨rfl, rfl⟩ := hcut
          obtain ⟨b8, hb8⟩ : ∃ b, inS y = b := ⟨_, rfl⟩
          rw [hb8]
          go_upto_region 11 with fail
          go_cut [9] (fun c9 wd => c9 = .bool (isIn f y) ∧ wd = wc)
          case first =>
            cases b8 with
            | true =>
              have hy := inS_dec hb8
              obtain ⟨n, rfl⟩ : ∃ n : Nat, y = (n : Int) := ⟨y.toNat, by omega⟩
              have hn : n < 4096 := by omega
              have e : isIn f (n : Int) = f n := by unfold isIn; rw [inS_nat hn]; rfl
              have cm := (HM7.out.cell n hn).1
              have hmn : ¬ (4095 : Int) < (n : Int) := by omega
              by_cases hn0 : n = 0
              · subst hn0
                go_wp2_with fail
                go_meet
                case rel => exact ⟨by rw [e], rfl⟩
              · have hmx : ¬ (n : Int) ≤ 0 := by omega
                go_wp2_with fail
                go_meet
                case rel => exact ⟨by rw [e], rfl⟩
            | false =>
              have e : isIn f y = false := by unfold isIn; rw [hb8]; rfl
              go_wp2_with fail
              go_meet
              case rel => exact ⟨by rw [e], rfl⟩
          case rest =>
            obtain ⟨rfl, rfl⟩ := hcut
            obtain ⟨b9, hb9⟩ : ∃ b, isIn f y = b := ⟨_, rfl⟩
            rw [hb9]
            go_upto_region 14 with (first | (refine wpList_load_row rfl 33 (.tmp 6) rfl g6 rfl 33 _ _ h7.out Tryd.underlying33 rfl (info33 _ _ _ _) ?_) | (go_at_call 11; refine (other_any _ _ _ _ _ _ HU7.out).mono ?_; rintro e w9 ⟨uo, gw, rfl, hso, hgw, hmw, hg9⟩; have HSO := hide hso; have HGW := hide hgw; have HMW := hide hmw; have HG9 := hide hg9; clear hso hgw hmw hg9 HU7) | (refine wpList_var_set 10 rfl rfl rfl rfl (.tmp 56) rfl rfl (by simp) _ _ HSO.out rfl ?_; intro go w10 h10))
            obtain ⟨k0, k1, k2, k3⟩ := box4 (cells_at (cells_at h7.out HG9.out (by simp)) h10.out.2.2 (by simp))
            have G10 := hide (HG9.out.trans h10.out.2.2)
            have Q1 := hide (HS7.out.kept G10.out (by simp))
            have Q2 := hide (HM7.out.kept G10.out (by simp))
            have Q3 := hide h10.out.2.1
            have Q4 := hide (HMW.out.kept h10.out.2.2 (by simp))
            have Q5 := hide (HB7.out.trans ((gb_to G10.out).mono HB7s.out))
            have QO := hide (show go < gw ∨ gw < go by have := h10.out.1; have := HMW.out.lt; omega)
            have QL := hide (show w.heap.size ≤ gw ∧ w.heap.size ≤ go by have := HGW.out; have := HB7s.out; have := h10.out.1; have := HG9.out.size; omega)
            generalize ofL (nl L raw) = g at *
            have QN := hide (show gm < go ∧ gm < gw by have q1 := HM7.out.lt; have q2 := HGW.out; have q3 := h10.out.1; have q4 := HG9.out.size; omega)
            have HSW : Hid (SwH gs gm go gw f g w.heap.size w w10 y b8 b9) := hide ⟨Q1.out, Q2.out, Q3.out, Q4.out, Q5.out, hb8, hb9, HGS.out.1, HGS.out.2, QN.out.1, QN.out.2, by have := QO.out; omega⟩
            clear Q1 Q2 Q3 Q4 Q5 QN QO QL HSO HMW HG9 HB7 HS7 HM7 h10
            go_upto_block 2 with fail
            rename_i K hK
            refine sw_any trivial HSW.out actS_lit ?_
            intro a' W r9 r13 r60 hA hB
            obtain ⟨ρ, rfl⟩ := hA.lit
            clear hA
            have HTW := hide (HT.out.below hB.below (World.block_lt_of_cell? w _ (HT.out 0 (by decide))))
            have HB2 := hide hB
            have HBW := hide (Nat.le_trans (Nat.le_refl _) hB.below.size)
            clear hB
            simp only [P0]
            refine hK _ _ (tail_any hb8 HTW.out HB2.out HBW.out actS_lit ?_)
            intro a' W2 r9 r13 r60 hA hB
            obtain ⟨ρ2, rfl⟩ := hA.lit
            clear hA
            obtain ⟨f', q1, q2, q3, q4, q5⟩ := hB
            have R1 := hide q1
            have R2 := hide q2
            have R5 := hide q5
            clear q1 q2 q3 q4 q5 HB2 HTW HBW
            simp only [P0]
            go_wp2_with fail
            go_roundw
            case rel => exact ⟨i + 1, f', by omega, by omega, by go_num, R1, R2, R5⟩
            case measure => simp [intOf]; omega
      · have h60' : (60 : Int) < (i : Int) := by omega
        go_wp2_with (first | (refine wpList_newv 6 rfl rfl 33 rfl _ zero33 ?_; intro g6 w6 h6) | (refine wpList_store_whole rfl 33 (.tmp 6) (.tmp 29) rfl g6 33 _ _ rfl rfl h6.out.2.1 (info33 _ _ _ _) rfl HONE.out ?_; intro w7 h7 hg7 hs7; obtain ⟨d0, d1, d2, d3⟩ := box4 h7.out; have G7 := hide ((gb_at h6.out).andThen hg7.out (fun j e => by cases e; exact .inl (by rw [h6.out.1]; exact Nat.le_refl _))); have HS7 := hide (HS.out.kept G7.out (by simp)); have HM7 := hide (HM.out.kept G7.out (by simp)); have HB7 := hide (HB.out.trans ((gb_to G7.out).mono hB0.out)); have HU7 := hide (HU.out.below (gb_to G7.out)); have HB7s := hide (Nat.le_trans hB0.out G7.out.size); clear HS HM HB HU))
        go_ret
        exact ⟨rfl, gb_of HB7.out⟩
    · obtain rfl : i = xs.length := by omega
      go_wp2_with fail
      go_ret
      exact ⟨rfl, gb_of HB.out⟩
end Go.Proofs.YtdeebmpmfedjbaaDoor
