/- BagTypes: the walk. -/
import Derived.Test.YtdeebmpmfedjbaaDoorR4
import Derived.Test.YtdeebmpmfedjbaaDoorAw
import Derived.Deep.Cut
import Derived.Deep.CutBlock
import Derived.Deep.DeepCutAuto
import Derived.BigQuiet
namespace Go.Proofs.YtdeebmpmfedjbaaDoor
open Go Go.RowKit Bag Go.Maps
set_option linter.unusedVariables false
/-- A row of small numbers. -/
def ShAt (w : World) (b off : Nat) (x : Int) : Prop := w.cell? ⟨b, off, none⟩ = some (.int .i16 x) ∧ -32768 ≤ x ∧ x < 32768
def ShV (w : World) (v : Value) (xs : List Int) : Prop := SlV 1 ShAt 0 w v xs
theorem ShV.below {w w' : World} {v : Value} {xs : List Int} (h : ShV w v xs) (hB : Below w.heap.size w w') : ShV w' v xs := SlV.mono h fun _ _ _ h => ⟨cell_below hB h.1, h.2⟩
theorem ShV.at {w : World} {ao : Option Addr} {n c : Nat} {xs : List Int} (h : ShV w (.slice ao n c) xs) (j : Nat) (hj : j < xs.length) : ∃ b off, ao = some ⟨b, off, none⟩ ∧ ShAt w b (off + j) (xs.getD j 0) := by
  obtain ⟨b, off, e, h⟩ := SlV.at h j hj
  rw [Nat.mul_one] at h
  exact ⟨b, off, e, h⟩
theorem z47 (W : World) : (zeroValue 47).run Tryd.prog W = .ok (.agg z64) W := by kernel_rfl
theorem zero51 (W : World) : (zeroValue 51).run Tryd.prog W = .ok (.agg #[.slice none 0 0, .map none]) W := by kernel_rfl
theorem zero54 (W : World) : (zeroValue 54).run Tryd.prog W = .ok (.agg #[.map none]) W := by kernel_rfl
theorem bx_new {w : World} {gq gu : Nat} {t1 t2 : TypeId} (hq : w.heap[gq]? = some (.cells #[.slice none 0 0, .map none] t1 (0, 0))) (hu : w.heap[gu]? = some (.cells #[.map none] t2 (0, 0))) (h : gq < gu) : BX gq gq gu w.heap.size 0 [] (.map []) (.map []) (w.alloc (.map #[] 0)) := by
  have l1 := (Array.getElem?_eq_some_iff.1 hq).1
  have l2 := (Array.getElem?_eq_some_iff.1 hu).1
  refine ⟨.slice none 0 0, none, 0, .map [], none, 0, ⟨⟨t1, cells_at hq (World.grownBy_alloc w _ none) (by simp)⟩, RowW.nil _ _ _, by simp [Value.ownBlock], fun _ => rfl, fun m e => absurd e (by simp), ⟨fun k _ => by simp [has], isMap_empty, fun k hk => absurd hk (by simp)⟩⟩, ⟨⟨t2, cells_at hu (World.grownBy_alloc w _ none) (by simp)⟩, fun _ => rfl, fun m e => absurd e (by simp)⟩, World.ownsMap_made w Tryd.prog 9 (plainElem Tryd.prog 4), by simp; omega, Nat.le_refl _, by omega, by omega, by omega, by omega, by omega, fun k e => absurd e (by simp [Value.ownBlock]), fun k e => absurd e (by simp), fun k e => absurd e (by simp), Nat.le_refl _, Nat.le_refl _, by simp⟩
theorem cut0 (ao : Option Addr) (n c j : Nat) (hj : j ≤ n) (hc : n ≤ c) : ∃ sv, ∀ W, (Instr.sliceAt 45 (.slice ao n c) none (some (.int .i64 (j : Nat))) none).run Tryd.prog W = .ok sv W := by
  refine ⟨.slice (if c = 0 then ao else ao.map (·.add 0)) (j - 0) (c - 0), fun W => ?_⟩
  have h0 : (0 : Int) ≤ (j : Int) := by omega
  have h2 : (j : Int) ≤ (c : Int) := by omega
  go_simp
theorem SetAt.bel {B : Nat} {w w' : World} {b : Nat} {f : Nat → Bool} (h : SetAt w b f) (hB : Below B w w') (hb : b < B) : SetAt w' b f := by
  obtain ⟨cs, t, h1, h2⟩ := h
  exact ⟨cs, t, (hB.block b hb).trans h1, h2⟩
set_option maxHeartbeats 8000000 in
set_option maxRecDepth 100000 in
theorem types_any (v0 v1 : Value) (L : List Int) (KS : List ByteArray) (w : World) (hT : Tab w) (h0 : ShV w v0 L) (h1 : KV w v1 KS) : Calls Tryd.prog 4 #[v0, v1] w fun e w' => e = .returned (.bool true) ∧ w.grownBy w' none := by
  obtain ⟨ao0, c0, rfl⟩ := SlV.slice h0
  obtain ⟨ao1, c1, rfl⟩ := SlV.slice h1
  have HT := hide hT
  have HL := hide h0
  have HK := hide h1
  clear hT h0 h1
  by_cases hL : L.length ≤ 100
  · by_cases hK : KS.length ≤ 100
    · have hL' : ¬ (100 : Int) < (L.length : Int) := by omega
      have hK' : ¬ (100 : Int) < (KS.length : Int) := by omega
      have hmk := @run_makeMap Tryd.prog
      go_enter Tryd.func4, Tryd.ntmps4
      go_wp2_with (first | (go_at_call 9; refine (awake_any _ HT.out).mono ?_; rintro e w1 ⟨rfl, hg1⟩; have HG1 := hide hg1; clear hg1) | (refine wpList_new 5 rfl rfl 47 rfl z64 z47 ?_; intro gs w2 h2) | (refine wpList_new 6 rfl rfl 27 rfl z64 z27 ?_; intro gt w3 h3) | (refine wpList_newv 7 rfl rfl 51 rfl _ zero51 ?_; intro gq w4 h4) | (refine wpList_newv 8 rfl rfl 54 rfl _ zero54 ?_; intro gu w5 h5))
      have G5 := hide (((((HG1.out.trans (gb_at h2.out)).trans (gb_at h3.out)).trans (gb_at h4.out)).trans (gb_at h5.out)))
      have HS5 : Hid (SetAt w5 gs (fun _ => false)) := hide ⟨z64, 47, cells_at (cells_at (cells_at h2.out.2.1 (gb_at h3.out) (by simp)) (gb_at h4.out) (by simp)) (gb_at h5.out) (by simp), z64_set⟩
      have HT5 : Hid (SetAt w5 gt (fun _ => false)) := hide ⟨z64, 27, cells_at (cells_at h3.out.2.1 (gb_at h4.out) (by simp)) (gb_at h5.out) (by simp), z64_set⟩
      have HQ5 : Hid (w5.heap[gq]? = some (.cells #[.slice none 0 0, .map none] 51 (0, 0))) := hide (cells_at h4.out.2.1 (gb_at h5.out) (by simp))
      have HU5 : Hid (w5.heap[gu]? = some (.cells #[.map none] 54 (0, 0))) := hide h5.out.2.1
      have HO : Hid (w.heap.size ≤ gs ∧ gs < gt ∧ gt < gq ∧ gq < gu) := hide (by
        have q1 := HG1.out.size
        have q2 := h2.out.1
        have q3 := (Array.getElem?_eq_some_iff.1 h2.out.2.1).1
        have q4 := h3.out.1
        have q5 := (Array.getElem?_eq_some_iff.1 h3.out.2.1).1
        have q6 := h4.out.1
        have q7 := (Array.getElem?_eq_some_iff.1 h4.out.2.1).1
        have q8 := h5.out.1
        omega)
      have HB5 := hide (gb_to G5.out)
      clear h2 h3 h4 h5 HG1 G5
      go_loopw [10, 29] (fun _ iv wr => ∃ (i : Nat) (f : Nat → Bool), i ≤ L.length ∧ iv = .int .i64 i ∧ Hid (SetAt wr gs f) ∧ Hid (SetAt wr gt f) ∧ Hid (wr.heap[gq]? = some (.cells #[.slice none 0 0, .map none] 51 (0, 0))) ∧ Hid (wr.heap[gu]? = some (.cells #[.map none] 54 (0, 0))) ∧ Hid (Below w.heap.size w wr)) (fun _ iv _ => L.length - (intOf iv).toNat)
      case atStart => exact ⟨0, _, by omega, rfl, HS5, HT5, HQ5, HU5, HB5⟩
      case round =>
        rename World => wq
        obtain ⟨i, f, hiL, rfl, HS, HTt, HQ, HU, HB⟩ := hrel
        by_cases hlt : i < L.length
        · obtain ⟨b0, off, rfl, hcx, hx0, hx1⟩ := ShV.at (HL.out.below HB.out) i hlt
          generalize L.getD i 0 = x at hcx hx0 hx1
          have hlt' : (i : Int) < (L.length : Int) := by omega
          obtain ⟨pb, hpb⟩ : ∃ pb, (inS x && !f x.toNat) = pb := ⟨_, rfl⟩
          have HPB := hide hpb
          have hbb : (pb != pb) = false := bne_self_eq_false pb
          have HB0 := hide HB.out.size
          clear hpb
          go_wp2_with (first | (go_at_call 24; refine (putS_any gs x f _ HS.out).mono ?_; rintro e w2 ⟨rfl, hs2, hg2⟩; have HS2 := hide hs2; have HG2 := hide hg2; clear hs2 hg2; rw [HPB.out]) | (go_at_call 17; refine (put_any gt x f _ (HTt.out.kept HG2.out (by have := HO.out; simp; omega))).mono ?_; rintro e w3 ⟨rfl, hs3, hg3⟩; have HS3 := hide hs3; have HG3 := hide hg3; clear hs3 hg3; rw [HPB.out]))
          go_roundw
          case rel => exact ⟨i + 1, ins f x, by omega, by go_num, hide (HS2.out.kept HG3.out (by have := HO.out; simp; omega)), HS3, hide (cells_at (cells_at HQ.out HG2.out (by have := HO.out; simp; omega)) HG3.out (by have := HO.out; simp; omega)), hide (cells_at (cells_at HU.out HG2.out (by have := HO.out; simp; omega)) HG3.out (by have := HO.out; simp; omega)), hide (bel_gb (bel_gb HB.out HG2.out HB0.out (fun k e => by cases e; exact HO.out.1)) HG3.out (Nat.le_trans HB0.out HG2.out.size) (fun k e => by cases e; have := HO.out; omega))⟩
          case measure => simp [intOf]; omega
        · obtain rfl : i = L.length := by omega
          have l1 := (Array.getElem?_eq_some_iff.1 HU.out).1
          go_wp2_with fail
          have HX0 := hide (bx_new HQ.out HU.out HO.out.2.2.2)
          have HS0 := hide (HS.out.kept (World.grownBy_alloc wq (.map #[] 0) none) (by simp))
          have HT0 := hide (HTt.out.kept (World.grownBy_alloc wq (.map #[] 0) none) (by simp))
          have HB0 := hide (HB.out.trans ((gb_to (World.grownBy_alloc wq (.map #[] 0) none)).mono HB.out.size))
          clear HS HTt HQ HU HB HS5 HT5 HQ5 HU5 HB5 hmk l1
          generalize wq.heap.size = mm at *
          generalize wq.alloc (.map #[] 0) = w7 at *
          go_loopw [12, 13, 44] (fun _ _ iv wr => ∃ (i : Nat) (ls : List ByteArray) (D : DT), i ≤ KS.length ∧ iv = .int .i64 i ∧ Hid (BX gq gq gu mm (3 * i) ls D D wr) ∧ Hid (Tells ls D) ∧ Hid (Below gq w7 wr)) (fun _ _ iv _ => KS.length - (intOf iv).toNat)
          case atStart => exact ⟨0, [], .map [], by omega, rfl, HX0, hide Tells.nil, hide (Below.refl _ _)⟩
          case round =>
            rename World => wr
            obtain ⟨i, ls, D, hiK, rfl, HX, HTE, HB7⟩ := hrel
            have HBw := hide (HB0.out.trans (HB7.out.mono (by have := HO.out; omega)))
            by_cases hlt : i < KS.length
            · obtain ⟨bk, ok, rfl, hcx⟩ := KV.at (HK.out.below HBw.out) i hlt
              generalize KS.getD i ⟨#[]⟩ = s at hcx
              have hlt' : (i : Int) < (KS.length : Int) := by omega
              by_cases hs : s.size ≤ 100
              · have hs' : ¬ (100 : Int) < (s.size : Int) := by omega
                have HSZ := hide hs
                have HKL := hide (lk_key (show s.size ≤ maxLen by unfold maxLen; omega))
                have HI := hide (show 3 * i + 3 < 1000 by omega)
                obtain ⟨j, hj⟩ : ∃ j : Nat, j = min i L.length := ⟨_, rfl⟩
                have HJ := hide hj
                obtain ⟨sv, hsv⟩ := cut0 ao0 L.length c0 j (by omega) (SlV.cap HL.out).2.1
                have HSV := hide hsv
                clear hj hsv hs
                go_upto_region 21 with fail
                refine t21 gq gu mm s ao0 L.length c0 i j sv (inB ls s) rfl rfl rfl rfl rfl rfl rfl (fun W => BX gq gq gu mm (3 * i + 1) (putL ls s) D D W ∧ Below gq wr.drew W) (fun W => BX gq gq gu mm (3 * i + 2) (putL ls s) (D.put (lk s) tt) D W ∧ Below gq wr.drew W) (by rw [HJ.out]; split <;> omega) HSV.out (fun W hW => ?_) ((bx_q (HX.out.grow (gb_drew _ _)) HSZ.out (by have := HI.out; omega)).mono ?_) (fun W hW => (bx_u hW.1 sv HSZ.out (by have := HI.out; omega)).mono ?_) (fun t W ht hW => ?_)
                · rcases hW with e | e | e
                  · rw [e]; exact bx_look (HX.out.grow (gb_drew _ _)) HSZ.out (HTE.out.at_ s)
                  · exact bx_look e.1 HSZ.out (HTE.out.at_ s)
                  · exact bx_look e.1 HSZ.out (HTE.out.at_ s)
                · rintro e w' ⟨rfl, q1, q2⟩
                  exact ⟨rfl, q1, q2⟩
                · rintro e w' ⟨rfl, q1, q2⟩
                  exact ⟨by rw [HTE.out.has_ s], q1, hW.2.trans q2⟩
                · have HW := hide hW
                  clear hW
                  simp [overlay, dstsOf, ops_t21, ht]
                  go_wp2_with (at_mapUpdate; refine wpList_mapUpdate_own _ rfl _ _ _ 58 rfl 9 4 key9 Tryd.underlying58 (plainElem Tryd.prog 4) mm (3 * i + 2) D rfl HW.out.1.seen (by have := HI.out; unfold maxLen; omega) _ _ _ rfl rfl HKL.out _ [] (plainElem_bool Tryd.underlying4 true) ?_; intro w9 hown9 hgrow9)
                  have HX9 := hide (HW.out.1.upd hown9 hgrow9 (by omega))
                  have HB9 := hide (bel_gb ((HB7.out.trans ((Below.refl gq wr).drew.trans HW.out.2))) hgrow9 HW.out.1.hB (fun k e => by cases e; exact HW.out.1.mmB))
                  have HTE9 := hide (HTE.out.put (World.ownsMap.tidy HX.out.seen key9) (World.ownsMap.isMap HX.out.seen) s)
                  clear hown9 hgrow9
                  go_roundw
                  case rel => exact ⟨i + 1, putL ls s, D.put (lk s) tt, by omega, by go_num, HX9, HTE9, HB9⟩
                  case measure => simp [intOf]; omega
              · have hs' : (100 : Int) < (s.size : Int) := by omega
                go_wp2_with fail
                go_ret
                exact ⟨rfl, gb_of HBw.out⟩
            · obtain rfl : i = KS.length := by omega
              have HTr := hide (HT.out.below HBw.out (World.block_lt_of_cell? w _ (HT.out 0 (by decide))))
              have HSr := hide (HS0.out.bel HB7.out (by have := HO.out; omega))
              have HTtr := hide (HT0.out.bel HB7.out (by have := HO.out; omega))
              have HI := hide (show 3 * KS.length ≤ 300 by omega)
              have HSZ := hide (show size D ≤ 1000 by rw [HTE.out.size_]; obtain ⟨qv, mo, N, DQ, mu, NU, z⟩ := HX.out; have := z.b3; omega)
              go_upto_region 25 with fail
              refine t25 gs gt f rfl rfl rfl HTr.out HSr.out HTtr.out (fun s W ha hb hg => ?_)
              obtain ⟨aa, ca, ha2⟩ := ha.slice
              obtain ⟨ab, cb, hb2⟩ := hb.slice
              rw [ha2] at ha
              rw [hb2] at hb
              rw [ci_len] at ha hb ha2 hb2
              have HA := hide ha
              have HBb := hide hb
              have HXW := hide (HX.out.grow hg)
              have HBW := hide (HBw.out.trans ((gb_to hg).mono HBw.out.size))
              have HM := hide (mem_len f 4096)
              clear ha hb hg HX HBw HTr HSr HTtr
              simp [overlay, dstsOf, ops_t25, ha2, hb2]
              clear ha2 hb2
              obtain ⟨xs, hxs⟩ : ∃ xs, xs = ci (mem f 4096) := ⟨_, rfl⟩
              rw [← hxs] at HA HBb
              have hxl : (mem f 4096).length = xs.length := by rw [hxs, ci_len]
              rw [hxl] at HA HBb HM
              rw [hxl]
              clear hxs hxl
              go_wp2_with fail
              go_loopw [16, 82] (fun _ iv wz => ∃ i : Nat, i ≤ xs.length ∧ iv = .int .i64 i ∧ Hid (W.grownBy wz none)) (fun _ iv _ => xs.length - (intOf iv).toNat)
              case atStart => exact ⟨0, by omega, rfl, hide (gb_refl _ _)⟩
              case round =>
                rename World => wz
                obtain ⟨i, hi, rfl, HG⟩ := hrel
                by_cases hlt : i < xs.length
                · obtain ⟨b1, o1, rfl, q1⟩ := IntsV.at (HA.out.below (gb_to HG.out)) i hlt
                  obtain ⟨b2, o2, rfl, q2⟩ := IntsV.at (HBb.out.below (gb_to HG.out)) i hlt
                  have q1d : wz.drew.cell? ⟨b1, o1 + i, none⟩ = some (.int .i64 (xs.getD i 0)) := q1
                  have q2d : wz.drew.cell? ⟨b2, o2 + i, none⟩ = some (.int .i64 (xs.getD i 0)) := q2
                  generalize xs.getD i 0 = x at *
                  have hlt' : (i : Int) < (xs.length : Int) := by omega
                  have hi9 : (i : Int) < 5000 := by have := HM.out; omega
                  go_wp2_with fail
                  go_quiet (fail)
                  go_wp2_with fail
                  go_roundw
                  case rel => exact ⟨i + 1, by omega, by go_num, hide (HG.out.trans (gb_drewN _ _ _))⟩
                  case measure => simp [intOf]; omega
                · obtain rfl : i = xs.length := by omega
                  have HXz := hide (HXW.out.grow HG.out)
                  have hsz : size D = ls.length := HTE.out.size_
                  have HSE := hide hsz
                  have hlen : ∀ (W' : World), BX gq gq gu mm (3 * KS.length) ls D D W' → (Builtin.len_ #[58] 3 #[.map (some mm)]).run Tryd.prog W' = .ok (.int .i64 (ls.length : Nat)) W'   := fun W' h => by rw [← hsz]; exact World.ownsMap.len h.seen Tryd.underlying58 3
                  have HLEN := hide hlen
                  have hlen0 := hlen _ HXz.out
                  clear hsz HXW hlen
                  go_wp2_with (first | (go_at_call 28; refine (bx_len HXz.out).mono ?_; rintro e w2 ⟨rfl, rfl⟩) | (go_at_call 29; refine (bx_keys HXz.out HSZ.out).mono ?_; rintro e w3 ⟨kv, ks, rfl, hkv, hkd, hg3⟩; have HG3 := hide hg3; have hlen3 := HLEN.out _ (HXz.out.grow hg3); have hkl : ks.length = ls.length := hkd.len.trans HSE.out; obtain ⟨ak, ck, rfl⟩ := SlV.slice hkv; rw [hkl]; clear hkv hkd hg3 hkl))
                  go_ret
                  exact ⟨rfl, (gb_of HBW.out).trans (HG.out.trans HG3.out)⟩
    · have hL' : ¬ (100 : Int) < (L.length : Int) := by omega
      have hK' : (100 : Int) < (KS.length : Int) := by omega
      go_enter Tryd.func4, Tryd.ntmps4
      go_wp2_with (first | (go_at_call 9; refine (awake_any _ HT.out).mono ?_; rintro e w1 ⟨rfl, hg1⟩; have HG1 := hide hg1; clear hg1))
      go_ret
      exact ⟨rfl, HG1.out⟩
  · have hL' : (100 : Int) < (L.length : Int) := by omega
    go_enter Tryd.func4, Tryd.ntmps4
    go_wp2_with (first | (go_at_call 9; refine (awake_any _ HT.out).mono ?_; rintro e w1 ⟨rfl, hg1⟩; have HG1 := hide hg1; clear hg1))
    go_ret
    exact ⟨rfl, HG1.out⟩
end Go.Proofs.YtdeebmpmfedjbaaDoor
