/- WireCerts, its walk. -/
import Derived.Test.YtbjnhicikkjadaaKq
namespace Go.Proofs.Ytbjnhicikkjadaa
open Go.RowKit Ir Wire

set_option maxHeartbeats 8000000 in
set_option maxRecDepth 100000 in
theorem certs_walk (lv : Value) (l : List (List Pair)) (bv : Value) (xs : List Int) (av : Value) (ns : List Int) (tv : Value) (ts : List Int) (w : World) (hl : CerV w lv l) (hb : Lb.Byt w bv xs) (ha : IntsV w av ns) (ht : Lb.Byt w tv ts) :
    Calls Try.prog 6 #[lv, bv, av, tv] w fun r w' => r = .returned (.bool true) ∧ Below w.heap.size w w' := by
  obtain ⟨la, lc, rfl⟩ := SlV.slice hl
  obtain ⟨ba, bn, bc, rfl⟩ := bysnd _ _ _ hb
  obtain ⟨na, nc, rfl⟩ := ha.slice
  obtain ⟨ta, tn, tc, rfl⟩ := bysnd _ _ _ ht
  have Hbn := hide (byt_cell hb).1
  have HL := hide hl
  have HBb := hide hb
  have HA := hide ha
  have HT := hide ht
  clear hl hb ha ht
  go_enter Try.func6, Try.ntmps6
  go_wp2_with fail
  refine (awake_pos _).mono ?_
  rintro r w1 ⟨rfl, hB1, hpos⟩
  have HL := hide (HL.out.below hB1)
  have HBb := hide (HBb.out.below hB1)
  have HA := hide (HA.out.below hB1)
  have HT := hide (HT.out.below hB1)
  have HB1 := hide hB1
  have Hpos := hide hpos
  clear hB1 hpos
  by_cases h1 : 100 < l.length
  · have g1 : (100 : Int) < (l.length : Int) := by omega
    go_wp2_with fail
    go_ret
    exact ⟨rfl, HB1.out⟩
  have g1 : ¬ (100 : Int) < (l.length : Int) := by omega
  by_cases h3 : 3000 < bn
  · have g3 : (3000 : Int) < (bn : Int) := by omega
    go_wp2_with fail
    go_ret
    exact ⟨rfl, HB1.out⟩
  have g3 : ¬ (3000 : Int) < (bn : Int) := by omega
  have Hbl : Hid (xs.length ≤ 3000) := by show _ ≤ _; have := Hbn.out; omega
  have Hll : Hid (l.length ≤ 100) := by show _ ≤ _; omega
  clear h1 h3
  go_wp2_with fail
  clear g1 g3
  go_loopw [10, 33] (fun _ iv wr => ∃ j : Nat, j ≤ l.length ∧ iv = .int .i64 j ∧ wr = w1 ∧ Hid (∀ i, i < j → (l.getD i []).length ≤ 500)) (fun _ iv _ => l.length - (intOf iv).toNat)
  case atStart => exact ⟨0, by omega, rfl, rfl, fun i hi => by omega⟩
  case round =>
    obtain ⟨j, hj, rfl, rfl, hall⟩ := hrel
    by_cases hlt : j < l.length
    · obtain ⟨b, off, rfl, u, hc, hu⟩ := SlV.at HL.out j hlt
      rw [Nat.mul_one] at hc
      have hlt' : (j : Int) < (l.length : Int) := by omega
      have g0 : (0 : Int) ≤ (j : Int) := by omega
      obtain ⟨ua, uc, rfl⟩ := SlV.slice hu
      clear hu
      by_cases h5 : 500 < (l.getD j []).length
      · have g5 : (500 : Int) < ((l.getD j []).length : Int) := by omega
        generalize (l.getD j []).length = un at *
        go_wp2_with fail
        go_ret
        exact ⟨rfl, HB1.out⟩
      · have g5 : ¬ (500 : Int) < ((l.getD j []).length : Int) := by omega
        have hall2 : Hid (∀ i, i < j + 1 → (l.getD i []).length ≤ 500) := by
          intro i hi
          by_cases e : i = j
          · subst e; omega
          · exact hall.out i (by omega)
        clear hall h5
        generalize (l.getD j []).length = un at *
        go_wp2_with fail
        go_roundw
        case rel => exact ⟨j + 1, by omega, by go_num, by first | trivial | rfl, hall2⟩
        case measure => simp [intOf]; omega
    · obtain rfl : j = l.length := by omega
      have hs : ∀ x ∈ l, x.length ≤ 500 := by
        intro x hx
        obtain ⟨i, hi, rfl⟩ := List.getElem_of_mem hx
        have := hall.out i hi
        simpa [List.getElem?_eq_getElem hi] using this
      rename World => w1
      have hW := hide (wcert_any w1 _ l HL.out (fun x hx => by have := hs x hx; omega))
      have hlen := hide (cerA_len hs)
      have hRk := hide (fun W (h : Below w1.heap.size w1 W) => refCert_any W _ l (HL.out.below h) (fun x hx => by have := hs x hx; omega))
      generalize cerA l = ca at *
      obtain ⟨ys, cc⟩ := ca
      simp only at hW hlen hRk
      clear hall hs
      go_wp2_with fail
      refine hW.out.mono ?_
      rintro r w2 ⟨cv, rfl, hO, hB2⟩
      obtain ⟨ca, cn, ccp, rfl⟩ := bysnd _ _ _ hO.byt
      have hRk := hide (hRk.out w2 hB2)
      have HO := hide hO.byt
      have HBb := hide (HBb.out.below hB2)
      have HA := hide (HA.out.below hB2)
      have HT := hide (HT.out.below hB2)
      have HB2 := hide (bel_of HB1.out hB2)
      have Hpos := hide (Nat.lt_of_lt_of_le Hpos.out hB2.size)
      clear hO hB2 hW HL HB1
      go_wp2_with fail
      refine hRk.out.mono ?_
      rintro r w3 ⟨dv, rfl, hD, hB3⟩
      obtain ⟨da, dn, dc, rfl⟩ := bysnd _ _ _ hD
      have HO := hide (HO.out.below hB3)
      have hc1 := str_conv HO.out
      have hc2 := str_conv hD
      have heq : ((strOfNums ys).toList == (strOfNums ys).toList) = true := by simp
      have hce : (cc == cc) = true := by simp
      have HBb := hide (HBb.out.below hB3)
      have HA := hide (HA.out.below hB3)
      have HT := hide (HT.out.below hB3)
      have HB3 := hide (bel_of HB2.out hB3)
      have Hpos := hide (Nat.lt_of_lt_of_le Hpos.out hB3.size)
      clear hD hB3 hRk HB2
      go_upto_region 15 with fail
      clear hc1 hc2 heq hce
      have hTu := hide (turned_any _ _ _ _ ns ts w3 HO.out HA.out HT.out (by have := hlen.out; omega))
      go_wp2_with fail
      refine hTu.out.mono ?_
      rintro r w4 ⟨zv, zs1, rfl, hZ, hzl, hB4⟩
      obtain ⟨z1a, z1n, z1c, rfl⟩ := bysnd _ _ _ hZ
      have hBx := bel1' w4 (.cells #[.slice ba bn bc, .slice ca cn ccp, .slice z1a z1n z1c] 25)
      have hrow := heap_alloc_new w4 (.cells #[.slice ba bn bc, .slice ca cn ccp, .slice z1a z1n z1c] 25)
      have HX : Hid (∀ j, j < 3 → ∃ (za : Option Addr) (zn zc : Nat) (zs : List Int), (w4.alloc (.cells #[.slice ba bn bc, .slice ca cn ccp, .slice z1a z1n z1c] 25)).cell? ⟨w4.heap.size, j, none⟩ = some (.slice za zn zc) ∧ Lb.Byt (w4.alloc (.cells #[.slice ba bn bc, .slice ca cn ccp, .slice z1a z1n z1c] 25)) (.slice za zn zc) zs ∧ zs.length ≤ 1000000000) := by
        intro j hj
        match j, hj with
        | 0, _ => exact ⟨ba, bn, bc, xs, by rw [cell_of_row _ _ _ _ _ _ hrow]; rfl, (HBb.out.below hB4).below hBx, by have := Hbl.out; omega⟩
        | 1, _ => exact ⟨ca, cn, ccp, ys, by rw [cell_of_row _ _ _ _ _ _ hrow]; rfl, (HO.out.below hB4).below hBx, by have := hlen.out; omega⟩
        | 2, _ => exact ⟨z1a, z1n, z1c, zs1, by rw [cell_of_row _ _ _ _ _ _ hrow]; rfl, hZ.below hBx, by have := hlen.out; omega⟩
      have HB4 := hide (bel_of HB3.out (bel_of hB4 hBx))
      have Hpos : Hid (0 < (w4.alloc (.cells #[.slice ba bn bc, .slice ca cn ccp, .slice z1a z1n z1c] 25)).heap.size) := hide (by simp)
      clear hZ hzl hB4 hBx hrow hTu HB3 HBb Hbl hlen HO HA HT
      go_upto_region 16 with fail
      generalize (w4.alloc (.cells #[.slice ba bn bc, .slice ca cn ccp, .slice z1a z1n z1c] 25)) = w8 at *
      generalize w4.heap.size = g8 at *
      go_wp2_with fail
      go_loopw [16, 17, 18, 19, 20, 69] (fun _ _ _ _ _ iv wr => ∃ j : Nat, j ≤ 3 ∧ iv = .int .i64 j ∧ Below w8.heap.size w8 wr) (fun _ _ _ _ _ iv _ => 3 - (intOf iv).toNat)
      case atStart => exact ⟨0, by omega, rfl, Below.refl _ _⟩
      case round =>
        rename World => ws
        obtain ⟨j, hj, rfl, hBs⟩ := hrel
        by_cases hlt : j < 3
        · have hlt' : (j : Int) < 3 := by omega
          obtain ⟨za, zn, zc, zs, hcell, hZ, hl⟩ := HX.out j hlt
          have hcell := cell_below hBs hcell
          have HZ := hide (hZ.below hBs)
          have Hbs : Hid (Bs zs) := by obtain ⟨_, h, _⟩ := hZ; exact h
          have HB := hide hBs
          have hR := hide (readCert_any (.slice za zn zc) zs ws HZ.out hl)
          have hR2 := hide (fun W (h : Below ws.heap.size ws W) => refReadCert_any (.slice za zn zc) zs W (HZ.out.below h) (by have h1 := h.size; have h2 := HB.out.size; have h3 := Hpos.out; omega))
          have hsm := hide (rd_small Hbs.out)
          obtain ⟨R, hRe⟩ : ∃ R, R = rd [] cerP (fun _ => true) zs := ⟨_, rfl⟩
          rw [← hRe] at hR hR2 hsm
          clear hRe hZ hl hBs
          obtain ⟨R, c⟩ := R
          simp only at hR hR2 hsm
          go_wp2_with fail
          refine hR.out.mono ?_
          rintro r wa ⟨u, rfl, hu, hB⟩
          obtain ⟨ua, uc, rfl⟩ := SlV.slice hu.v
          have Hu := hide hu.v
          have HRb := hide (hR2.out wa hB)
          have HB := hide (HB.out.trans (hB.mono HB.out.size))
          clear hu hB hR hR2 hcell
          go_wp2_with fail
          refine HRb.out.mono ?_
          rintro r wb ⟨u2, rfl, hu2, hB2⟩
          obtain ⟨ua2, uc2, rfl⟩ := SlV.slice hu2.v
          have HS := hide (sameCerts_any _ _ R wb (Hu.out.below hB2) hu2.v (by have := hsm.out.1; omega) (fun x hx => by have := hsm.out.2 x hx; omega))
          have HB := hide (HB.out.trans (hB2.mono HB.out.size))
          have hce : (c == c) = true := by simp
          clear hu2 hB2 HRb Hu hsm
          go_wp2_with fail
          refine HS.out.mono ?_
          rintro r wc ⟨rfl, hB3⟩
          have HB := hide (HB.out.trans (hB3.mono HB.out.size))
          clear hB3 HS
          go_wp2_with fail
          go_roundw
          case rel => exact ⟨j + 1, by omega, by first | go_num | (simp; omega), HB.out⟩
          case measure => simp [intOf]; omega
        · obtain rfl : j = 3 := by omega
          go_wp2_with fail
          go_ret
          exact ⟨rfl, HB4.out.trans (hBs.mono HB4.out.size)⟩
end Go.Proofs.Ytbjnhicikkjadaa
