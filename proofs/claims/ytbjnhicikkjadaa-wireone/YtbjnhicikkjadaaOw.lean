/- WireOne, its walk. -/
import Derived.Test.YtbjnhicikkjadaaOq
import Derived.Test.YtbjnhicikkjadaaAw
import Derived.Test.YtbjnhicikkjadaaTv
import Derived.Test.YtbjnhicikkjadaaSd
import Derived.Test.YtbjnhicikkjadaaMade
import Derived.Deep.Cut
namespace Go.Proofs.Ytbjnhicikkjadaa
open Go.RowKit Ir Wire

theorem SpecV.below {w w' : World} {v : Value} {a b c : Int} {bs : List Int} (h : SpecV w v a b c bs) (hB : Below w.heap.size w w') : SpecV w' v a b c bs := by
  obtain ⟨u, h1, h2, h3, h4, h5⟩ := h
  exact ⟨u, h1, h2, h3, h4, h5.below hB⟩
set_option maxHeartbeats 8000000 in
set_option maxRecDepth 100000 in
theorem one_walk (bv : Value) (xs : List Int) (sp : Value) (sa sb sc : Int) (sbs : List Int) (av : Value) (ns : List Int) (tv : Value) (ts : List Int) (w : World) (hb : Lb.Byt w bv xs) (hs : SpecV w sp sa sb sc sbs) (ha : IntsV w av ns) (ht : Lb.Byt w tv ts) :
    Calls Try.prog 8 #[bv, sp, av, tv] w fun r w' => r = .returned (.bool true) ∧ Below w.heap.size w w' := by
  have hs' := hs
  obtain ⟨us, rfl, hs1, hs2, hs3, hs4⟩ := hs'
  obtain ⟨ax, cx, rfl⟩ := hs4.slice
  obtain ⟨ba, bn, bc, rfl⟩ := bysnd _ _ _ hb
  obtain ⟨na, nc, rfl⟩ := ha.slice
  obtain ⟨ta, tn, tc, rfl⟩ := bysnd _ _ _ ht
  have Hbn := hide (byt_cell hb).1
  have hB0 := bel1' w (.cells #[.int .u8 sa, .int .u8 sb, .int .u8 sc, .slice ax sbs.length cx] 27)
  have HS := hide (hs.below hB0)
  have HBb := hide (hb.below hB0)
  have HA := hide (ha.below hB0)
  have HT := hide (ht.below hB0)
  have HB0 := hide hB0
  clear hs hb ha ht hs1 hs2 hs3 hs4 hB0
  go_enter Try.func8, Try.ntmps8
  go_wp2_with fail
  refine (awake_any _).mono ?_
  rintro r w1 ⟨rfl, hB1⟩
  obtain ⟨s0, s1, s2, s3⟩ := box4 (box_b hB1)
  have HS := hide (HS.out.below hB1)
  have HBb := hide (HBb.out.below hB1)
  have HA := hide (HA.out.below hB1)
  have HT := hide (HT.out.below hB1)
  have HB1 := hide (HB0.out.trans (hB1.mono (by simp)))
  clear hB1 HB0
  by_cases h3 : 3000 < bn
  · have g3 : (3000 : Int) < (bn : Int) := by omega
    go_wp2_with fail
    go_ret
    exact ⟨rfl, HB1.out⟩
  · have g3 : ¬ (3000 : Int) < (bn : Int) := by omega
    have Hbl : Hid (xs.length ≤ 3000) := by show _ ≤ _; have := Hbn.out; omega
    have hMd := hide (made_any _ sa sb sc sbs w1 HS.out)
    have hright := hide (made_right sa sb sc sbs)
    have hrgd := hide (made_rgd sa sb sc sbs)
    generalize hMM : made sa sb sc sbs = M at hMd hright hrgd
    clear hMM h3
    go_wp2_with fail
    refine hMd.out.mono ?_
    rintro r w2 ⟨um, rfl, hO, hB2⟩
    obtain ⟨ma, mc, rfl⟩ := hO.v.slice
    have hck : (chk M).1 = 0 := by rw [hright.out]
    have hW := hide (wfunc_ok M _ w2 ⟨_, rfl, hO.v⟩ hck hrgd.out)
    have Hm := hide (funB_most hck hrgd.out)
    have HBb := hide (HBb.out.below hB2)
    have HA := hide (HA.out.below hB2)
    have HT := hide (HT.out.below hB2)
    have HB2 := hide (bel_of HB1.out hB2)
    clear hO hB2 hMd HB1 s0 s1 s2 s3 HS hck g3
    go_wp2_with fail
    refine hW.out.mono ?_
    rintro r w3 ⟨yv, rfl, hY, hB3⟩
    obtain ⟨ya, yn, yc, rfl⟩ := bysnd _ _ _ hY.byt
    have HBb := hide (HBb.out.below hB3)
    have HB3 := hide (bel_of HB2.out hB3)
    have hTu := hide (turned_any _ _ _ _ ns ts w3 hY.byt (HA.out.below hB3) (HT.out.below hB3) (by have := Hm.out; omega))
    clear hY hB3 hW HB2 HA HT
    go_wp2_with fail
    refine hTu.out.mono ?_
    rintro r w4 ⟨zv, zs1, rfl, hZ, hzl, hB4⟩
    obtain ⟨z1a, z1n, z1c, rfl⟩ := bysnd _ _ _ hZ
    have hBx := bel1' w4 (.cells #[.slice ba bn bc, .slice z1a z1n z1c] 25)
    have hrow := heap_alloc_new w4 (.cells #[.slice ba bn bc, .slice z1a z1n z1c] 25)
    have HX : Hid (∀ j, j < 2 → ∃ (za : Option Addr) (zn zc : Nat) (zs : List Int), (w4.alloc (.cells #[.slice ba bn bc, .slice z1a z1n z1c] 25)).cell? ⟨w4.heap.size, j, none⟩ = some (.slice za zn zc) ∧ Lb.Byt (w4.alloc (.cells #[.slice ba bn bc, .slice z1a z1n z1c] 25)) (.slice za zn zc) zs ∧ zs.length ≤ 1000000000) := by
      intro j hj
      match j, hj with
      | 0, _ => exact ⟨ba, bn, bc, xs, by rw [cell_of_row _ _ _ _ _ _ hrow]; rfl, (HBb.out.below hB4).below hBx, by have := Hbl.out; omega⟩
      | 1, _ => exact ⟨z1a, z1n, z1c, zs1, by rw [cell_of_row _ _ _ _ _ _ hrow]; rfl, hZ.below hBx, by have := Hm.out; omega⟩
    have HB4 := hide (bel_of HB3.out (bel_of hB4 hBx))
    clear hZ hzl hB4 hBx hrow hTu HB3 HBb Hbl Hm hright hrgd
    go_upto_region 7 with fail
    generalize (w4.alloc (.cells #[.slice ba bn bc, .slice z1a z1n z1c] 25)) = w8 at *
    generalize w4.heap.size = g8 at *
    go_wp2_with fail
    go_loopw [12, 14, 15, 16, 18, 19, 20, 21, 22, 23, 24, 43] (fun _ _ _ _ _ _ _ _ _ _ _ iv wr => ∃ j : Nat, j ≤ 2 ∧ iv = .int .i64 j ∧ Below w8.heap.size w8 wr) (fun _ _ _ _ _ _ _ _ _ _ _ iv _ => 2 - (intOf iv).toNat)
    case atStart => exact ⟨0, by omega, rfl, Below.refl _ _⟩
    case round =>
      rename World => ws
      obtain ⟨j, hj, rfl, hBs⟩ := hrel
      by_cases hlt : j < 2
      · have hlt' : (j : Int) < 2 := by omega
        obtain ⟨za, zn, zc, zs, hcell, hZ, hl⟩ := HX.out j hlt
        have hcell := cell_below hBs hcell
        have HZ := hide (hZ.below hBs)
        have Hl := hide hl
        have Hbs : Hid (Bs zs) := by obtain ⟨_, h, _⟩ := hZ; exact h
        have HB := hide hBs
        clear hZ hl hBs
        have hR := hide (readFunc_any (.slice za zn zc) zs _ HZ.out Hl.out)
        have H1 := hide (oneF (Hbs.out))
        obtain ⟨R, hRe⟩ : ∃ R, R = rd zF funP okF zs := ⟨_, rfl⟩
        rw [← hRe] at hR H1
        clear hRe
        obtain ⟨R, c⟩ := R
        simp only at hR H1
        go_wp2_with fail
        refine hR.out.mono ?_
        rintro r wa1 ⟨u, rfl, hu, hB⟩
        obtain ⟨ua, uc, rfl⟩ := hu.v.slice
        have hBx := bel1' wa1 (.cells #[.int .i64 R.p, .int .i64 R.v, .slice ua R.bs.length uc] 24)
        obtain ⟨x0, x1, x2⟩ := box3 (heap_alloc_new wa1 (.cells #[.int .i64 R.p, .int .i64 R.v, .slice ua R.bs.length uc] 24))
        have Hu := hide (hu.v.below hBx)
        have HZ := hide (HZ.out.below (bel_of hB hBx))
        have HB := hide (HB.out.trans ((bel_of hB hBx).mono HB.out.size))
        clear hu hB hBx hR
        by_cases hc : c = 0
        · subst hc
          obtain ⟨he, hck, hrg⟩ := H1.out rfl
          have hW := hide (wfunc_ok R (.agg #[.int .i64 R.p, .int .i64 R.v, .slice ua R.bs.length uc]) (wa1.alloc (.cells #[.int .i64 R.p, .int .i64 R.v, .slice ua R.bs.length uc] 24)) ⟨_, rfl, Hu.out⟩ hck hrg)
          rw [← he] at hW
          clear he hck hrg H1 Hu
          go_wp2_with fail
          refine hW.out.mono ?_
          rintro r wb1 ⟨v, rfl, hO, hB⟩
          obtain ⟨va, vn, vc, rfl⟩ := bysnd _ _ _ hO.byt
          have hc1 := str_conv hO.byt
          have HZ := hide (HZ.out.below hB)
          have hc2 := str_conv HZ.out
          have HB := hide (HB.out.trans (hB.mono HB.out.size))
          have heq : ((strOfNums zs).toList == (strOfNums zs).toList) = true := by simp
          clear hO hB hW
          go_upto_region 14 with fail
          clear hc1 hc2 heq x0 x1 x2
          have hR := hide (readCode_any (.slice za zn zc) zs _ HZ.out Hl.out)
          have H1 := hide (oneC (Hbs.out))
          obtain ⟨R, hRe⟩ : ∃ R, R = rd zC codP okC zs := ⟨_, rfl⟩
          rw [← hRe] at hR H1
          clear hRe
          obtain ⟨R, c⟩ := R
          simp only at hR H1
          go_wp2_with fail
          refine hR.out.mono ?_
          rintro r wa2 ⟨u, rfl, hu, hB⟩
          obtain ⟨ua, uc, rfl⟩ := hu.v.slice
          have hBx := bel1' wa2 (.cells #[.int .i64 R.p, .int .i64 R.r, .int .i64 R.s, .slice ua R.bs.length uc] 42)
          obtain ⟨x0, x1, x2, x3⟩ := box4 (heap_alloc_new wa2 (.cells #[.int .i64 R.p, .int .i64 R.r, .int .i64 R.s, .slice ua R.bs.length uc] 42))
          have Hu := hide (hu.v.below hBx)
          have HZ := hide (HZ.out.below (bel_of hB hBx))
          have HB := hide (HB.out.trans ((bel_of hB hBx).mono HB.out.size))
          clear hu hB hBx hR
          by_cases hc : c = 0
          · subst hc
            obtain ⟨he, hck, hrg⟩ := H1.out rfl
            have hW := hide (wcode_ok R (.agg #[.int .i64 R.p, .int .i64 R.r, .int .i64 R.s, .slice ua R.bs.length uc]) (wa2.alloc (.cells #[.int .i64 R.p, .int .i64 R.r, .int .i64 R.s, .slice ua R.bs.length uc] 42)) ⟨_, rfl, Hu.out⟩ hck hrg)
            rw [← he] at hW
            clear he hck hrg H1 Hu
            go_wp2_with fail
            refine hW.out.mono ?_
            rintro r wb2 ⟨v, rfl, hO, hB⟩
            obtain ⟨va, vn, vc, rfl⟩ := bysnd _ _ _ hO.byt
            have hc1 := str_conv hO.byt
            have HZ := hide (HZ.out.below hB)
            have hc2 := str_conv HZ.out
            have HB := hide (HB.out.trans (hB.mono HB.out.size))
            have heq : ((strOfNums zs).toList == (strOfNums zs).toList) = true := by simp
            clear hO hB hW
            go_upto_region 19 with fail
            clear hc1 hc2 heq x0 x1 x2 x3
            have hR := hide (readCert_any (.slice za zn zc) zs _ HZ.out Hl.out)
            have H1 := hide (oneL (Hbs.out))
            obtain ⟨R, hRe⟩ : ∃ R, R = rd [] cerP (fun _ => true) zs := ⟨_, rfl⟩
            rw [← hRe] at hR H1
            clear hRe
            obtain ⟨R, c⟩ := R
            simp only at hR H1
            go_wp2_with fail
            refine hR.out.mono ?_
            rintro r wa3 ⟨u, rfl, hu, hB⟩
            have Hu := hide hu.v
            obtain ⟨ua, uc, rfl⟩ := SlV.slice Hu.out
            have HZ := hide (HZ.out.below hB)
            have HB := hide (HB.out.trans (hB.mono HB.out.size))
            clear hu hB hR
            by_cases hc : c = 0
            · subst hc
              obtain ⟨he, hck⟩ := H1.out rfl
              have hW := hide (wcert_any wa3 (.slice ua R.length uc) R Hu.out (fun x hx => by have := (hck.2 x hx).1; omega))
              rw [cerA_of hck, ← he] at hW
              clear he hck H1 Hu
              go_wp2_with fail
              refine hW.out.mono ?_
              rintro r wb3 ⟨v, rfl, hO, hB⟩
              obtain ⟨va, vn, vc, rfl⟩ := bysnd _ _ _ hO.byt
              have hc1 := str_conv hO.byt
              have HZ := hide (HZ.out.below hB)
              have hc2 := str_conv HZ.out
              have HB := hide (HB.out.trans (hB.mono HB.out.size))
              have heq : ((strOfNums zs).toList == (strOfNums zs).toList) = true := by simp
              clear hO hB hW
              go_upto_region 24 with fail
              clear hc1 hc2 heq
              clear HZ
              go_wp2_with fail
              go_roundw
              case rel => exact ⟨j + 1, by omega, by first | go_num | (simp; omega), HB.out⟩
              case measure => simp [intOf]; omega
            · have hcn : (c == 0) = false := by simp [hc]
              clear hc H1 Hu
              go_upto_region 24 with fail
              clear hcn
              clear HZ
              go_wp2_with fail
              go_roundw
              case rel => exact ⟨j + 1, by omega, by first | go_num | (simp; omega), HB.out⟩
              case measure => simp [intOf]; omega
          · have hcn : (c == 0) = false := by simp [hc]
            clear hc H1 Hu
            go_upto_region 19 with fail
            clear hcn x0 x1 x2 x3
            have hR := hide (readCert_any (.slice za zn zc) zs _ HZ.out Hl.out)
            have H1 := hide (oneL (Hbs.out))
            obtain ⟨R, hRe⟩ : ∃ R, R = rd [] cerP (fun _ => true) zs := ⟨_, rfl⟩
            rw [← hRe] at hR H1
            clear hRe
            obtain ⟨R, c⟩ := R
            simp only at hR H1
            go_wp2_with fail
            refine hR.out.mono ?_
            rintro r wa6 ⟨u, rfl, hu, hB⟩
            have Hu := hide hu.v
            obtain ⟨ua, uc, rfl⟩ := SlV.slice Hu.out
            have HZ := hide (HZ.out.below hB)
            have HB := hide (HB.out.trans (hB.mono HB.out.size))
            clear hu hB hR
            by_cases hc : c = 0
            · subst hc
              obtain ⟨he, hck⟩ := H1.out rfl
              have hW := hide (wcert_any wa6 (.slice ua R.length uc) R Hu.out (fun x hx => by have := (hck.2 x hx).1; omega))
              rw [cerA_of hck, ← he] at hW
              clear he hck H1 Hu
              go_wp2_with fail
              refine hW.out.mono ?_
              rintro r wb6 ⟨v, rfl, hO, hB⟩
              obtain ⟨va, vn, vc, rfl⟩ := bysnd _ _ _ hO.byt
              have hc1 := str_conv hO.byt
              have HZ := hide (HZ.out.below hB)
              have hc2 := str_conv HZ.out
              have HB := hide (HB.out.trans (hB.mono HB.out.size))
              have heq : ((strOfNums zs).toList == (strOfNums zs).toList) = true := by simp
              clear hO hB hW
              go_upto_region 24 with fail
              clear hc1 hc2 heq
              clear HZ
              go_wp2_with fail
              go_roundw
              case rel => exact ⟨j + 1, by omega, by first | go_num | (simp; omega), HB.out⟩
              case measure => simp [intOf]; omega
            · have hcn : (c == 0) = false := by simp [hc]
              clear hc H1 Hu
              go_upto_region 24 with fail
              clear hcn
              clear HZ
              go_wp2_with fail
              go_roundw
              case rel => exact ⟨j + 1, by omega, by first | go_num | (simp; omega), HB.out⟩
              case measure => simp [intOf]; omega
        · have hcn : (c == 0) = false := by simp [hc]
          clear hc H1 Hu
          go_upto_region 14 with fail
          clear hcn x0 x1 x2
          have hR := hide (readCode_any (.slice za zn zc) zs _ HZ.out Hl.out)
          have H1 := hide (oneC (Hbs.out))
          obtain ⟨R, hRe⟩ : ∃ R, R = rd zC codP okC zs := ⟨_, rfl⟩
          rw [← hRe] at hR H1
          clear hRe
          obtain ⟨R, c⟩ := R
          simp only at hR H1
          go_wp2_with fail
          refine hR.out.mono ?_
          rintro r wa9 ⟨u, rfl, hu, hB⟩
          obtain ⟨ua, uc, rfl⟩ := hu.v.slice
          have hBx := bel1' wa9 (.cells #[.int .i64 R.p, .int .i64 R.r, .int .i64 R.s, .slice ua R.bs.length uc] 42)
          obtain ⟨x0, x1, x2, x3⟩ := box4 (heap_alloc_new wa9 (.cells #[.int .i64 R.p, .int .i64 R.r, .int .i64 R.s, .slice ua R.bs.length uc] 42))
          have Hu := hide (hu.v.below hBx)
          have HZ := hide (HZ.out.below (bel_of hB hBx))
          have HB := hide (HB.out.trans ((bel_of hB hBx).mono HB.out.size))
          clear hu hB hBx hR
          by_cases hc : c = 0
          · subst hc
            obtain ⟨he, hck, hrg⟩ := H1.out rfl
            have hW := hide (wcode_ok R (.agg #[.int .i64 R.p, .int .i64 R.r, .int .i64 R.s, .slice ua R.bs.length uc]) (wa9.alloc (.cells #[.int .i64 R.p, .int .i64 R.r, .int .i64 R.s, .slice ua R.bs.length uc] 42)) ⟨_, rfl, Hu.out⟩ hck hrg)
            rw [← he] at hW
            clear he hck hrg H1 Hu
            go_wp2_with fail
            refine hW.out.mono ?_
            rintro r wb9 ⟨v, rfl, hO, hB⟩
            obtain ⟨va, vn, vc, rfl⟩ := bysnd _ _ _ hO.byt
            have hc1 := str_conv hO.byt
            have HZ := hide (HZ.out.below hB)
            have hc2 := str_conv HZ.out
            have HB := hide (HB.out.trans (hB.mono HB.out.size))
            have heq : ((strOfNums zs).toList == (strOfNums zs).toList) = true := by simp
            clear hO hB hW
            go_upto_region 19 with fail
            clear hc1 hc2 heq x0 x1 x2 x3
            have hR := hide (readCert_any (.slice za zn zc) zs _ HZ.out Hl.out)
            have H1 := hide (oneL (Hbs.out))
            obtain ⟨R, hRe⟩ : ∃ R, R = rd [] cerP (fun _ => true) zs := ⟨_, rfl⟩
            rw [← hRe] at hR H1
            clear hRe
            obtain ⟨R, c⟩ := R
            simp only at hR H1
            go_wp2_with fail
            refine hR.out.mono ?_
            rintro r wa10 ⟨u, rfl, hu, hB⟩
            have Hu := hide hu.v
            obtain ⟨ua, uc, rfl⟩ := SlV.slice Hu.out
            have HZ := hide (HZ.out.below hB)
            have HB := hide (HB.out.trans (hB.mono HB.out.size))
            clear hu hB hR
            by_cases hc : c = 0
            · subst hc
              obtain ⟨he, hck⟩ := H1.out rfl
              have hW := hide (wcert_any wa10 (.slice ua R.length uc) R Hu.out (fun x hx => by have := (hck.2 x hx).1; omega))
              rw [cerA_of hck, ← he] at hW
              clear he hck H1 Hu
              go_wp2_with fail
              refine hW.out.mono ?_
              rintro r wb10 ⟨v, rfl, hO, hB⟩
              obtain ⟨va, vn, vc, rfl⟩ := bysnd _ _ _ hO.byt
              have hc1 := str_conv hO.byt
              have HZ := hide (HZ.out.below hB)
              have hc2 := str_conv HZ.out
              have HB := hide (HB.out.trans (hB.mono HB.out.size))
              have heq : ((strOfNums zs).toList == (strOfNums zs).toList) = true := by simp
              clear hO hB hW
              go_upto_region 24 with fail
              clear hc1 hc2 heq
              clear HZ
              go_wp2_with fail
              go_roundw
              case rel => exact ⟨j + 1, by omega, by first | go_num | (simp; omega), HB.out⟩
              case measure => simp [intOf]; omega
            · have hcn : (c == 0) = false := by simp [hc]
              clear hc H1 Hu
              go_upto_region 24 with fail
              clear hcn
              clear HZ
              go_wp2_with fail
              go_roundw
              case rel => exact ⟨j + 1, by omega, by first | go_num | (simp; omega), HB.out⟩
              case measure => simp [intOf]; omega
          · have hcn : (c == 0) = false := by simp [hc]
            clear hc H1 Hu
            go_upto_region 19 with fail
            clear hcn x0 x1 x2 x3
            have hR := hide (readCert_any (.slice za zn zc) zs _ HZ.out Hl.out)
            have H1 := hide (oneL (Hbs.out))
            obtain ⟨R, hRe⟩ : ∃ R, R = rd [] cerP (fun _ => true) zs := ⟨_, rfl⟩
            rw [← hRe] at hR H1
            clear hRe
            obtain ⟨R, c⟩ := R
            simp only at hR H1
            go_wp2_with fail
            refine hR.out.mono ?_
            rintro r wa13 ⟨u, rfl, hu, hB⟩
            have Hu := hide hu.v
            obtain ⟨ua, uc, rfl⟩ := SlV.slice Hu.out
            have HZ := hide (HZ.out.below hB)
            have HB := hide (HB.out.trans (hB.mono HB.out.size))
            clear hu hB hR
            by_cases hc : c = 0
            · subst hc
              obtain ⟨he, hck⟩ := H1.out rfl
              have hW := hide (wcert_any wa13 (.slice ua R.length uc) R Hu.out (fun x hx => by have := (hck.2 x hx).1; omega))
              rw [cerA_of hck, ← he] at hW
              clear he hck H1 Hu
              go_wp2_with fail
              refine hW.out.mono ?_
              rintro r wb13 ⟨v, rfl, hO, hB⟩
              obtain ⟨va, vn, vc, rfl⟩ := bysnd _ _ _ hO.byt
              have hc1 := str_conv hO.byt
              have HZ := hide (HZ.out.below hB)
              have hc2 := str_conv HZ.out
              have HB := hide (HB.out.trans (hB.mono HB.out.size))
              have heq : ((strOfNums zs).toList == (strOfNums zs).toList) = true := by simp
              clear hO hB hW
              go_upto_region 24 with fail
              clear hc1 hc2 heq
              clear HZ
              go_wp2_with fail
              go_roundw
              case rel => exact ⟨j + 1, by omega, by first | go_num | (simp; omega), HB.out⟩
              case measure => simp [intOf]; omega
            · have hcn : (c == 0) = false := by simp [hc]
              clear hc H1 Hu
              go_upto_region 24 with fail
              clear hcn
              clear HZ
              go_wp2_with fail
              go_roundw
              case rel => exact ⟨j + 1, by omega, by first | go_num | (simp; omega), HB.out⟩
              case measure => simp [intOf]; omega
      · obtain rfl : j = 2 := by omega
        go_wp2_with fail
        go_ret
        exact ⟨rfl, HB4.out.trans (hBs.mono HB4.out.size)⟩
end Go.Proofs.Ytbjnhicikkjadaa
