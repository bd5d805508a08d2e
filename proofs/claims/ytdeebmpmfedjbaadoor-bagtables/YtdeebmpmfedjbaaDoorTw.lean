/- BagTables: the walk. -/
import Derived.Test.YtdeebmpmfedjbaaDoorTs
import Derived.Test.YtdeebmpmfedjbaaDoorQw
import Derived.Laws.Cover1
namespace Go.Proofs.YtdeebmpmfedjbaaDoor
open Go Go.RowKit Bag Go.Maps
set_option linter.unusedVariables false
theorem getV_inj {D : DT} {s : ByteArray} {a b : Int} (h : getV D s a) (k : getV D s b) : a = b := by
  have e : li a = li b := h.symm.trans k
  simpa [li] using e
set_option maxHeartbeats 16000000 in
set_option maxRecDepth 100000 in
theorem tables_any (v : Value) (xs : List TurnD) (w : World) (hT : Tab w) (hx : TurnsV w v xs) : Calls Tryd.prog 6 #[v] w fun e w' => e = .returned (.bool true) ∧ w.grownBy w' none := by
  obtain ⟨ao0, cap0, rfl⟩ := SlV.slice hx
  have HT0 := hide hT
  have HX := hide hx
  clear hT hx
  have hmk := @run_makeMap Tryd.prog
  go_enter Tryd.func6, Tryd.ntmps6
  go_wp2_with (first | (go_at_call 9; refine (awake_any _ HT0.out).mono ?_; rintro e w1 ⟨rfl, hg1⟩; have HG1 := hide hg1; clear hg1) | (refine wpList_newv 3 rfl rfl 78 rfl _ zero78 ?_; intro gt w2 h2))
  have HB3 := hide (show Below w.heap.size w (w2.alloc (.map #[] 0)) from gb_to ((HG1.out.trans (gb_at h2.out)).trans (World.grownBy_alloc w2 _ none)))
  have hgt2 := (Array.getElem?_eq_some_iff.1 h2.out.2.1).1
  have hw2 : w.heap.size ≤ w2.heap.size := Nat.le_trans HG1.out.size (gb_at h2.out).size
  have HT3 : Hid (TS w.heap.size gt w2.heap.size 0 (.map []) (w2.alloc (.map #[] 0))) := hide (ts_new (cells_at h2.out.2.1 (World.grownBy_alloc w2 _ none) (by simp)) (by rw [h2.out.1]; exact HG1.out.size) (by omega) (by simp; omega) (by simp))
  have HO3 : Hid (OS w.heap.size w2.heap.size 0 (.map []) (w2.alloc (.map #[] 0))) := hide ⟨0, World.ownsMap_made w2 Tryd.prog 9 (plainElem Tryd.prog 3), Nat.le_refl _, hw2⟩
  clear h2 HG1 hgt2 hw2 hmk
  generalize w2.heap.size = mm at *
  go_loopw [23] (fun iv wr => ∃ (i : Nat) (D : DT), i ≤ xs.length ∧ i ≤ 201 ∧ iv = .int .i64 i ∧ Hid (TS w.heap.size gt mm i D wr) ∧ Hid (OS w.heap.size mm i D wr) ∧ Hid (Below w.heap.size w wr)) (fun iv _ => xs.length - (intOf iv).toNat)
  case atStart => exact ⟨0, _, by omega, by omega, rfl, HT3, HO3, HB3⟩
  case round =>
    rename World => wq
    obtain ⟨i, D, hiL, hi2, rfl, HT, HO, HB⟩ := hrel
    by_cases hlt : i < xs.length
    · obtain ⟨b0, off, rfl, hat⟩ := TurnsV.at (HX.out.below HB.out) i hlt
      obtain ⟨⟨ca, cb, cc⟩, hk, hwf⟩ := hat
      generalize xs.getD i turnZ = a at ca cb cc hk hwf
      obtain ⟨k, s, vv⟩ := a
      simp only at ca cb cc hk hwf
      have hlt' : (i : Int) < (xs.length : Int) := by omega
      have hB0 := hide HT.out.hb
      have hMM := hide HT.out.mlt
      by_cases h200 : i ≤ 200
      · by_cases h100 : s.size ≤ 100
        · have HK := hide (lk_key (k := s) (by unfold maxLen; omega))
          by_cases hk3 : k % 3 < 2
          · have hk3' : (k : Int) % 3 < 2 := by omega
            have h100' : ¬ (100 : Int) < (s.size : Int) := by omega
            have h200' : ¬ (200 : Int) < (i : Int) := by omega
            cases hh : has D (lk s)
            · go_wp2_with (first | (refine wpList_newv 6 rfl rfl 71 rfl _ zero71 ?_; intro g6 w6 h6) | (refine wpList_store_whole rfl 71 (.tmp 6) (.tmp 27) rfl g6 71 _ _ rfl rfl h6.out.2.1 (size71 _ _ _) rfl (by simp [Value.oneCell']) ?_; intro w7 h7 hg7 hs7; obtain ⟨d0, d1, d2⟩ := cells3 h7.out; have G7 := hide ((gb_at h6.out).andThen hg7.out (fun j e => by cases e; exact .inl (by rw [h6.out.1]; exact Nat.le_refl _))); have HB7 := hide (HB.out.trans ((gb_to G7.out).mono hB0.out)); obtain ⟨M7, o7, m7, b7⟩ := HO.out.grow G7.out; have O7 := hide o7; clear HB o7 m7 b7) | (at_lookup; refine wpList_lookup_own_ok_int _ rfl _ _ 76 rfl 9 3 .i64 key9 Tryd.underlying76 Tryd.underlying3 (zero3 _) mm M7 D rfl O7.out _ _ rfl HK.out ?_; intro c9 hat9 hw9; rw [hh]; clear O7 hat9 hw9) | (go_at_call 33; refine (ts_put HT.out HO.out G7.out h100 hwf (by omega)).mono ?_; rintro e w8 ⟨rfl, ht8, ho8, hb8, hk8⟩; rw [hh]; obtain ⟨_, p1, p2⟩ := cells3 ((hk8 g6 (by rw [h6.out.1]; exact Nat.le_refl _) (Array.getElem?_eq_some_iff.1 h7.out).1).trans h7.out); have hq8 := hide ((hk8 g6 (by rw [h6.out.1]; exact Nat.le_refl _) (Array.getElem?_eq_some_iff.1 h7.out).1).trans h7.out); have T8 := hide ht8; have hB8 := hide (HB7.out.trans hb8); obtain ⟨M8, o8, m8, b8⟩ := ho8; have O8 := hide o8; clear ht8 hb8 hk8 o8 HB7 HT HO) | (at_mapUpdate; refine wpList_mapUpdate_own _ rfl _ _ _ 76 rfl 9 3 key9 Tryd.underlying76 (plainElem Tryd.prog 3) mm M8 D rfl O8.out (by unfold maxLen; omega) _ _ _ rfl rfl HK.out _ [] (plainElem_int Tryd.underlying3 hwf) ?_; intro w9 hown9 hgrow9; have hown9 : MapI w9 mm (M8 + 1) (D.put (lk s) (li vv)) := hown9; have hsz := hide (World.ownsMap.size_le hown9); obtain ⟨_, q1, q2⟩ := cells3 (cells_at hq8.out hgrow9 (by simp; have := h6.out.1; have := hMM.out; omega)); have T9 := hide (T8.out.own hgrow9); have HB9 := hide (bel_gb hB8.out hgrow9 T8.out.hb (fun j e => by cases e; exact b8)); have O9 := hide hown9; clear T8 O8 hB8 hown9 hgrow9) | (go_at_call 35; refine (ts_get T9.out h100).mono ?_; rintro e w10 ⟨c, hc, rfl, hw10⟩; subst hw10; have HC := hide hc; clear hc) | (at_lookup; refine wpList_lookup_own_ok_int _ rfl _ _ 76 rfl 9 3 .i64 key9 Tryd.underlying76 Tryd.underlying3 (zero3 _) mm (M8 + 1) (D.put (lk s) (li vv)) rfl O9.out _ _ rfl HK.out ?_; intro c18 hat18 hw18; obtain rfl := getV_inj HC.out hat18; clear hat18 hw18 HC) | (go_at_call 36; refine (ts_keys T9.out (by have := hsz.out; omega)).mono ?_; rintro e w11 ⟨kv, ks, rfl, hkv, hkd, hg11⟩; obtain ⟨ak, ck, rfl⟩ := SlV.slice hkv; have O11 := hide (MapI.chg O9.out (Chg.gb0 (S := fun _ => False) hg11) (fun e => e)); have hl11 := fun ty => World.ownsMap.len O11.out Tryd.underlying76 ty; rw [← hkd.len] at hl11; have HKV := hide hkv; have HKD := hide hkd; have T11 := hide (T9.out.grow hg11); have HB11 := hide (HB9.out.trans ((gb_to hg11).mono T9.out.hb)); clear hkv hkd hg11 T9 O9 HB9))
              go_loop [98] (fun jv => ∃ j : Nat, j ≤ ks.length ∧ jv = .int .i64 j) (fun jv => ks.length - (intOf jv).toNat)
              case atStart => exact ⟨0, by omega, rfl⟩
              case round =>
                obtain ⟨j, hjl, rfl⟩ := hrel
                by_cases hj : j < ks.length
                · obtain ⟨bk, ok, rfl, hcx⟩ := KV.at HKV.out j hj
                  have hj' : (j : Int) < (ks.length : Int) := by omega
                  have HKS := hide (show ks.length ≤ 1000 by rw [HKD.out.len]; have := hsz.out; omega)
                  obtain ⟨hin, hsx⟩ := HKD.out.mem (ks.getD j ⟨#[]⟩) (by simp [hj])
                  have HKX := hide (lk_key hsx)
                  cases j with
                  | zero =>
                    generalize ks.getD 0 ⟨#[]⟩ = x at *
                    simp only [Nat.add_zero] at hcx
                    clear hsx
                    have HIN := hide hin
                    clear hin
                    go_wp2_with (at_lookup; refine wpList_lookup_own_ok_int _ rfl _ _ 76 rfl 9 3 .i64 key9 Tryd.underlying76 Tryd.underlying3 (zero3 _) mm (M8 + 1) (D.put (lk s) (li vv)) rfl O11.out _ _ rfl HKX.out ?_; intro cx hatx hwx; rw [HIN.out])
                    go_round
                    case rel => exact ⟨1, by omega, by go_num⟩
                    case measure => simp [intOf]; omega
                  | succ j =>
                    have hup := HKD.out.up j hj
                    have hj9 : (j : Int) < 1000 := by have := HKS.out; omega
                    have hj2 : (j : Int) + 1 < (ks.length : Int) := by omega
                    clear hj'
                    obtain ⟨b2, o2, e2, hcy⟩ := KV.at HKV.out j (by omega)
                    simp only [Option.some.injEq, Addr.mk.injEq, and_true] at e2
                    obtain ⟨rfl, rfl⟩ := e2
                    generalize ks.getD (j + 1) ⟨#[]⟩ = x at *
                    generalize ks.getD j ⟨#[]⟩ = y at *
                    clear hsx
                    have HIN := hide hin
                    clear hin
                    go_wp2_with (at_lookup; refine wpList_lookup_own_ok_int _ rfl _ _ 76 rfl 9 3 .i64 key9 Tryd.underlying76 Tryd.underlying3 (zero3 _) mm (M8 + 1) (D.put (lk s) (li vv)) rfl O11.out _ _ rfl HKX.out ?_; intro cx hatx hwx; rw [HIN.out])
                    go_round
                    case rel => exact ⟨j + 2, by omega, by go_num⟩
                    case measure => simp [intOf]; omega
                · obtain rfl : j = ks.length := by omega
                  go_wp2_with fail
                  go_roundw
                  case rel => exact ⟨i + 1, (D.put (lk s) (li vv)), by omega, by omega, by go_num, hide (T11.out.more (by omega)), hide ⟨(M8 + 1), O11.out, by omega, b8⟩, HB11⟩
                  case measure => simp [intOf]; omega
            · go_wp2_with (first | (refine wpList_newv 6 rfl rfl 71 rfl _ zero71 ?_; intro g6 w6 h6) | (refine wpList_store_whole rfl 71 (.tmp 6) (.tmp 27) rfl g6 71 _ _ rfl rfl h6.out.2.1 (size71 _ _ _) rfl (by simp [Value.oneCell']) ?_; intro w7 h7 hg7 hs7; obtain ⟨d0, d1, d2⟩ := cells3 h7.out; have G7 := hide ((gb_at h6.out).andThen hg7.out (fun j e => by cases e; exact .inl (by rw [h6.out.1]; exact Nat.le_refl _))); have HB7 := hide (HB.out.trans ((gb_to G7.out).mono hB0.out)); obtain ⟨M7, o7, m7, b7⟩ := HO.out.grow G7.out; have O7 := hide o7; clear HB o7 m7 b7) | (at_lookup; refine wpList_lookup_own_ok_int _ rfl _ _ 76 rfl 9 3 .i64 key9 Tryd.underlying76 Tryd.underlying3 (zero3 _) mm M7 D rfl O7.out _ _ rfl HK.out ?_; intro c9 hat9 hw9; rw [hh]; clear O7 hat9 hw9) | (go_at_call 33; refine (ts_put HT.out HO.out G7.out h100 hwf (by omega)).mono ?_; rintro e w8 ⟨rfl, ht8, ho8, hb8, hk8⟩; rw [hh]; obtain ⟨_, p1, p2⟩ := cells3 ((hk8 g6 (by rw [h6.out.1]; exact Nat.le_refl _) (Array.getElem?_eq_some_iff.1 h7.out).1).trans h7.out); have hq8 := hide ((hk8 g6 (by rw [h6.out.1]; exact Nat.le_refl _) (Array.getElem?_eq_some_iff.1 h7.out).1).trans h7.out); have T8 := hide ht8; have hB8 := hide (HB7.out.trans hb8); obtain ⟨M8, o8, m8, b8⟩ := ho8; have O8 := hide o8; clear ht8 hb8 hk8 o8 HB7 HT HO) | (at_mapUpdate; refine wpList_mapUpdate_own _ rfl _ _ _ 76 rfl 9 3 key9 Tryd.underlying76 (plainElem Tryd.prog 3) mm M8 D rfl O8.out (by unfold maxLen; omega) _ _ _ rfl rfl HK.out _ [] (plainElem_int Tryd.underlying3 hwf) ?_; intro w9 hown9 hgrow9; have hown9 : MapI w9 mm (M8 + 1) (D.put (lk s) (li vv)) := hown9; have hsz := hide (World.ownsMap.size_le hown9); obtain ⟨_, q1, q2⟩ := cells3 (cells_at hq8.out hgrow9 (by simp; have := h6.out.1; have := hMM.out; omega)); have T9 := hide (T8.out.own hgrow9); have HB9 := hide (bel_gb hB8.out hgrow9 T8.out.hb (fun j e => by cases e; exact b8)); have O9 := hide hown9; clear T8 O8 hB8 hown9 hgrow9) | (go_at_call 35; refine (ts_get T9.out h100).mono ?_; rintro e w10 ⟨c, hc, rfl, hw10⟩; subst hw10; have HC := hide hc; clear hc) | (at_lookup; refine wpList_lookup_own_ok_int _ rfl _ _ 76 rfl 9 3 .i64 key9 Tryd.underlying76 Tryd.underlying3 (zero3 _) mm (M8 + 1) (D.put (lk s) (li vv)) rfl O9.out _ _ rfl HK.out ?_; intro c18 hat18 hw18; obtain rfl := getV_inj HC.out hat18; clear hat18 hw18 HC) | (go_at_call 36; refine (ts_keys T9.out (by have := hsz.out; omega)).mono ?_; rintro e w11 ⟨kv, ks, rfl, hkv, hkd, hg11⟩; obtain ⟨ak, ck, rfl⟩ := SlV.slice hkv; have O11 := hide (MapI.chg O9.out (Chg.gb0 (S := fun _ => False) hg11) (fun e => e)); have hl11 := fun ty => World.ownsMap.len O11.out Tryd.underlying76 ty; rw [← hkd.len] at hl11; have HKV := hide hkv; have HKD := hide hkd; have T11 := hide (T9.out.grow hg11); have HB11 := hide (HB9.out.trans ((gb_to hg11).mono T9.out.hb)); clear hkv hkd hg11 T9 O9 HB9))
              go_loop [98] (fun jv => ∃ j : Nat, j ≤ ks.length ∧ jv = .int .i64 j) (fun jv => ks.length - (intOf jv).toNat)
              case atStart => exact ⟨0, by omega, rfl⟩
              case round =>
                obtain ⟨j, hjl, rfl⟩ := hrel
                by_cases hj : j < ks.length
                · obtain ⟨bk, ok, rfl, hcx⟩ := KV.at HKV.out j hj
                  have hj' : (j : Int) < (ks.length : Int) := by omega
                  have HKS := hide (show ks.length ≤ 1000 by rw [HKD.out.len]; have := hsz.out; omega)
                  obtain ⟨hin, hsx⟩ := HKD.out.mem (ks.getD j ⟨#[]⟩) (by simp [hj])
                  have HKX := hide (lk_key hsx)
                  cases j with
                  | zero =>
                    generalize ks.getD 0 ⟨#[]⟩ = x at *
                    simp only [Nat.add_zero] at hcx
                    clear hsx
                    have HIN := hide hin
                    clear hin
                    go_wp2_with (at_lookup; refine wpList_lookup_own_ok_int _ rfl _ _ 76 rfl 9 3 .i64 key9 Tryd.underlying76 Tryd.underlying3 (zero3 _) mm (M8 + 1) (D.put (lk s) (li vv)) rfl O11.out _ _ rfl HKX.out ?_; intro cx hatx hwx; rw [HIN.out])
                    go_round
                    case rel => exact ⟨1, by omega, by go_num⟩
                    case measure => simp [intOf]; omega
                  | succ j =>
                    have hup := HKD.out.up j hj
                    have hj9 : (j : Int) < 1000 := by have := HKS.out; omega
                    have hj2 : (j : Int) + 1 < (ks.length : Int) := by omega
                    clear hj'
                    obtain ⟨b2, o2, e2, hcy⟩ := KV.at HKV.out j (by omega)
                    simp only [Option.some.injEq, Addr.mk.injEq, and_true] at e2
                    obtain ⟨rfl, rfl⟩ := e2
                    generalize ks.getD (j + 1) ⟨#[]⟩ = x at *
                    generalize ks.getD j ⟨#[]⟩ = y at *
                    clear hsx
                    have HIN := hide hin
                    clear hin
                    go_wp2_with (at_lookup; refine wpList_lookup_own_ok_int _ rfl _ _ 76 rfl 9 3 .i64 key9 Tryd.underlying76 Tryd.underlying3 (zero3 _) mm (M8 + 1) (D.put (lk s) (li vv)) rfl O11.out _ _ rfl HKX.out ?_; intro cx hatx hwx; rw [HIN.out])
                    go_round
                    case rel => exact ⟨j + 2, by omega, by go_num⟩
                    case measure => simp [intOf]; omega
                · obtain rfl : j = ks.length := by omega
                  go_wp2_with fail
                  go_roundw
                  case rel => exact ⟨i + 1, (D.put (lk s) (li vv)), by omega, by omega, by go_num, hide (T11.out.more (by omega)), hide ⟨(M8 + 1), O11.out, by omega, b8⟩, HB11⟩
                  case measure => simp [intOf]; omega
          · have hk3' : ¬ (k : Int) % 3 < 2 := by omega
            have h100' : ¬ (100 : Int) < (s.size : Int) := by omega
            have h200' : ¬ (200 : Int) < (i : Int) := by omega
            cases hh : has D (lk s)
            · go_wp2_with (first | (refine wpList_newv 6 rfl rfl 71 rfl _ zero71 ?_; intro g6 w6 h6) | (refine wpList_store_whole rfl 71 (.tmp 6) (.tmp 27) rfl g6 71 _ _ rfl rfl h6.out.2.1 (size71 _ _ _) rfl (by simp [Value.oneCell']) ?_; intro w7 h7 hg7 hs7; obtain ⟨d0, d1, d2⟩ := cells3 h7.out; have G7 := hide ((gb_at h6.out).andThen hg7.out (fun j e => by cases e; exact .inl (by rw [h6.out.1]; exact Nat.le_refl _))); have HB7 := hide (HB.out.trans ((gb_to G7.out).mono hB0.out)); obtain ⟨M7, o7, m7, b7⟩ := HO.out.grow G7.out; have O7 := hide o7; clear HB o7 m7 b7) | (at_lookup; refine wpList_lookup_own_ok_int _ rfl _ _ 76 rfl 9 3 .i64 key9 Tryd.underlying76 Tryd.underlying3 (zero3 _) mm M7 D rfl O7.out _ _ rfl HK.out ?_; intro c9 hat9 hw9; rw [hh]; clear O7 hat9 hw9) | (go_at_call 34; refine (ts_cut HT.out HO.out G7.out h100).mono ?_; rintro e w8 ⟨rfl, ht8, ho8, hb8, hk8⟩; rw [hh]; obtain ⟨_, p1, p2⟩ := cells3 ((hk8 g6 (by rw [h6.out.1]; exact Nat.le_refl _) (Array.getElem?_eq_some_iff.1 h7.out).1).trans h7.out); have hq8 := hide ((hk8 g6 (by rw [h6.out.1]; exact Nat.le_refl _) (Array.getElem?_eq_some_iff.1 h7.out).1).trans h7.out); have T8 := hide ht8; have hB8 := hide (HB7.out.trans hb8); obtain ⟨M8, o8, m8, b8⟩ := ho8; have O8 := hide o8; clear ht8 hb8 hk8 o8 HB7 HT HO) | (at_delete; refine wpList_delete_own _ rfl _ _ 76 9 rfl 3 key9 Tryd.underlying76 _ mm M8 D rfl O8.out _ _ rfl HK.out ?_; intro w9 hown9 hturn9; have hgrow9 := hturn9.grown; have hsz := hide (World.ownsMap.size_le hown9); obtain ⟨_, q1, q2⟩ := cells3 (cells_at hq8.out hgrow9 (by simp; have := h6.out.1; have := hMM.out; omega)); have T9 := hide (T8.out.own hgrow9); have HB9 := hide (bel_gb hB8.out hgrow9 T8.out.hb (fun j e => by cases e; exact b8)); have O9 := hide hown9; clear T8 O8 hB8 hown9 hgrow9) | (go_at_call 35; refine (ts_get T9.out h100).mono ?_; rintro e w10 ⟨c, hc, rfl, hw10⟩; subst hw10; have HC := hide hc; clear hc) | (at_lookup; refine wpList_lookup_own_ok_int _ rfl _ _ 76 rfl 9 3 .i64 key9 Tryd.underlying76 Tryd.underlying3 (zero3 _) mm M8 (D.del (lk s)) rfl O9.out _ _ rfl HK.out ?_; intro c18 hat18 hw18; obtain rfl := getV_inj HC.out hat18; clear hat18 hw18 HC) | (go_at_call 36; refine (ts_keys T9.out (by have := hsz.out; omega)).mono ?_; rintro e w11 ⟨kv, ks, rfl, hkv, hkd, hg11⟩; obtain ⟨ak, ck, rfl⟩ := SlV.slice hkv; have O11 := hide (MapI.chg O9.out (Chg.gb0 (S := fun _ => False) hg11) (fun e => e)); have hl11 := fun ty => World.ownsMap.len O11.out Tryd.underlying76 ty; rw [← hkd.len] at hl11; have HKV := hide hkv; have HKD := hide hkd; have T11 := hide (T9.out.grow hg11); have HB11 := hide (HB9.out.trans ((gb_to hg11).mono T9.out.hb)); clear hkv hkd hg11 T9 O9 HB9))
              go_loop [98] (fun jv => ∃ j : Nat, j ≤ ks.length ∧ jv = .int .i64 j) (fun jv => ks.length - (intOf jv).toNat)
              case atStart => exact ⟨0, by omega, rfl⟩
              case round =>
                obtain ⟨j, hjl, rfl⟩ := hrel
                by_cases hj : j < ks.length
                · obtain ⟨bk, ok, rfl, hcx⟩ := KV.at HKV.out j hj
                  have hj' : (j : Int) < (ks.length : Int) := by omega
                  have HKS := hide (show ks.length ≤ 1000 by rw [HKD.out.len]; have := hsz.out; omega)
                  obtain ⟨hin, hsx⟩ := HKD.out.mem (ks.getD j ⟨#[]⟩) (by simp [hj])
                  have HKX := hide (lk_key hsx)
                  cases j with
                  | zero =>
                    generalize ks.getD 0 ⟨#[]⟩ = x at *
                    simp only [Nat.add_zero] at hcx
                    clear hsx
                    have HIN := hide hin
                    clear hin
                    go_wp2_with (at_lookup; refine wpList_lookup_own_ok_int _ rfl _ _ 76 rfl 9 3 .i64 key9 Tryd.underlying76 Tryd.underlying3 (zero3 _) mm M8 (D.del (lk s)) rfl O11.out _ _ rfl HKX.out ?_; intro cx hatx hwx; rw [HIN.out])
                    go_round
                    case rel => exact ⟨1, by omega, by go_num⟩
                    case measure => simp [intOf]; omega
                  | succ j =>
                    have hup := HKD.out.up j hj
                    have hj9 : (j : Int) < 1000 := by have := HKS.out; omega
                    have hj2 : (j : Int) + 1 < (ks.length : Int) := by omega
                    clear hj'
                    obtain ⟨b2, o2, e2, hcy⟩ := KV.at HKV.out j (by omega)
                    simp only [Option.some.injEq, Addr.mk.injEq, and_true] at e2
                    obtain ⟨rfl, rfl⟩ := e2
                    generalize ks.getD (j + 1) ⟨#[]⟩ = x at *
                    generalize ks.getD j ⟨#[]⟩ = y at *
                    clear hsx
                    have HIN := hide hin
                    clear hin
                    go_wp2_with (at_lookup; refine wpList_lookup_own_ok_int _ rfl _ _ 76 rfl 9 3 .i64 key9 Tryd.underlying76 Tryd.underlying3 (zero3 _) mm M8 (D.del (lk s)) rfl O11.out _ _ rfl HKX.out ?_; intro cx hatx hwx; rw [HIN.out])
                    go_round
                    case rel => exact ⟨j + 2, by omega, by go_num⟩
                    case measure => simp [intOf]; omega
                · obtain rfl : j = ks.length := by omega
                  go_wp2_with fail
                  go_roundw
                  case rel => exact ⟨i + 1, (D.del (lk s)), by omega, by omega, by go_num, hide (T11.out.more (by omega)), hide ⟨M8, O11.out, by omega, b8⟩, HB11⟩
                  case measure => simp [intOf]; omega
            · go_wp2_with (first | (refine wpList_newv 6 rfl rfl 71 rfl _ zero71 ?_; intro g6 w6 h6) | (refine wpList_store_whole rfl 71 (.tmp 6) (.tmp 27) rfl g6 71 _ _ rfl rfl h6.out.2.1 (size71 _ _ _) rfl (by simp [Value.oneCell']) ?_; intro w7 h7 hg7 hs7; obtain ⟨d0, d1, d2⟩ := cells3 h7.out; have G7 := hide ((gb_at h6.out).andThen hg7.out (fun j e => by cases e; exact .inl (by rw [h6.out.1]; exact Nat.le_refl _))); have HB7 := hide (HB.out.trans ((gb_to G7.out).mono hB0.out)); obtain ⟨M7, o7, m7, b7⟩ := HO.out.grow G7.out; have O7 := hide o7; clear HB o7 m7 b7) | (at_lookup; refine wpList_lookup_own_ok_int _ rfl _ _ 76 rfl 9 3 .i64 key9 Tryd.underlying76 Tryd.underlying3 (zero3 _) mm M7 D rfl O7.out _ _ rfl HK.out ?_; intro c9 hat9 hw9; rw [hh]; clear O7 hat9 hw9) | (go_at_call 34; refine (ts_cut HT.out HO.out G7.out h100).mono ?_; rintro e w8 ⟨rfl, ht8, ho8, hb8, hk8⟩; rw [hh]; obtain ⟨_, p1, p2⟩ := cells3 ((hk8 g6 (by rw [h6.out.1]; exact Nat.le_refl _) (Array.getElem?_eq_some_iff.1 h7.out).1).trans h7.out); have hq8 := hide ((hk8 g6 (by rw [h6.out.1]; exact Nat.le_refl _) (Array.getElem?_eq_some_iff.1 h7.out).1).trans h7.out); have T8 := hide ht8; have hB8 := hide (HB7.out.trans hb8); obtain ⟨M8, o8, m8, b8⟩ := ho8; have O8 := hide o8; clear ht8 hb8 hk8 o8 HB7 HT HO) | (at_delete; refine wpList_delete_own _ rfl _ _ 76 9 rfl 3 key9 Tryd.underlying76 _ mm M8 D rfl O8.out _ _ rfl HK.out ?_; intro w9 hown9 hturn9; have hgrow9 := hturn9.grown; have hsz := hide (World.ownsMap.size_le hown9); obtain ⟨_, q1, q2⟩ := cells3 (cells_at hq8.out hgrow9 (by simp; have := h6.out.1; have := hMM.out; omega)); have T9 := hide (T8.out.own hgrow9); have HB9 := hide (bel_gb hB8.out hgrow9 T8.out.hb (fun j e => by cases e; exact b8)); have O9 := hide hown9; clear T8 O8 hB8 hown9 hgrow9) | (go_at_call 35; refine (ts_get T9.out h100).mono ?_; rintro e w10 ⟨c, hc, rfl, hw10⟩; subst hw10; have HC := hide hc; clear hc) | (at_lookup; refine wpList_lookup_own_ok_int _ rfl _ _ 76 rfl 9 3 .i64 key9 Tryd.underlying76 Tryd.underlying3 (zero3 _) mm M8 (D.del (lk s)) rfl O9.out _ _ rfl HK.out ?_; intro c18 hat18 hw18; obtain rfl := getV_inj HC.out hat18; clear hat18 hw18 HC) | (go_at_call 36; refine (ts_keys T9.out (by have := hsz.out; omega)).mono ?_; rintro e w11 ⟨kv, ks, rfl, hkv, hkd, hg11⟩; obtain ⟨ak, ck, rfl⟩ := SlV.slice hkv; have O11 := hide (MapI.chg O9.out (Chg.gb0 (S := fun _ => False) hg11) (fun e => e)); have hl11 := fun ty => World.ownsMap.len O11.out Tryd.underlying76 ty; rw [← hkd.len] at hl11; have HKV := hide hkv; have HKD := hide hkd; have T11 := hide (T9.out.grow hg11); have HB11 := hide (HB9.out.trans ((gb_to hg11).mono T9.out.hb)); clear hkv hkd hg11 T9 O9 HB9))
              go_loop [98] (fun jv => ∃ j : Nat, j ≤ ks.length ∧ jv = .int .i64 j) (fun jv => ks.length - (intOf jv).toNat)
              case atStart => exact ⟨0, by omega, rfl⟩
              case round =>
                obtain ⟨j, hjl, rfl⟩ := hrel
                by_cases hj : j < ks.length
                · obtain ⟨bk, ok, rfl, hcx⟩ := KV.at HKV.out j hj
                  have hj' : (j : Int) < (ks.length : Int) := by omega
                  have HKS := hide (show ks.length ≤ 1000 by rw [HKD.out.len]; have := hsz.out; omega)
                  obtain ⟨hin, hsx⟩ := HKD.out.mem (ks.getD j ⟨#[]⟩) (by simp [hj])
                  have HKX := hide (lk_key hsx)
                  cases j with
                  | zero =>
                    generalize ks.getD 0 ⟨#[]⟩ = x at *
                    simp only [Nat.add_zero] at hcx
                    clear hsx
                    have HIN := hide hin
                    clear hin
                    go_wp2_with (at_lookup; refine wpList_lookup_own_ok_int _ rfl _ _ 76 rfl 9 3 .i64 key9 Tryd.underlying76 Tryd.underlying3 (zero3 _) mm M8 (D.del (lk s)) rfl O11.out _ _ rfl HKX.out ?_; intro cx hatx hwx; rw [HIN.out])
                    go_round
                    case rel => exact ⟨1, by omega, by go_num⟩
                    case measure => simp [intOf]; omega
                  | succ j =>
                    have hup := HKD.out.up j hj
                    have hj9 : (j : Int) < 1000 := by have := HKS.out; omega
                    have hj2 : (j : Int) + 1 < (ks.length : Int) := by omega
                    clear hj'
                    obtain ⟨b2, o2, e2, hcy⟩ := KV.at HKV.out j (by omega)
                    simp only [Option.some.injEq, Addr.mk.injEq, and_true] at e2
                    obtain ⟨rfl, rfl⟩ := e2
                    generalize ks.getD (j + 1) ⟨#[]⟩ = x at *
                    generalize ks.getD j ⟨#[]⟩ = y at *
                    clear hsx
                    have HIN := hide hin
                    clear hin
                    go_wp2_with (at_lookup; refine wpList_lookup_own_ok_int _ rfl _ _ 76 rfl 9 3 .i64 key9 Tryd.underlying76 Tryd.underlying3 (zero3 _) mm M8 (D.del (lk s)) rfl O11.out _ _ rfl HKX.out ?_; intro cx hatx hwx; rw [HIN.out])
                    go_round
                    case rel => exact ⟨j + 2, by omega, by go_num⟩
                    case measure => simp [intOf]; omega
                · obtain rfl : j = ks.length := by omega
                  go_wp2_with fail
                  go_roundw
                  case rel => exact ⟨i + 1, (D.del (lk s)), by omega, by omega, by go_num, hide (T11.out.more (by omega)), hide ⟨M8, O11.out, by omega, b8⟩, HB11⟩
                  case measure => simp [intOf]; omega
        · have h100' : (100 : Int) < (s.size : Int) := by omega
          have h200' : ¬ (200 : Int) < (i : Int) := by omega
          go_wp2_with (first | (refine wpList_newv 6 rfl rfl 71 rfl _ zero71 ?_; intro g6 w6 h6) | (refine wpList_store_whole rfl 71 (.tmp 6) (.tmp 27) rfl g6 71 _ _ rfl rfl h6.out.2.1 (size71 _ _ _) rfl (by simp [Value.oneCell']) ?_; intro w7 h7 hg7 hs7; obtain ⟨d0, d1, d2⟩ := cells3 h7.out; have G7 := hide ((gb_at h6.out).andThen hg7.out (fun j e => by cases e; exact .inl (by rw [h6.out.1]; exact Nat.le_refl _))); have HB7 := hide (HB.out.trans ((gb_to G7.out).mono hB0.out)); obtain ⟨M7, o7, m7, b7⟩ := HO.out.grow G7.out; have O7 := hide o7; clear HB o7 m7 b7))
          go_ret
          exact ⟨rfl, gb_of HB7.out⟩
      · have h200' : (200 : Int) < (i : Int) := by omega
        go_wp2_with (first | (refine wpList_newv 6 rfl rfl 71 rfl _ zero71 ?_; intro g6 w6 h6) | (refine wpList_store_whole rfl 71 (.tmp 6) (.tmp 27) rfl g6 71 _ _ rfl rfl h6.out.2.1 (size71 _ _ _) rfl (by simp [Value.oneCell']) ?_; intro w7 h7 hg7 hs7; obtain ⟨d0, d1, d2⟩ := cells3 h7.out; have G7 := hide ((gb_at h6.out).andThen hg7.out (fun j e => by cases e; exact .inl (by rw [h6.out.1]; exact Nat.le_refl _))); have HB7 := hide (HB.out.trans ((gb_to G7.out).mono hB0.out)); obtain ⟨M7, o7, m7, b7⟩ := HO.out.grow G7.out; have O7 := hide o7; clear HB o7 m7 b7))
        go_ret
        exact ⟨rfl, gb_of HB7.out⟩
    · obtain rfl : i = xs.length := by omega
      go_wp2_with fail
      go_ret
      exact ⟨rfl, gb_of HB.out⟩
end Go.Proofs.YtdeebmpmfedjbaaDoor
