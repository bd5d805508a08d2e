/- PathsOrder: the order, without the document's answer. -/
import Derived.Test.YtgckpmaajmlijaaMp
namespace Go.Proofs.Ytgckpmaajmlijaa
open Go.RowKit Ir Wy Go.Maps Go.WideMaps

/-- Led, behind i of the order and j of those that block x follows. -/
def ledF (l : List Nat) (i x : Nat) (row : List Nat) (j : Nat) : Bool := (i == 0 && x == 0) || (row.take j).any fun a => (l.take i).contains a
theorem ledF_zero (l : List Nat) (i x : Nat) (row : List Nat) : ledF l i x row 0 = (i == 0 && x == 0) := by simp [ledF]
theorem ledF_succ (l : List Nat) (i x : Nat) (row : List Nat) (j : Nat) (hj : j < row.length) : ledF l i x row (j + 1) = (ledF l i x row j || (l.take i).contains (row.getD j 0)) := by
  have e : row.take (j + 1) = row.take j ++ [row.getD j 0] := by rw [getD_get _ _ _ hj, List.take_succ_eq_append_getElem hj]
  unfold ledF
  rw [e, List.any_append]
  simp only [List.any_cons, List.any_nil, Bool.or_false, Bool.or_assoc]
theorem ord_led {es : List En} (hin : EndsIn es) (h0 : 0 < es.length) (i : Nat) (hi : i < (ordD (nxE es) es.length).length) :
    ledF (ordD (nxE es) es.length) i ((ordD (nxE es) es.length).getD i 0) (ahd (nxE es) es.length ((ordD (nxE es) es.length).getD i 0)) (ahd (nxE es) es.length ((ordD (nxE es) es.length).getD i 0)).length = true ∧ ((ordD (nxE es) es.length).take i).contains ((ordD (nxE es) es.length).getD i 0) = false := by
  have hk := ord_ok hin.nx h0
  have hm := ord_mem hin h0
  have hlt := fun x => rF_lt hin h0 (x := x)
  generalize ordD (nxE es) es.length = l at *
  have hs : l = l.take i ++ l.getD i 0 :: l.drop (i + 1) := by rw [getD_get _ _ _ hi, ← List.drop_eq_getElem_cons hi, List.take_append_drop]
  have hd := hk.nodup
  have hl := hk.led _ _ _ hs
  generalize hx : l.getD i 0 = x at *
  refine ⟨?_, ?_⟩
  · unfold ledF
    rw [List.take_length]
    rcases hl with ⟨h1, h2⟩ | ⟨a, h1, h2⟩
    · have : i = 0 := by
        rcases Nat.eq_zero_or_pos i with e | e
        · exact e
        · have : (l.take i).length = 0 := by rw [h1]; rfl
          rw [List.length_take] at this
          omega
      subst h2
      simp [this]
    · rw [Bool.or_eq_true]
      right
      rw [List.any_eq_true]
      refine ⟨a, ?_, by simpa using h1⟩
      have ha : a ∈ l := List.mem_of_mem_take h1
      exact (mem_ahd _ _ _ _).2 ⟨hlt a ((hm a).1 ha), h2⟩
  · rw [hs, List.nodup_append] at hd
    cases hc : (l.take i).contains x
    · rfl
    · have : x ∈ l.take i := by simpa using hc
      exact absurd rfl (hd.2.2 x this x (by simp))
theorem ci_getD (l : List Nat) (j : Nat) (h : j < l.length) : (ci l).getD j 0 = ((l.getD j 0 : Nat) : Int) := by simp [ci, h]
set_option maxHeartbeats 8000000 in
set_option maxRecDepth 100000 in
theorem order_walk (v0 : Value) (a b c : Int) (bs : List Int) (w : World) (hs : SpecV w v0 a b c bs) :
    Calls Try.prog 4 #[v0] w fun e w' => e = .returned (.bool true) ∧ Below w.heap.size w w' := by
  obtain ⟨h0, h7, hin⟩ := made_ok a b c bs
  obtain ⟨u, rfl, hs1⟩ := hs
  obtain ⟨ao, cap, rfl⟩ := hs1.2.2.2.slice
  have hB1 := bel1' w (.cells #[.int .u8 a, .int .u8 b, .int .u8 c, .slice ao bs.length cap] 24)
  have HS := hide (show SpecV (w.alloc (.cells #[.int .u8 a, .int .u8 b, .int .u8 c, .slice ao bs.length cap] 24)) (.agg #[.int .u8 a, .int .u8 b, .int .u8 c, .slice ao bs.length cap]) a b c bs from ⟨_, rfl, hs1.1, hs1.2.1, hs1.2.2.1, hs1.2.2.2.below hB1⟩)
  have HB1 := hide hB1
  have hcell := heap_alloc_new w (.cells #[.int .u8 a, .int .u8 b, .int .u8 c, .slice ao bs.length cap] 24)
  have HC := hide hcell
  clear hB1 hs1 hcell
  go_enter Try.func4, Try.ntmps4
  go_wp2_with fail
  refine (awake_any _).mono ?_
  rintro e w2 ⟨rfl, hB2⟩
  have hrow := (hB2.block _ (heap_lt HC.out)).trans HC.out
  have k0 : w2.cell? ⟨w.heap.size, 0, none⟩ = some (.int .u8 a) := by rw [cell_of_row _ _ _ _ _ _ hrow]; rfl
  have k1 : w2.cell? ⟨w.heap.size, 1, none⟩ = some (.int .u8 b) := by rw [cell_of_row _ _ _ _ _ _ hrow]; rfl
  have k2 : w2.cell? ⟨w.heap.size, 2, none⟩ = some (.int .u8 c) := by rw [cell_of_row _ _ _ _ _ _ hrow]; rfl
  have k3 : w2.cell? ⟨w.heap.size, 3, none⟩ = some (.slice ao bs.length cap) := by rw [cell_of_row _ _ _ _ _ _ hrow]; rfl
  have HM := hide (made_any _ a b c bs w2 (show SpecV w2 (.agg #[.int .u8 a, .int .u8 b, .int .u8 c, .slice ao bs.length cap]) a b c bs from by
    obtain ⟨u, e, h1, h2, h3, h4⟩ := HS.out
    exact ⟨u, e, h1, h2, h3, h4.below hB2⟩))
  have HB2 := hide (bel_of HB1.out hB2)
  clear hB2 hrow HS HB1 HC
  go_wp2_with fail
  refine HM.out.mono ?_
  rintro e w3 ⟨u, rfl, hO, hB3⟩
  have HE := hide hO.v.ends
  have HB3 := hide (bel_of HB2.out hB3)
  clear hO hB3 HM HB2 k0 k1 k2 k3
  generalize (made a b c bs).bs.map (·.e) = es at *
  obtain ⟨al, cl, rfl⟩ := HE.out.slice
  have hf28 := run_f28 (made a b c bs).p (made a b c bs).v al es.length cl
  have hmk := @run_makeMap Try.prog
  go_wp2_with fail
  refine (order_any w3 _ es HE.out hin h0 (by omega)).mono ?_
  rintro e w4 ⟨vo, rfl, hvo, hB4⟩
  have HE4 := hide (HE.out.below hB4)
  have HO4 := hide hvo.v
  have HB4 := hide (bel_of HB3.out hB4)
  clear hvo hB4 HE HB3
  go_wp2_with fail
  refine (ahead_any w4 _ es HE4.out hin (by omega)).mono ?_
  rintro e w5 ⟨va, rfl, hva, hB5⟩
  have HE5 := hide (HE4.out.below hB5)
  have HO5 := hide (HO4.out.below hB5)
  have HA5 := hide hva
  have HB5 := hide (bel_of HB4.out hB5)
  clear hva hB5 HE4 HB4 HO4
  go_wp2_with fail
  refine (reach_any w5 _ es HE5.out hin h0 (by omega)).mono ?_
  rintro e w6 ⟨u, rfl, hS, hB6⟩
  obtain ⟨cs, rfl, hcs⟩ := hS
  have HCS := hide hcs
  have HO6 := hide (HO5.out.below hB6)
  have HA6 := hide (HA5.out.below hB6)
  have HB6 := hide (bel_of HB5.out hB6)
  clear hcs hB6 HE5 HB5 HO5 HA5
  have hlo := hide (ord_led hin h0)
  have hln := hide (len_ord hin h0 (by omega))
  have hml := hide (ord_mem hin h0)
  have hol := ord_len hin h0
  obtain ⟨aO, cO, hvo⟩ := HO6.out.slice
  obtain ⟨aA, cA, hva⟩ := HA6.out.slice
  subst hvo
  subst hva
  rw [rows_len] at *
  go_wp2_with (first | (refine Bg.wpList_var 35 6 rfl rfl rfl rfl (.tmp 23) rfl rfl Bg.z64 cs Bg.z27 (by simp) rfl (by rw [HCS.out.1]; exact Bg.info27) (by rw [HCS.out.1]; rfl) HCS.out.cells ?_; intro pg w7 h7))
  have hB7 : Below w6.heap.size w6 w7 := by obtain ⟨rfl, _, h⟩ := h7.out; exact h
  have HS7 : Hid (w7.heap[pg]? = some (.cells cs 35 (0, 0))) := hide h7.out.2.1
  have HO7 := hide (HO6.out.below hB7)
  have HA7 := hide (HA6.out.below hB7)
  have HB7 := hide (bel_of HB6.out hB7)
  have HM0 := hide (SeenM.made w7)
  have HBM := hide (bel1' w7 (.map #[] 0))
  have hord0 : Hid (∀ h : 0 < (ordD (nxE es) es.length).length, (ordD (nxE es) es.length).getD 0 0 = 0) := hide (fun h => by
    obtain ⟨r, hr⟩ := (ord_ok hin.nx h0).first
    rw [hr]
    rfl)
  clear h7 hB7 HO6 HA6 HB6 hmk hf28
  generalize ordD (nxE es) es.length = l at *
  have hcl : (ci l).length = l.length := List.length_map ..
  rw [hcl] at HO7
  go_loopw [8, 9, 10, 12, 27] (fun _ _ _ _ iv wr => ∃ i : Nat, i ≤ l.length ∧ iv = .int .i64 i ∧ Hid (SeenM wr w7.heap.size (l.take i)) ∧ Hid (Below w7.heap.size w7 wr)) (fun _ _ _ _ iv _ => l.length - (intOf iv).toNat)
  case atStart => exact ⟨0, by omega, rfl, HM0, HBM⟩
  case round =>
    obtain ⟨i, hi, rfl, HSM, hB⟩ := hrel
    have HC1 : Hid (wr.heap[pg]? = some (.cells cs 35 (0, 0))) := hide ((hB.out.block _ (heap_lt HS7.out)).trans HS7.out)
    by_cases hlt : i < l.length
    · obtain ⟨go, oo, rfl, hoc⟩ := (HO7.out.below hB.out).at i (by rw [hcl]; exact hlt)
      rw [ci_getD _ _ hlt] at hoc
      have hlt' : (i : Int) < (l.length : Int) := by omega
      have hxm : l.getD i 0 ∈ l := by rw [getD_get _ _ _ hlt]; exact List.getElem_mem hlt
      have hrx := (hml.out _).1 hxm
      have HRX := hide hrx
      have hxn := rF_lt hin h0 hrx
      have HLE := hide (hlo.out i hlt)
      have HTK : Hid (l.take (i + 1) = l.take i ++ [l.getD i 0]) := hide (by rw [getD_get _ _ _ hlt, List.take_succ_eq_append_getElem hlt])
      have HTL : Hid ((l.take i).length = i) := hide (by rw [List.length_take]; omega)
      obtain ⟨ga, oa, r, rfl, hr, hI⟩ := (HA7.out.below hB.out).at (l.getD i 0) (by rw [rows_len]; exact hxn)
      rw [rows_at es hxn] at hI
      have HI := hide hI
      have HRN : Hid (∀ j, j < (ahd (nxE es) es.length (l.getD i 0)).length → (ahd (nxE es) es.length (l.getD i 0)).getD j 0 < es.length) := hide (fun j hj => by
        have hm : (ahd (nxE es) es.length (l.getD i 0)).getD j 0 ∈ ahd (nxE es) es.length (l.getD i 0) := by rw [getD_get _ _ _ hj]; exact List.getElem_mem hj
        exact ((mem_ahd _ _ _ _).1 hm).1)
      have hrl := ahd_len (nxE es) es.length (l.getD i 0)
      have HX0 : Hid (i = 0 → l.getD i 0 = 0) := hide (fun e => by subst e; exact hord0.out (by omega))
      clear hI hrx hxm
      generalize l.getD i 0 = x at *
      generalize ahd (nxE es) es.length x = rowN at *
      have hrl2 : Hid ((ci rowN).length = rowN.length) := hide (List.length_map ..)
      have HL00 := ledF_zero l i x rowN
      obtain ⟨ar, cr, rfl⟩ := HI.out.slice
      rw [hrl2.out] at HI
      rw [hrl2.out] at hr
      have hxn' : (x : Int) < (es.length : Int) := by omega
      by_cases hi0 : i = 0
      · have hx0 := HX0.out hi0
        have HL0 : Hid (ledF l i x rowN 0 = true) := hide (by rw [HL00, hi0, hx0]; rfl)
        have q1 : ((i : Int) == 0) = true := by simp [hi0]
        have q2 : ((x : Int) == 0) = true := by simp [hx0]
        clear HL00 hi0 hx0 hlt
        go_wp2_with fail
        go_loop [10, 12, 43] (fun fv _ jv => ∃ j : Nat, j ≤ rowN.length ∧ jv = .int .i64 j ∧ fv = .bool (ledF l i x rowN j)) (fun _ _ jv => rowN.length - (intOf jv).toNat)
        case atStart => exact ⟨0, by omega, rfl, by rw [HL0.out]⟩
        case round =>
          obtain ⟨j, hj, rfl, rfl⟩ := hrel
          by_cases hjl : j < rowN.length
          · have hjl' : (j : Int) < (rowN.length : Int) := by omega
            obtain ⟨gr, orr, rfl, hrc⟩ := HI.out.at j (by rw [hrl2.out]; exact hjl)
            rw [ci_getD _ _ hjl] at hrc
            have HST := hide (ledF_succ l i x rowN j hjl)
            have hzl := HRN.out j hjl
            have hlook := HSM.out.look (rowN.getD j 0) (by omega)
            generalize rowN.getD j 0 = z at *
            generalize ledF l i x rowN j = fd at *
            generalize (l.take i).contains z = cz at *
            clear hjl
            cases fd
            · go_wp2_with fail
              go_round
              case rel => exact ⟨j + 1, by omega, by go_num, by rw [HST.out]; rfl⟩
              case measure => simp [intOf]; omega
            · clear hlook
              go_wp2_with fail
              go_round
              case rel => exact ⟨j + 1, by omega, by go_num, by rw [HST.out]; rfl⟩
              case measure => simp [intOf]; omega
          · obtain rfl : j = rowN.length := by omega
            rw [HLE.out.1]
            have hlx := HSM.out.look x (by omega)
            rw [HLE.out.2] at hlx
            have HAS := hide (has_nat (.agg cs) (rF es) x wr ⟨cs, rfl, HCS.out⟩ (by omega))
            rw [HRX.out] at HAS
            go_wp2_with (first | (refine wpList_load_set (by simp [Region.wanted, yielded]) (.tmp 6) rfl pg rfl cs HC1.out HCS.out.1 ?_))
            refine HAS.out.mono ?_
            rintro e w8 ⟨rfl, hB8⟩
            have HB8 := hide (bel_of hB.out hB8)
            obtain ⟨D, hD0, hD1⟩ := HSM.out.below hB8
            have HD0 := hide hD0
            have HD1 := hide hD1
            have htl : (l.take i).length = i := by rw [List.length_take]; omega
            rw [htl] at HD0
            have hkey := hide (lk_key (k := x) (by omega))
            clear hlx HAS hB8 hD0 hD1 htl
            go_wp2_with (at_mapUpdate; refine wpList_mapUpdate_own _ rfl _ _ _ 53 rfl 3 4 key3 Try.underlying53 (plainElem Try.prog 4) w7.heap.size i D rfl HD0.out (by unfold maxLen; omega) _ _ _ rfl rfl hkey.out _ [] (plainElem_bool Try.underlying4 true) ?_; intro w9 hown9 hgrow9)
            have HS9 := hide (SeenM.put (l := l.take i) (by rw [HTL.out]; exact HD0.out) HD1.out (by rw [HTL.out]; exact hown9))
            rw [← HTK.out] at HS9
            have HB9 := hide (HB8.out.grown hgrow9 HB8.out.size (fun k e1 => by cases e1; exact Nat.le_refl _))
            clear hown9 hgrow9
            go_wp2_with fail
            go_roundw
            case rel => exact ⟨i + 1, by omega, by go_num, HS9, HB9⟩
            case measure => simp [intOf]; omega
      · have HL0 : Hid (ledF l i x rowN 0 = false) := hide (by rw [HL00]; simp [hi0])
        have q1 : ((i : Int) == 0) = false := by simp [hi0]
        clear HL00 hi0 hlt
        go_wp2_with fail
        go_loop [10, 12, 43] (fun fv _ jv => ∃ j : Nat, j ≤ rowN.length ∧ jv = .int .i64 j ∧ fv = .bool (ledF l i x rowN j)) (fun _ _ jv => rowN.length - (intOf jv).toNat)
        case atStart => exact ⟨0, by omega, rfl, by rw [HL0.out]⟩
        case round =>
          obtain ⟨j, hj, rfl, rfl⟩ := hrel
          by_cases hjl : j < rowN.length
          · have hjl' : (j : Int) < (rowN.length : Int) := by omega
            obtain ⟨gr, orr, rfl, hrc⟩ := HI.out.at j (by rw [hrl2.out]; exact hjl)
            rw [ci_getD _ _ hjl] at hrc
            have HST := hide (ledF_succ l i x rowN j hjl)
            have hzl := HRN.out j hjl
            have hlook := HSM.out.look (rowN.getD j 0) (by omega)
            generalize rowN.getD j 0 = z at *
            generalize ledF l i x rowN j = fd at *
            generalize (l.take i).contains z = cz at *
            clear hjl
            cases fd
            · go_wp2_with fail
              go_round
              case rel => exact ⟨j + 1, by omega, by go_num, by rw [HST.out]; rfl⟩
              case measure => simp [intOf]; omega
            · clear hlook
              go_wp2_with fail
              go_round
              case rel => exact ⟨j + 1, by omega, by go_num, by rw [HST.out]; rfl⟩
              case measure => simp [intOf]; omega
          · obtain rfl : j = rowN.length := by omega
            rw [HLE.out.1]
            have hlx := HSM.out.look x (by omega)
            rw [HLE.out.2] at hlx
            have HAS := hide (has_nat (.agg cs) (rF es) x wr ⟨cs, rfl, HCS.out⟩ (by omega))
            rw [HRX.out] at HAS
            go_wp2_with (first | (refine wpList_load_set (by simp [Region.wanted, yielded]) (.tmp 6) rfl pg rfl cs HC1.out HCS.out.1 ?_))
            refine HAS.out.mono ?_
            rintro e w8 ⟨rfl, hB8⟩
            have HB8 := hide (bel_of hB.out hB8)
            obtain ⟨D, hD0, hD1⟩ := HSM.out.below hB8
            have HD0 := hide hD0
            have HD1 := hide hD1
            have htl : (l.take i).length = i := by rw [List.length_take]; omega
            rw [htl] at HD0
            have hkey := hide (lk_key (k := x) (by omega))
            clear hlx HAS hB8 hD0 hD1 htl
            go_wp2_with (at_mapUpdate; refine wpList_mapUpdate_own _ rfl _ _ _ 53 rfl 3 4 key3 Try.underlying53 (plainElem Try.prog 4) w7.heap.size i D rfl HD0.out (by unfold maxLen; omega) _ _ _ rfl rfl hkey.out _ [] (plainElem_bool Try.underlying4 true) ?_; intro w9 hown9 hgrow9)
            have HS9 := hide (SeenM.put (l := l.take i) (by rw [HTL.out]; exact HD0.out) HD1.out (by rw [HTL.out]; exact hown9))
            rw [← HTK.out] at HS9
            have HB9 := hide (HB8.out.grown hgrow9 HB8.out.size (fun k e1 => by cases e1; exact Nat.le_refl _))
            clear hown9 hgrow9
            go_wp2_with fail
            go_roundw
            case rel => exact ⟨i + 1, by omega, by go_num, HS9, HB9⟩
            case measure => simp [intOf]; omega
    · obtain rfl : i = l.length := by omega
      have HLN := hide (Bg.len_any (.agg cs) (rF es) wr ⟨cs, rfl, HCS.out⟩)
      rw [hln.out] at HLN
      have HB9 := hide (bel_to HB7.out hB.out HB7.out.size)
      clear hcl
      go_wp2_with (first | (refine wpList_load_setN rfl (.tmp 6) rfl pg rfl cs HC1.out HCS.out.1 ?_))
      refine HLN.out.mono ?_
      rintro e w9 ⟨rfl, hg9⟩
      have HB10 := hide (bel_of HB9.out (Bg.gb_to hg9))
      clear hg9 HLN
      go_wp2_with fail
      go_ret
      exact ⟨rfl, HB10.out⟩
end Go.Proofs.Ytgckpmaajmlijaa
