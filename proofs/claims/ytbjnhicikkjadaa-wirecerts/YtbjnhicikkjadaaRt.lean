/- The document's ReadCert. -/
import Derived.Test.YtbjnhicikkjadaaRq
import Derived.Deep.Cut
namespace Go.Proofs.Ytbjnhicikkjadaa
open Go.RowKit Ir Wire

theorem refBelow_t (p b : Nat) (xs : List Int) (code : Int) (lim : Nat) (w : World) (h : Lb.RdrAt w p b xs code) (hl : 0 < lim) (hm : lim ≤ 100000) :
    Calls Try.prog 46 #[.pointer (some ⟨p, 0, none⟩), .int .i64 lim] w (RdPost w p b (belP lim) xs code (IntIn lim)) := by
  refine (Lb.refBelow_any p b xs code lim w h (by omega)).mono ?_
  rintro e w' ⟨rfl, h1, h2⟩
  exact ⟨_, _, _, _, rfl, ⟨rfl, belA_in _ _ hl⟩, took_bel xs code lim hl, h1, h2⟩
theorem byt_block {w : World} {v : Value} {xs : List Int} (h : Lb.Byt w v xs) (hw : 0 < w.heap.size) : ∃ b, b < w.heap.size ∧ Lb.BytAt b w v xs := by
  obtain ⟨b, hb⟩ := h
  by_cases h0 : 0 < xs.length
  · exact ⟨b, hb.lt h0, hb⟩
  · obtain ⟨h1, ao, cap, h2, h3, h4, h5, _⟩ := hb
    exact ⟨0, hw, h1, ao, cap, h2, h3, h4, h5, fun h => absurd h h0⟩
theorem rdr_box {w : World} {v : Value} {xs : List Int} {b : Nat} (h : Lb.BytAt b w v xs) (hb : b < w.heap.size) (c : Int) : Lb.RdrAt (w.alloc (.cells #[v, .int .i64 c] 107)) w.heap.size b xs c := by
  have hr := heap_alloc_new w (.cells #[v, .int .i64 c] 107)
  refine ⟨v, by rw [cell_of_row _ _ _ _ _ _ hr]; rfl, by rw [cell_of_row _ _ _ _ _ _ hr]; rfl, frozen_of_row _ _ _ _ _ hr, frozen_of_row _ _ _ _ _ hr, ?_, by omega⟩
  obtain ⟨h1, ao, cap, h2, h3, h4, h5, h6⟩ := h
  refine ⟨h1, ao, cap, h2, h3, h4, h5, fun h => ?_⟩
  obtain ⟨off, e, hc⟩ := h6 h
  exact ⟨off, e, fun j hj => cell_below (bel1' w _) (hc j hj)⟩
set_option maxHeartbeats 4000000 in
set_option maxRecDepth 100000 in
theorem refReadCert_any (v : Value) (xs : List Int) (w : World) (hv : Lb.Byt w v xs) (hw : 0 < w.heap.size) :
    Calls Try.prog 30 #[v] w fun e w' => ∃ u, e = .returned (.tuple #[u, .int .i64 (rd [] cerP (fun _ => true) xs).2]) ∧ CerO w.heap.size w' u (rd [] cerP (fun _ => true) xs).1 ∧ Below w.heap.size w w' := by
  obtain ⟨b, hb, hbt⟩ := byt_block hv hw
  obtain ⟨ao, nv, cap, rfl⟩ := bysnd _ _ _ hv
  have hR := rdr_box hbt hb 0
  have hB0 := bel1' w (.cells #[.slice ao nv cap, .int .i64 0] 107)
  have HB0 := hide hB0
  have HBl := hide (refBelow_t w.heap.size b xs 0 17 _ hR (by omega) (by omega))
  have Hz1 : Hid (w.heap.size < (w.alloc (.cells #[.slice ao nv cap, .int .i64 0] 107)).heap.size) := hide (by simp)
  have hz := build111
  clear hv hbt hB0 hR
  go_enter Try.func30, Try.ntmps30
  go_wp2_with fail
  refine HBl.out.mono ?_
  rintro e w1 ⟨n, u, ys, d, rfl, ⟨rfl, hn0, hn1⟩, hT, hR, hg⟩
  generalize (w.alloc (.cells #[.slice ao nv cap, .int .i64 0] 107)) = w0 at *
  obtain ⟨n, rfl⟩ := Int.eq_ofNat_of_zero_le hn0
  obtain ⟨p, hp⟩ : ∃ p, p = w.heap.size := ⟨_, rfl⟩
  rw [← hp] at hR hg ⊢
  have Hp := hide hp
  have Hn : Hid (n < 17) := by show _ < _; omega
  have HT := hide hT
  clear hT hp hn0 hn1 HBl
  go_wp2_with fail
  go_loopw [5, 7, 8, 9, 10] (fun ov iv _ _ _ wr => ∃ (j : Nat) (l : List (List Pair)) (zs : List Int) (c : Int), j ≤ n ∧ l.length = j ∧ iv = .int .i64 j ∧ CerO w0.heap.size wr ov l ∧ Lb.RdrAt wr p b zs c ∧ w0.grownBy wr (some p) ∧ Hid (∀ l' zs' d', Took (repP lstP (n - j)) zs c l' zs' d' → Took (listP lstP 16) xs 0 (l ++ l') zs' d')) (fun _ iv _ _ _ _ => n - (intOf iv).toNat)
  case atStart => exact ⟨0, [], ys, d, Nat.zero_le _, rfl, rfl, CerO.nil _ _, hR, hg, fun l' zs' d' hh => Took.bind HT.out (by simpa using hh)⟩
  case round =>
    rename World => wr
    obtain ⟨j, l, zs, c, hj, hl, rfl, hO, hR, hg, hC⟩ := hrel
    obtain ⟨aL, nL, cL, hlv⟩ : ∃ ao n cap, u5 = .slice ao n cap := by obtain ⟨_, _, h2, _⟩ := hO; exact owns_slice h2
    subst hlv
    have hRc := hR
    obtain ⟨rv, r0, r1, rf0, rf1, _⟩ := hRc
    by_cases hlt : j < n
    · have hlt' : (j : Int) < (n : Int) := by omega
      by_cases hc : c = 0
      · subst hc
        have HM := hide (refBelow_t p b zs 0 65536 wr hR (by omega) (by omega))
        have HO := hide hO
        have Hg := hide hg
        clear hR hO hg
        go_wp2_with fail
        refine HM.out.mono ?_
        rintro e w2 ⟨m, u, ys2, d2, rfl, ⟨rfl, hm0, hm1⟩, hT2, hR2, hg2⟩
        obtain ⟨m, rfl⟩ := Int.eq_ofNat_of_zero_le hm0
        have Hm : Hid (m < 65536) := by show _ < _; omega
        have HT2 := hide hT2
        have HO2 := hide (HO.out.kept hg2 (by have := Hp.out; have := Hz1.out; omega))
        have Hg2 := hide (Lb.grownBy_trans Hg.out hg2)
        have hpw2 := hR2.lt
        have Hbw2 : Hid (b < w2.heap.size) := by have := (Lb.grownBy_trans Hg.out hg2).size; show _ < _; have := Hz1.out; omega
        have Hpw2 := hide hpw2
        clear hm0 hm1 hT2 HM hg2 HO hpw2 r0 r1 rf0 rf1
        go_wp2_with fail
        go_loopw [8, 10] (fun lv kv wi => ∃ (k : Nat) (ps : List Pair) (zs3 : List Int) (c3 : Int), k ≤ m ∧ ps.length = k ∧ kv = .int .i64 k ∧ PrsO w2.heap.size wi lv ps ∧ Lb.RdrAt wi p b zs3 c3 ∧ w2.grownBy wi (some p) ∧ Hid (∀ l' zs' d', Took (repP prP (m - k)) zs3 c3 l' zs' d' → Took (listP prP 65535) zs 0 (ps ++ l') zs' d')) (fun _ kv _ => m - (intOf kv).toNat)
        case atStart => exact ⟨0, [], ys2, d2, Nat.zero_le _, rfl, rfl, PrsO.nil _ _, hR2, Lb.grownBy_refl _ _, fun l' zs' d' hh => Took.bind HT2.out (by simpa using hh)⟩
        case round =>
          rename World => wi
          obtain ⟨k, ps, zs3, c3, hk, hps, rfl, hP, hRi, hgi, hCi⟩ := hrel
          obtain ⟨aP, nP, cP, hpv⟩ : ∃ ao n cap, u8 = .slice ao n cap := owns_slice hP
          subst hpv
          have hRc := hRi
          obtain ⟨rv, r0, r1, rf0, rf1, _⟩ := hRc
          by_cases hkt : k < m
          · have hkt' : (k : Int) < (m : Int) := by omega
            by_cases hc3 : c3 = 0
            · subst hc3
              have hbx := bel1' wi (.cells #[.int .i64 0, .int .i64 0] 111)
              have e0 := heap_alloc_new wi (.cells #[.int .i64 0, .int .i64 0] 111)
              have hRx := hRi.below hbx
              have hgx := Lb.grownBy_trans hgi (Lb.grownBy_below hbx (some p))
              have hPx : PrsO w2.heap.size (wi.alloc (.cells #[.int .i64 0, .int .i64 0] 111)) (.slice aP nP cP) ps := hP.kept (Lb.grownBy_below hbx (some p)) (by have := Hpw2.out; omega)
              have hlt1 : ∀ q, (Value.slice aP nP cP).ownBlock = some q → q < wi.heap.size := fun q hq => (World.ownsRow.lt hP q hq).2
              have hszi := hgi.size
              have HB1 := hide (refBelow_t p b zs3 0 4096 _ hRx (by omega) (by omega))
              have hpi : p < wi.heap.size := by have := Hpw2.out; omega
              have hbi : b < wi.heap.size := by have := Hbw2.out; omega
              clear hP hRi hRx hbx
              go_upto_region 12 with fail
              clear r0 r1 rf0 rf1
              go_wp2_with fail
              generalize (wi.alloc (.cells #[.int .i64 0, .int .i64 0] 111)) = wx at *
              generalize hqe : wi.heap.size = q at *
              refine HB1.out.mono ?_
              rintro e w5 ⟨x1, u, zs5, d5, rfl, ⟨rfl, hx0, hx1⟩, hT5, hR5, hg5⟩
              have e5 := grown_row hg5 e0 (by omega)
              have hP5 := hPx.kept hg5 (by have := Hpw2.out; omega)
              have hg25 := Lb.grownBy_trans hgx hg5
              have k0 : w5.cell? ⟨q, 0, none⟩ = some (.int .i64 0) := by rw [cell_of_row _ _ _ _ _ _ e5]; rfl
              have kf : w5.frozen? ⟨q, 0, none⟩ = false := frozen_of_row _ _ _ _ _ e5
              have e6 : (w5.setCell ⟨q, 0, none⟩ (.int .i64 x1)).heap[q]? = some (Obj.cells #[.int .i64 x1, .int .i64 0] 111 (0, 0)) := heap_setCell_same w5 q 0 _ _ (.int .i64 x1) e5
              have hs6 := Lb.grownBy_setCell w5 q 0 (.int .i64 x1)
              have hR6 := rdr_kept hR5 hs6 (fun e => by simp at e; omega) (fun e => by simp at e; omega)
              have hg26 := grown_new hg25 hs6 (fun k hk => by simp at hk; omega)
              have hP6 : PrsO w2.heap.size (w5.setCell ⟨q, 0, none⟩ (.int .i64 x1)) (.slice aP nP cP) ps := World.ownsRow.kept hP5 hs6 (by
                cases ho : (Value.slice aP nP cP).ownBlock with
                | none => exact .inl rfl
                | some z => exact .inr (fun e => by have := hlt1 z ho; simp at e; omega))
              have HB2 := hide (refBelow_t p b zs5 d5 4096 _ hR6 (by omega) (by omega))
              clear HB1 hPx hP5 hg25 hgx hg5 e0 e5 hR5 hR6 hs6
              go_wp2_with fail
              generalize (w5.setCell ⟨q, 0, none⟩ (.int .i64 x1)) = w6 at *
              refine HB2.out.mono ?_
              rintro e w7 ⟨x2, u, zs7, d7, rfl, ⟨rfl, hy0, hy1⟩, hT7, hR7, hg7⟩
              have e7 := grown_row hg7 e6 (by omega)
              have hP7 := hP6.kept hg7 (by have := Hpw2.out; omega)
              have hg27 := Lb.grownBy_trans hg26 hg7
              have k1 : w7.cell? ⟨q, 1, none⟩ = some (.int .i64 0) := by rw [cell_of_row _ _ _ _ _ _ e7]; rfl
              have kg : w7.frozen? ⟨q, 1, none⟩ = false := frozen_of_row _ _ _ _ _ e7
              have e8 : (w7.setCell ⟨q, 1, none⟩ (.int .i64 x2)).heap[q]? = some (Obj.cells #[.int .i64 x1, .int .i64 x2] 111 (0, 0)) := heap_setCell_same w7 q 1 _ _ (.int .i64 x2) e7
              have hs8 := Lb.grownBy_setCell w7 q 1 (.int .i64 x2)
              have hR8 := rdr_kept hR7 hs8 (fun e => by simp at e; omega) (fun e => by simp at e; omega)
              have hg28 := grown_new hg27 hs8 (fun k hk => by simp at hk; omega)
              have hP8 : PrsO w2.heap.size (w7.setCell ⟨q, 1, none⟩ (.int .i64 x2)) (.slice aP nP cP) ps := World.ownsRow.kept hP7 hs8 (by
                cases ho : (Value.slice aP nP cP).ownBlock with
                | none => exact .inl rfl
                | some z => exact .inr (fun e => by have := hlt1 z ho; simp at e; omega))
              clear HB2 hP6 hP7 hg26 hg27 hg7 e6 e7 hR7 hs8 k0 kf
              go_upto_region 15 with fail
              generalize (w7.setCell ⟨q, 1, none⟩ (.int .i64 x2)) = w8 at *
              clear k1 kg
              have c80 : w8.cell? ⟨q, 0, none⟩ = some (.int .i64 x1) := by rw [cell_of_row _ _ _ _ _ _ e8]; rfl
              have c81 : w8.cell? ⟨q, 1, none⟩ = some (.int .i64 x2) := by rw [cell_of_row _ _ _ _ _ _ e8]; rfl
              have hby := bel1' w8 (.cells #[.int .i64 x1, .int .i64 x2] 111)
              have hny := heap_alloc_new w8 (.cells #[.int .i64 x1, .int .i64 x2] 111)
              have hP9 : PrsO w2.heap.size (w8.alloc (.cells #[.int .i64 x1, .int .i64 x2] 111)) (.slice aP nP cP) ps := hP8.kept (Lb.grownBy_below hby (some p)) (by have := Hpw2.out; omega)
              have hR9 := hR8.below hby
              have hg29 := Lb.grownBy_trans hg28 (Lb.grownBy_below hby (some p))
              have hll : ps.length ≤ 1000000 := by have := Hm.out; omega
              have hBB : w2.heap.size ≤ (w8.alloc (.cells #[.int .i64 x1, .int .i64 x2] 111)).heap.size := hg29.size
              have hown : ∀ z, (Value.slice aP nP cP).ownBlock = some z → w2.heap.size ≤ z := fun z hz => (World.ownsRow.lt hP9 z hz).1
              clear hP8 hR8 hg28 hby e8
              go_wp2_with (at_builtin; go_must (refine snoc_pr (x := ⟨x1, x2⟩) (B := w2.heap.size) (.tmp 51) (.tmp 53) rfl rfl hP9 hny rfl rfl hll hBB ?_))
              intro v' w10 hP10 hg10
              have hgA := grown_new hg29 hg10 hown
              have hRA := rdr_kept hR9 hg10 (fun e => by have := hown p e; have := Hpw2.out; omega) (fun e => by have := hown b e; have := Hbw2.out; omega)
              have hTp : Took prP zs3 0 ⟨x1, x2⟩ zs7 d7 := Took.bind hT5 (Took.bind hT7 (Took.pure _ _ _))
              have hC2 : Hid (∀ l' zs' d', Took (repP prP (m - (k + 1))) zs7 d7 l' zs' d' → Took (listP prP 65535) zs 0 ((ps ++ [⟨x1, x2⟩]) ++ l') zs' d') := by
                intro l' zs' d' hh
                have := hCi.out (⟨x1, x2⟩ :: l') zs' d' (by
                  rw [show m - k = (m - (k + 1)) + 1 by omega]
                  exact Took.cons hTp hh)
                simpa using this
              have hl2 : (ps ++ [(⟨x1, x2⟩ : Pair)]).length = k + 1 := by simp [hps]
              clear hP9 hny hR9 hg29 hg10 hown hCi hTp hT5 hT7 c80 c81
              go_wp2_with fail
              go_roundw
              case rel => exact ⟨k + 1, ps ++ [⟨x1, x2⟩], zs7, d7, by omega, hl2, by go_num, hP10, hRA, hgA, hC2⟩
              case measure => simp [intOf]; omega
            · have hb0 : (c3 == 0) = false := by simp [hc3]
              go_upto_region 16 with fail
              have hTl := took_lst (show Took (listP prP 65535) zs 0 ps zs3 c3 from ((hCi.out [] zs3 c3 (Took.stay _ hc3 _ _)).any hc3 ps zs3))
              have hOi := HO2.out.kept hgi (by have := Hp.out; have := Hz1.out; omega)
              have hsz := Hg2.out.size
              have hszi := hgi.size
              have hPm := PrsO.mono (B' := w0.heap.size) hP hsz
              have hbx := bel1' wi (.cells #[.slice aP nP cP] 64)
              have hnx := heap_alloc_new wi (.cells #[.slice aP nP cP] 64)
              have hOx : CerO w0.heap.size (wi.alloc (.cells #[.slice aP nP cP] 64)) (.slice aL nL cL) l := hOi.kept (Lb.grownBy_below hbx (some p)) (by have := Hp.out; have := Hz1.out; omega)
              have hPx : PrsO w0.heap.size (wi.alloc (.cells #[.slice aP nP cP] 64)) (.slice aP nP cP) ps := hPm.kept (Lb.grownBy_below hbx (some p)) (by have := Hp.out; have := Hz1.out; omega)
              have hRx := hRi.below hbx
              have hgx := Lb.grownBy_trans (Lb.grownBy_trans Hg2.out hgi) (Lb.grownBy_below hbx (some p))
              have hown : ∀ q, (Value.slice aL nL cL).ownBlock = some q → w0.heap.size ≤ q := fun q hq => by obtain ⟨_, _, h2, _⟩ := hOx; exact (h2.lt q hq).1
              have hll : l.length ≤ 1000000 := by have := Hn.out; omega
              have hBB : w0.heap.size ≤ (wi.alloc (.cells #[.slice aP nP cP] 64)).heap.size := by simp; omega
              clear hOi hPm hbx hP hRi hCi r0 r1 rf0 rf1
              go_wp2_with (at_builtin; go_must (refine snoc_prs (B := w0.heap.size) (.tmp 55) (.tmp 57) rfl rfl hOx hnx hPx rfl rfl hll hBB ?_))
              intro v' w4 hO4 hg5
              have hg6 := grown_new hgx hg5 hown
              have hR4 := rdr_kept hRx hg5 (fun e => by have := hown p e; have := Hp.out; have := Hz1.out; omega) (fun e => by have := hown b e; have := Hp.out; have := Hz1.out; omega)
              have hC2 : Hid (∀ l' zs' d', Took (repP lstP (n - (j + 1))) zs3 c3 l' zs' d' → Took (listP lstP 16) xs 0 ((l ++ [ps]) ++ l') zs' d') := by
                intro l' zs' d' hh
                have := hC.out (ps :: l') zs' d' (by
                  rw [show n - j = (n - (j + 1)) + 1 by omega]
                  exact Took.cons hTl hh)
                simpa using this
              have hl2 : (l ++ [ps]).length = j + 1 := by simp [hl]
              clear hOx hnx hPx hRx hgx hg5 hown hC hTl
              go_wp2_with fail
              go_roundw
              case rel => exact ⟨j + 1, l ++ [ps], zs3, c3, by omega, hl2, by go_num, hO4, hR4, hg6, hC2⟩
              case measure => simp [intOf]; omega
          · have hkt' : ¬ (k : Int) < (m : Int) := by omega
            go_upto_region 16 with fail
            have hTl := took_lst (show Took (listP prP 65535) zs 0 ps zs3 c3 from (by have := hCi.out [] zs3 c3 (by rw [show m - k = 0 by omega]; exact Took.pure _ _ _); simpa using this))
            have hOi := HO2.out.kept hgi (by have := Hp.out; have := Hz1.out; omega)
            have hsz := Hg2.out.size
            have hszi := hgi.size
            have hPm := PrsO.mono (B' := w0.heap.size) hP hsz
            have hbx := bel1' wi (.cells #[.slice aP nP cP] 64)
            have hnx := heap_alloc_new wi (.cells #[.slice aP nP cP] 64)
            have hOx : CerO w0.heap.size (wi.alloc (.cells #[.slice aP nP cP] 64)) (.slice aL nL cL) l := hOi.kept (Lb.grownBy_below hbx (some p)) (by have := Hp.out; have := Hz1.out; omega)
            have hPx : PrsO w0.heap.size (wi.alloc (.cells #[.slice aP nP cP] 64)) (.slice aP nP cP) ps := hPm.kept (Lb.grownBy_below hbx (some p)) (by have := Hp.out; have := Hz1.out; omega)
            have hRx := hRi.below hbx
            have hgx := Lb.grownBy_trans (Lb.grownBy_trans Hg2.out hgi) (Lb.grownBy_below hbx (some p))
            have hown : ∀ q, (Value.slice aL nL cL).ownBlock = some q → w0.heap.size ≤ q := fun q hq => by obtain ⟨_, _, h2, _⟩ := hOx; exact (h2.lt q hq).1
            have hll : l.length ≤ 1000000 := by have := Hn.out; omega
            have hBB : w0.heap.size ≤ (wi.alloc (.cells #[.slice aP nP cP] 64)).heap.size := by simp; omega
            clear hOi hPm hbx hP hRi hCi r0 r1 rf0 rf1
            go_wp2_with (at_builtin; go_must (refine snoc_prs (B := w0.heap.size) (.tmp 55) (.tmp 57) rfl rfl hOx hnx hPx rfl rfl hll hBB ?_))
            intro v' w4 hO4 hg5
            have hg6 := grown_new hgx hg5 hown
            have hR4 := rdr_kept hRx hg5 (fun e => by have := hown p e; have := Hp.out; have := Hz1.out; omega) (fun e => by have := hown b e; have := Hp.out; have := Hz1.out; omega)
            have hC2 : Hid (∀ l' zs' d', Took (repP lstP (n - (j + 1))) zs3 c3 l' zs' d' → Took (listP lstP 16) xs 0 ((l ++ [ps]) ++ l') zs' d') := by
              intro l' zs' d' hh
              have := hC.out (ps :: l') zs' d' (by
                rw [show n - j = (n - (j + 1)) + 1 by omega]
                exact Took.cons hTl hh)
              simpa using this
            have hl2 : (l ++ [ps]).length = j + 1 := by simp [hl]
            clear hOx hnx hPx hRx hgx hg5 hown hC hTl
            go_wp2_with fail
            go_roundw
            case rel => exact ⟨j + 1, l ++ [ps], zs3, c3, by omega, hl2, by go_num, hO4, hR4, hg6, hC2⟩
            case measure => simp [intOf]; omega
      · have hb0 : (c == 0) = false := by simp [hc]
        have hTk : Took (listP lstP 16) xs 0 l zs c := ((hC.out [] zs c (Took.stay _ hc _ _)).any hc l zs)
        have HE := hide (Lb.refEnd_any p b zs c wr hR)
        have HO := hide hO
        have Hg := hide hg
        clear hO hg hR hC
        go_wp2_with fail
        refine HE.out.mono ?_
        rintro e w6 ⟨rfl, _, hge⟩
        have hO6 := HO.out.kept hge (by have := Hp.out; have := Hz1.out; omega)
        have hB6 : Below w.heap.size w w6 := HB0.out.grown (Lb.grownBy_trans Hg.out hge) HB0.out.size (fun q hq => by simp at hq; have := Hp.out; omega)
        have hO7 := CerO.mono (B' := w.heap.size) hO6 HB0.out.size
        clear HE hge HO hO6 r0 r1 rf0 rf1
        have hTc := took_cer hTk
        obtain ⟨ee, hee⟩ : ∃ e, e = Leb.ended zs c := ⟨_, rfl⟩
        rw [← hee]
        by_cases h0 : ee = 0
        · subst h0
          have hrd := hide (rdc_ok hTc hee.symm)
          clear hee hTk hTc
          go_wp2_with fail
          go_ret2
          rw [hrd.out]
          exact ⟨_, rfl, hO7, hB6⟩
        · have hb9 : (ee == 0) = false := by simp [h0]
          have hrd := hide (rd_fault (z := []) (ok := fun _ => true) hTc (by rw [← hee]; exact h0))
          rw [← hee] at hrd
          clear h0 hee hTk hTc
          go_wp2_with fail
          go_ret2
          rw [hrd.out]
          exact ⟨_, rfl, CerO.nil _ _, hB6⟩
    · have hlt' : ¬ (j : Int) < (n : Int) := by omega
      have hTk : Took (listP lstP 16) xs 0 l zs c := by have := hC.out [] zs c (by rw [show n - j = 0 by omega]; exact Took.pure _ _ _); simpa using this
      have HE := hide (Lb.refEnd_any p b zs c wr hR)
      have HO := hide hO
      have Hg := hide hg
      clear hO hg hR hC
      go_wp2_with fail
      refine HE.out.mono ?_
      rintro e w6 ⟨rfl, _, hge⟩
      have hO6 := HO.out.kept hge (by have := Hp.out; have := Hz1.out; omega)
      have hB6 : Below w.heap.size w w6 := HB0.out.grown (Lb.grownBy_trans Hg.out hge) HB0.out.size (fun q hq => by simp at hq; have := Hp.out; omega)
      have hO7 := CerO.mono (B' := w.heap.size) hO6 HB0.out.size
      clear HE hge HO hO6 r0 r1 rf0 rf1
      have hTc := took_cer hTk
      obtain ⟨ee, hee⟩ : ∃ e, e = Leb.ended zs c := ⟨_, rfl⟩
      rw [← hee]
      by_cases h0 : ee = 0
      · subst h0
        have hrd := hide (rdc_ok hTc hee.symm)
        clear hee hTk hTc
        go_wp2_with fail
        go_ret2
        rw [hrd.out]
        exact ⟨_, rfl, hO7, hB6⟩
      · have hb9 : (ee == 0) = false := by simp [h0]
        have hrd := hide (rd_fault (z := []) (ok := fun _ => true) hTc (by rw [← hee]; exact h0))
        rw [← hee] at hrd
        clear h0 hee hTk hTc
        go_wp2_with fail
        go_ret2
        rw [hrd.out]
        exact ⟨_, rfl, CerO.nil _ _, hB6⟩
end Go.Proofs.Ytbjnhicikkjadaa
