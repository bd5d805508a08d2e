/- A set of some, and which these are. -/
import Derived.Test.YtdeebmpmfedjbaaDoorBz
namespace Go.Proofs.YtdeebmpmfedjbaaDoor
open Go.RowKit Bag
/-- The numbers that a call names: at most 51. -/
def nl (L : List Int) (raw : Bool) : List Int := (L.take 51).map fun x => nearN x raw
theorem nl_step (L : List Int) (raw : Bool) (i : Nat) (hi : i < L.length) : (L.take (i + 1)).map (fun x => nearN x raw) = (L.take i).map (fun x => nearN x raw) ++ [nearN (L.getD i 0) raw] := by
  rw [List.take_add_one, List.getElem?_eq_getElem hi, Option.toList_some, List.map_append]
  simp [hi]
theorem ofL_snoc (xs : List Int) (x : Int) : ofL (xs ++ [x]) = ins (ofL xs) x := by simp [ofL, List.foldl_append]
/-- A box of four cells. -/
theorem box4 {w : World} {a b c d : Value} {g : Nat} {t : TypeId} (h : w.heap[g]? = some (.cells #[a, b, c, d] t (0, 0))) : w.cell? ⟨g, 0, none⟩ = some a ∧ w.cell? ⟨g, 1, none⟩ = some b ∧ w.cell? ⟨g, 2, none⟩ = some c ∧ w.cell? ⟨g, 3, none⟩ = some d :=
  ⟨(cell_of_row w g 0 _ _ _ h).trans rfl, (cell_of_row w g 1 _ _ _ h).trans rfl, (cell_of_row w g 2 _ _ _ h).trans rfl, (cell_of_row w g 3 _ _ _ h).trans rfl⟩
set_option maxHeartbeats 8000000 in
set_option maxRecDepth 100000 in
theorem other_any (kd X : Int) (v : Value) (L : List Int) (raw : Bool) (w : World) (h : IntsV w v L) : Calls Tryd.prog 11 #[.agg #[.int .u8 kd, .int .i64 X, v, .bool raw]] w fun e w' =>
    ∃ u b, e = .returned (.tuple #[u, .pointer (some ⟨b, 0, none⟩)]) ∧ SetV u (ofL (nl L raw)) ∧ w.heap.size ≤ b ∧ ModAt w' b (ofL (nl L raw)) ∧ w.grownBy w' none := by
  obtain ⟨i0, hi, hz0, hz1, hz2⟩ := info_parts info3
  obtain ⟨ao, cap, rfl⟩ := h.slice
  have HU := hide h
  clear h
  go_enter Tryd.func11, Tryd.ntmps11
  go_wp2_with (first | (refine wpList_box' rfl 33 (.tmp 0) rfl _ rfl ?_; intro ga w1 h1) | (refine wpList_new 2 rfl rfl 27 rfl z64 z27 ?_; intro gs w2 h2) | (refine wpList_is rfl (v := .agg z4096) (w' := _) (by show (Instr.build 30 #[] >>= fun x => pure (Next.value x)).run Tryd.prog _ = _; rw [Sem.run_bind, build30]; rfl) ?_) | (refine wpList_box' rfl 30 (.tmp 8) rfl z4096 rfl ?_; intro gm w3 h3; obtain ⟨c0, c1, c2, c3⟩ := box4 (cells_at (cells_at h1.out.2.1 (gb_at h2.out) (by simp)) (gb_at h3.out) (by simp))))
  have hgm : gm + 1 ≤ w3.heap.size := (Array.getElem?_eq_some_iff.1 h3.out.2.1).1
  have HG3 := hide (((gb_at h1.out).trans (gb_at h2.out)).trans (gb_at h3.out))
  have HM3 : Hid (ModAt w3 gm (ofL ((L.take 0).map fun x => nearN x raw))) := hide ⟨z4096, 30, h3.out.2.1, z4096_mod⟩
  have HGS := hide (cells_at h2.out.2.1 (gb_at h3.out) (by simp))
  have hsm : gs < gm := by
    have := h3.out.1
    have := (Array.getElem?_eq_some_iff.1 h2.out.2.1).1
    omega
  have hma : ga < gm := by
    have := h3.out.1
    have := h2.out.1
    have := h2.out.2.2.size
    have := (Array.getElem?_eq_some_iff.1 h1.out.2.1).1
    omega
  have HSM := hide hsm
  have HMA := hide hma
  have HGW : Hid (w.heap.size ≤ gm) := hide (by
    have := h3.out.1
    have := h2.out.2.2.size
    have := h1.out.2.2.size
    have := h2.out.1
    have := h1.out.1
    omega)
  clear hsm hma
  go_loopw [4, 6, 7, 13] (fun lv _ _ iv wr => ∃ i : Nat, i ≤ L.length ∧ i ≤ 51 ∧ iv = .int .i64 i ∧ Hid (ArgsO (gm + 1) wr lv ((L.take i).map fun x => nearN x raw)) ∧ Hid (ModAt wr gm (ofL ((L.take i).map fun x => nearN x raw))) ∧ Hid (Below gm w3 wr) ∧ gm + 1 ≤ wr.heap.size) (fun _ _ _ iv _ => L.length - (intOf iv).toNat)
  case atStart => exact ⟨0, by omega, by omega, rfl, hide (ArgsO.nil _ _), HM3, hide (Below.refl _ _), hgm⟩
  case round =>
    rename World => wq
    obtain ⟨i, hiL, hi51, rfl, HL, HM, HB, hgq⟩ := hrel
    by_cases hlt : i < L.length ∧ i < 51
    · obtain ⟨hlt, hlt5⟩ := hlt
      obtain ⟨b, off, rfl, hc⟩ := (((HU.out.below (gb_to HG3.out))).at i hlt)
      have hbw : b < gm := by
        obtain ⟨b0, off0, e0, hc0⟩ := HU.out.at i hlt
        simp only [Option.some.injEq, Addr.mk.injEq] at e0
        have := World.block_lt_of_cell? w _ hc0
        have := HGW.out
        simp only at *
        omega
      have hcq : wq.cell? ⟨b, off + i, none⟩ = some (.int .i64 (L.getD i 0)) := (HB.out.cell (p := ⟨b, off + i, none⟩) hbw).trans hc
      have d3 : wq.cell? ⟨ga, 3, none⟩ = some (.bool raw) := (HB.out.cell (p := ⟨ga, 3, none⟩) HMA.out).trans c3
      have HN := hide (nl_step L raw i hlt)
      have hlt' : (i : Int) < (L.length : Int) := by omega
      have h50 : ¬ (50 : Int) < (i : Int) := by omega
      generalize L.getD i 0 = x at *
      clear hc hbw
      obtain ⟨y, hy⟩ : ∃ y, y = nearN x raw := ⟨_, rfl⟩
      have hnear := hide (near_any x raw)
      rw [← hy] at hnear HN
      clear hy
      by_cases hin : 0 ≤ y ∧ y < 4096
      · obtain ⟨n, rfl⟩ : ∃ n : Nat, y = n := ⟨y.toNat, by omega⟩
        have hn : n < 4096 := by omega
        have hn' : (n : Int) < 4096 := by omega
        obtain ⟨m0, m1⟩ := HM.out.cell n hn
        obtain ⟨wm, hwm⟩ : ∃ wm, wm = wq.setCell ⟨gm, n, none⟩ (.bool true) := ⟨_, rfl⟩
        have HM2 : Hid (ModAt wm gm (ofL ((L.take (i + 1)).map fun x => nearN x raw))) := hide (by
          rw [hwm, HN.out, ofL_snoc]
          refine (HM.out.set n true).congr fun x hx => ?_
          unfold ins
          rw [inS_nat hn]
          by_cases e : x = n
          · simp [e]
          · simp [e])
        have HL2 : Hid (ArgsO (gm + 1) wm _ ((L.take i).map fun x => nearN x raw)) := hide (World.ownsRow.kept HL.out (by rw [hwm]; exact gb_set _ _ _ _) (.inr fun e => by have := (World.ownsRow.lt HL.out gm e).1; omega))
        have HB2 : Hid (Below gm w3 wm) := hide (by rw [hwm]; exact HB.out.setCell (Nat.le_refl _) _)
        have hgm2 : gm + 1 ≤ wm.heap.size := by rw [hwm]; simpa [World.setCell] using hgq
        subst hwm
        go_wp2_with (first | (go_at_call 10; refine (hnear.out _).mono ?_; rintro e w9 ⟨rfl, hw9⟩; subst hw9) | (at_builtin; go_must (refine wpList_append_own _ rfl (.tmp 34) (.tmp 36) 31 rfl (gm + 1) 3 i0 (.int .i64 0) 1 8 Tryd.underlying31 hi hz0 hz1 hz2 rfl (by decide) _ _ _ rfl (HL2.out.alloc _) ⟨w9.heap.size, 0, none⟩ 1 1 [.int .i64 (n : Int)] rfl rfl ?c1 ?c2 ?c3 ?c4 ?c5 ?_)))
        case c1 =>
          intro j u hj
          match j, hj with
          | 0, hj =>
            simp at hj; subst hj
            have e : (w9.setCell ⟨gm, n, none⟩ (.bool true)).heap.size = w9.heap.size := by simp [World.setCell]
            rw [Addr.add_lit, ← e]
            exact (cell_of_row _ _ 0 _ _ (0, 0) (heap_alloc_new (w9.setCell ⟨gm, n, none⟩ (.bool true)) _)).trans rfl
        case c2 => intro u hu; simp at hu; subst hu; rfl
        case c3 => rw [List.length_map, List.length_take]; unfold maxLen; omega
        case c4 => rw [List.length_map, List.length_take]; omega
        case c5 => first | omega | (simp; omega) | (simp [World.setCell]; omega)
        intro v' w4 hown' hgrow _
        have hR : Hid (ArgsO (gm + 1) w4 v' ((L.take (i + 1)).map fun x => nearN x raw)) := hide (by
          rw [HN.out]
          simpa [ArgsO, Nat.min_eq_left (show i ≤ L.length by omega)] using hown')
        have hne : some gm ≠ Value.ownBlock u4 := fun e => by have := (World.ownsRow.lt HL2.out gm e.symm).1; omega
        have hM4 : Hid (ModAt w4 gm (ofL ((L.take (i + 1)).map fun x => nearN x raw))) := hide ((HM2.out.kept (World.grownBy_alloc _ _ none) (by simp)).kept hgrow hne)
        have hB4 : Hid (Below gm w3 w4) := hide ((HB2.out.alloc (by first | omega | (simp; omega) | (simp [World.setCell]; omega)) _).grown hgrow (by first | omega | (simp; omega) | (simp [World.setCell]; omega)) (fun k hk => by have := (World.ownsRow.lt HL2.out k hk).1; omega))
        have hg4 : gm + 1 ≤ w4.heap.size := by have := hgrow.size; first | omega | (simp at this; omega) | (simp [World.setCell] at this; omega)
        clear hown' hgrow
        go_wp2_with fail
        go_roundw
        case rel => exact ⟨i + 1, by omega, by omega, by go_num, hR, hM4, hB4, hg4⟩
        case measure => simp [intOf]; omega
      · have hno : ofL ((L.take (i + 1)).map fun x => nearN x raw) = ofL ((L.take i).map fun x => nearN x raw) := by
          rw [HN.out, ofL_snoc]
          funext z
          unfold ins
          rw [inS_no (by omega)]
          simp
        have HM2 : Hid (ModAt wq gm (ofL ((L.take (i + 1)).map fun x => nearN x raw))) := hide (by rw [hno]; exact HM.out)
        clear hno
        rcases Int.lt_or_le y 0 with hy0 | hy0
        · have hy1 : ¬ 0 ≤ y := by omega
          go_wp2_with (first | (go_at_call 10; refine (hnear.out _).mono ?_; rintro e w9 ⟨rfl, hw9⟩; subst hw9) | (at_builtin; go_must (refine wpList_append_own _ rfl (.tmp 34) (.tmp 36) 31 rfl (gm + 1) 3 i0 (.int .i64 0) 1 8 Tryd.underlying31 hi hz0 hz1 hz2 rfl (by decide) _ _ _ rfl (HL.out.alloc _) ⟨w9.heap.size, 0, none⟩ 1 1 [.int .i64 y] rfl rfl ?d1 ?d2 ?d3 ?d4 ?d5 ?_)))
          try case d2 => first | rfl | (intro u hu; simp at hu; subst hu; rfl)
          try case d3 => first | (unfold maxLen; omega) | (rw [List.length_map, List.length_take]; unfold maxLen; omega)
          try case d4 => first | omega | (rw [List.length_map, List.length_take]; omega)
          try case d5 => first | omega | (simp; omega)
          intro v' w4 hown' hgrow _
          have hR : Hid (ArgsO (gm + 1) w4 v' ((L.take (i + 1)).map fun x => nearN x raw)) := hide (by
            rw [HN.out]
            simpa [ArgsO, Nat.min_eq_left (show i ≤ L.length by omega)] using hown')
          have hne : some gm ≠ Value.ownBlock u4 := fun e => by have := (World.ownsRow.lt HL.out gm e.symm).1; omega
          have hM4 : Hid (ModAt w4 gm (ofL ((L.take (i + 1)).map fun x => nearN x raw))) := hide ((HM2.out.kept (World.grownBy_alloc _ _ none) (by simp)).kept hgrow hne)
          have hB4 : Hid (Below gm w3 w4) := hide ((HB.out.alloc (by first | omega | (simp; omega) | (simp [World.setCell]; omega)) _).grown hgrow (by first | omega | (simp; omega) | (simp [World.setCell]; omega)) (fun k hk => by have := (World.ownsRow.lt HL.out k hk).1; omega))
          have hg4 : gm + 1 ≤ w4.heap.size := by have := hgrow.size; first | omega | (simp at this; omega) | (simp [World.setCell] at this; omega)
          clear hown' hgrow
          go_wp2_with fail
          go_roundw
          case rel => exact ⟨i + 1, by omega, by omega, by go_num, hR, hM4, hB4, hg4⟩
          case measure => simp [intOf]; omega
        · have hy1 : ¬ y < 4096 := by omega
          go_wp2_with (first | (go_at_call 10; refine (hnear.out _).mono ?_; rintro e w9 ⟨rfl, hw9⟩; subst hw9) | (at_builtin; go_must (refine wpList_append_own _ rfl (.tmp 34) (.tmp 36) 31 rfl (gm + 1) 3 i0 (.int .i64 0) 1 8 Tryd.underlying31 hi hz0 hz1 hz2 rfl (by decide) _ _ _ rfl (HL.out.alloc _) ⟨w9.heap.size, 0, none⟩ 1 1 [.int .i64 y] rfl rfl ?e1 ?e2 ?e3 ?e4 ?e5 ?_)))
          try case e1 =>
            intro j u hj
            match j, hj with
            | 0, hj => simp at hj; subst hj; simp [Addr.add]
          try case e2 => first | rfl | (intro u hu; simp at hu; subst hu; rfl)
          try case e3 => first | (unfold maxLen; omega) | (rw [List.length_map, List.length_take]; unfold maxLen; omega)
          try case e4 => first | omega | (rw [List.length_map, List.length_take]; omega)
          try case e5 => first | omega | (simp; omega)
          intro v' w4 hown' hgrow _
          have hR : Hid (ArgsO (gm + 1) w4 v' ((L.take (i + 1)).map fun x => nearN x raw)) := hide (by
            rw [HN.out]
            simpa [ArgsO, Nat.min_eq_left (show i ≤ L.length by omega)] using hown')
          have hne : some gm ≠ Value.ownBlock u4 := fun e => by have := (World.ownsRow.lt HL.out gm e.symm).1; omega
          have hM4 : Hid (ModAt w4 gm (ofL ((L.take (i + 1)).map fun x => nearN x raw))) := hide ((HM2.out.kept (World.grownBy_alloc _ _ none) (by simp)).kept hgrow hne)
          have hB4 : Hid (Below gm w3 w4) := hide ((HB.out.alloc (by first | omega | (simp; omega) | (simp [World.setCell]; omega)) _).grown hgrow (by first | omega | (simp; omega) | (simp [World.setCell]; omega)) (fun k hk => by have := (World.ownsRow.lt HL.out k hk).1; omega))
          have hg4 : gm + 1 ≤ w4.heap.size := by have := hgrow.size; first | omega | (simp at this; omega) | (simp [World.setCell] at this; omega)
          clear hown' hgrow
          go_wp2_with fail
          go_roundw
          case rel => exact ⟨i + 1, by omega, by omega, by go_num, hR, hM4, hB4, hg4⟩
          case measure => simp [intOf]; omega
    · have HE : Hid ((L.take i).map (fun x => nearN x raw) = nl L raw) := hide (by
        unfold nl
        congr 1
        by_cases h51 : i < 51
        · have : i = L.length := by omega
          subst this
          rw [List.take_length, List.take_of_length_le (by omega)]
        · have : i = 51 := by omega
          rw [this])
      have hnl : (nl L raw).length ≤ 51 := by unfold nl; rw [List.length_map, List.length_take]; omega
      rw [HE.out] at HL HM
      have HF := hide (of_any u4 (nl L raw) wq (ArgsO.v HL.out) (by omega))
      have hsq : Hid (wq.heap[gs]? = some (.cells z64 27 (0, 0))) := hide ((HB.out.block gs HSM.out).trans HGS.out)
      have hgne : Hid (some gm ≠ some gs) := hide (by have := HSM.out; simp; omega)
      have HGE : Hid (w.grownBy wq none) := hide (gb_of (((gb_to HG3.out).mono (Nat.le_refl _)).trans (HB.out.mono HGW.out)))
      have hgsw : Hid (w.heap.size ≤ gs) := hide (by
        have := h2.out.1
        have := h1.out.2.2.size
        omega)
      by_cases hlen : i < L.length
      · obtain rfl : i = 51 := by omega
        obtain ⟨b, off, rfl, hc⟩ := (((HU.out.below (gb_to HG3.out))).at 51 hlen)
        have hbw : b < gm := by
          obtain ⟨b0, off0, e0, hc0⟩ := HU.out.at 51 hlen
          simp only [Option.some.injEq, Addr.mk.injEq] at e0
          have := World.block_lt_of_cell? w _ hc0
          have := HGW.out
          simp only at *
          omega
        have hcq : wq.cell? ⟨b, off + 51, none⟩ = some (.int .i64 (L.getD 51 0)) := (HB.out.cell (p := ⟨b, off + 51, none⟩) hbw).trans hc
        have hlt' : (51 : Int) < (L.length : Int) := by omega
        generalize L.getD 51 0 = x at *
        clear hc hbw c0 c1 c2 c3 HU
        go_wp2_with (first | (go_at_call 37; refine HF.out.mono ?_; rintro e w5 ⟨u, rfl, ⟨ds, rfl, hds⟩, hg5⟩) | (refine wpList_store_whole rfl 27 (.tmp 2) (.tmp 40) rfl gs 27 z64 ds rfl rfl (cells_at hsq.out hg5 (by simp)) (by rw [hds.1]; exact info27) (by rw [hds.1]; rfl) hds.cells ?_; intro w6 h6 h7 h8))
        have hload := run_loadVar_row (P := Tryd.prog) w6 gs 27 27 ds (0, 0) _ h6.out Tryd.underlying27 rfl (by rw [hds.1]; exact info27)
        refine bodyPost_ret (v := .tuple #[.agg ds, .pointer (some ⟨gm, 0, none⟩)]) (by simp [results, Tryd.results11, asAddr, hload]) rfl ?_
        exact ⟨_, gm, rfl, ⟨ds, rfl, hds⟩, HGW.out, (HM.out.kept hg5 (by simp)).kept h7.out hgne.out, (HGE.out.trans hg5).andThen h7.out (fun j e => by cases e; exact .inl hgsw.out)⟩
      · obtain rfl : i = L.length := by omega
        clear c0 c1 c2 c3 HU
        go_wp2_with (first | (go_at_call 37; refine HF.out.mono ?_; rintro e w5 ⟨u, rfl, ⟨ds, rfl, hds⟩, hg5⟩) | (refine wpList_store_whole rfl 27 (.tmp 2) (.tmp 40) rfl gs 27 z64 ds rfl rfl (cells_at hsq.out hg5 (by simp)) (by rw [hds.1]; exact info27) (by rw [hds.1]; rfl) hds.cells ?_; intro w6 h6 h7 h8))
        have hload := run_loadVar_row (P := Tryd.prog) w6 gs 27 27 ds (0, 0) _ h6.out Tryd.underlying27 rfl (by rw [hds.1]; exact info27)
        refine bodyPost_ret (v := .tuple #[.agg ds, .pointer (some ⟨gm, 0, none⟩)]) (by simp [results, Tryd.results11, asAddr, hload]) rfl ?_
        exact ⟨_, gm, rfl, ⟨ds, rfl, hds⟩, HGW.out, (HM.out.kept hg5 (by simp)).kept h7.out hgne.out, (HGE.out.trans hg5).andThen h7.out (fun j e => by cases e; exact .inl hgsw.out)⟩
end Go.Proofs.YtdeebmpmfedjbaaDoor
