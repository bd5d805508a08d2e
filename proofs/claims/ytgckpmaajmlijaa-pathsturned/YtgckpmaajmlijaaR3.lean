/- The document's Order. -/
import Derived.Test.YtgckpmaajmlijaaR2
import Derived.OwnWalk
namespace Go.Proofs.Ytgckpmaajmlijaa
open Go.RowKit Ir Wy

theorem info4b : (Try.prog.info? 4).map (fun i => (i.zero, i.size, i.bytes)) = some (some (.bool false), 1, 1) := by kernel_rfl
theorem bools_made {w : World} {g n : Nat} {xs : List Value} (h : w.ownsRow g 4 1 (.slice (some ⟨g, 0, none⟩) n n) n xs) (hx : ∀ i, i < n → xs[i]? = some (.bool false)) : BoolsAt w g n (fun _ => false) := by
  rcases h.2 with ⟨e, _⟩ | ⟨g', cap, cur, e, _, hg, hn, _, hs, ht⟩
  · cases e
  · simp only [Value.slice.injEq, Option.some.injEq, Addr.mk.injEq, and_true, true_and] at e
    obtain ⟨rfl, rfl⟩ := e
    refine ⟨cur, hg, by omega, fun i hi => ?_⟩
    have : (cur.toList.take (n * 1))[i]? = some (.bool false) := by rw [ht]; exact hx i hi
    rw [List.getElem?_take] at this
    rw [if_pos (by omega)] at this
    simpa using this
theorem getD_rev {l : List Int} {j : Nat} (h : j < l.length) : l.reverse.take (l.length - j) = l.reverse.take (l.length - (j + 1)) ++ [l.getD j 0] := by
  rw [show l.length - j = l.length - (j + 1) + 1 by omega, List.take_succ_eq_append_getElem (by simp; omega), List.getElem_reverse, getD_get _ _ _ h]
  congr 3
  omega
/-- The slice of blocks, its ends known, from this world on. -/
theorem refOrder_any (w : World) (lv : Value) (es : List En) (H0 : EndsV w lv es) (hin : EndsIn es) (h0 : 0 < es.length) (hn : es.length ≤ 1000) :
    Calls Try.prog 14 #[lv] w fun e w' => ∃ u, e = .returned u ∧ ArgsO w.heap.size w' u (ci (ordD (nxE es) es.length)) ∧ Below w.heap.size w w' := by
  obtain ⟨ao, c, rfl⟩ := H0.slice
  obtain ⟨i4, hi, hz, hs, hb⟩ := info_parts info4b
  have hk : Hid (∀ w1, w.grownBy w1 none → BoolsAt w1 w.heap.size es.length (fun _ => false) → Calls Try.prog 29 #[.slice ao es.length c, .int .i64 (0 : Nat), .slice none 0 0, .slice (some ⟨w.heap.size, 0, none⟩) es.length es.length] w1 (DownPost w es.length w.heap.size w1 (.slice none 0 0) (dn (nxE es) es.length 0 ([], fun _ => false)))) := by
    intro w1 hg hS
    have hl := left_none es.length
    exact down_any w ao c es H0 hin hn w.heap.size (Nat.le_refl _) es.length 0 ([], fun _ => false) (.slice none 0 0) w1 h0 rfl (by show left (fun _ => false) _ ≤ _; omega) ⟨hg.os, hg.tape, hg.output, hg.size, fun k hk => hg.block k hk (by simp)⟩ (ArgsO.nil _ _) hS (by show 0 + left (fun _ => false) _ ≤ _; omega)
  have hlen : Hid ((ci (rowD (nxE es) es.length)).length ≤ 1000) := by
    obtain ⟨h1, _⟩ := dn_len (hin.nx) (f := es.length) (b := 0) (s := ([], fun _ => false)) h0 rfl (by rw [left_none]; exact Nat.le_refl _)
    have hl := left_none es.length
    show (ci (rowD _ _)).length ≤ 1000
    rw [List.length_map]
    simp only [List.length_nil] at h1
    unfold rowD
    omega
  go_enter Try.func14, Try.ntmps14
  go_wp2_with (at_make; go_must (refine wpList_make_full w rfl (.tmp 8) (.tmp 8) 37 rfl w.heap.size 4 i4 (.bool false) 1 Try.underlying37 hi hz hs .i64 .i64 _ _ es.length rfl rfl rfl rfl (by rw [hb]; omega) (by unfold maxLen; omega) (Nat.le_refl _) ?_))
  intro w1 ho1 hg1
  have hk1 := hide (hk.out w1 hg1 (bools_made ho1 (fun i hi => by
    have : (madeCells #[Value.bool false] es.length).toList[i]? = some (Value.bool false) := by simp [madeCells, hi, Nat.mod_one]
    exact this)))
  have hB1 : Hid (Below w.heap.size w w1) := hide ⟨hg1.os, hg1.tape, hg1.output, hg1.size, fun k hk => hg1.block k hk (by simp)⟩
  clear ho1 hg1 hk
  go_wp2_with fail
  refine hk1.out.mono ?_
  rintro r w2 ⟨v', rfl, hO2, hS2, hD2⟩
  have HO2 := hide hO2
  have hB2 := hide (hD2.below hB1.out (fun k e => by omega) (fun k e => by simp [Value.ownBlock] at e))
  clear hO2 hS2 hD2 hk1 hB1
  have HR : Hid (ci (dn (nxE es) es.length 0 ([], fun _ => false)).1 = ci (rowD (nxE es) es.length)) := hide rfl
  generalize ci (dn (nxE es) es.length 0 ([], fun _ => false)).1 = L at *
  have HR2 : Hid (L.reverse = ci (ordD (nxE es) es.length)) := hide (by rw [HR.out]; simp [ordD, ci])
  have hlL : L.length ≤ 1000 := by rw [HR.out]; exact hlen.out
  obtain ⟨aL, cL, rfl⟩ := HO2.out.slice
  have HU := hide HO2.out.v
  clear HR hlen HO2
  go_wp2_with fail
  go_loopw [4, 5] (fun rv iv wr => ∃ (j : Nat) (Lt : List Int), j ≤ L.length ∧ iv = .int .i64 ((j : Int) - 1) ∧ ArgsO w2.heap.size wr rv Lt ∧ Hid (Lt = L.reverse.take (L.length - j)) ∧ Hid (Below w2.heap.size w2 wr) ∧ Lt.length ≤ 1000) (fun _ iv _ => (intOf iv + 1).toNat)
  case atStart => exact ⟨L.length, [], Nat.le_refl _, by go_num, ArgsO.nil _ _, hide (by simp), hide (Below.refl _ _), by simp⟩
  case round =>
    obtain ⟨j, Lt, hj, rfl, hO, hL, hB, hlt⟩ := hrel
    obtain ⟨aT, cT, rfl⟩ := hO.slice
    have HO := hide hO
    cases j with
    | zero =>
      have hF : Hid (Lt = ci (ordD (nxE es) es.length)) := hide (by rw [hL.out, ← HR2.out, Nat.sub_zero]; exact List.take_of_length_le (by rw [List.length_reverse]; exact Nat.le_refl _))
      have hm : ((0 : Nat) : Int) - 1 = -1 := by omega
      rw [hm]
      have HE := hide (hB2.out.trans (hB.out.mono hB2.out.size))
      clear hO hm
      go_wp2_with fail
      go_ret
      exact ⟨_, rfl, by rw [← hF.out]; exact HO.out.mono hB2.out.size, HE.out⟩
    | succ j =>
      have hm : ((j + 1 : Nat) : Int) - 1 = (j : Int) := by omega
      rw [hm]
      have hj' : j < L.length := by omega
      obtain ⟨gu, ou, rfl, hc⟩ := (HU.out.below hB.out).at j hj'
      have hstep := hide (getD_rev hj')
      have hlt' : (j : Int) < (L.length : Int) := by omega
      have hge : (0 : Int) ≤ (j : Int) := by omega
      generalize L.getD j 0 = x at *
      have hn := heap_alloc_new wr (.cells #[.int .i64 x] 3)
      have hO4 := HO.out.below (bel1' wr (.cells #[.int .i64 x] 3))
      have hz := hide hB.out.size
      have HLt : Hid (Lt.length = L.length - (j + 1)) := hide (by rw [hL.out, List.length_take, List.length_reverse]; omega)
      clear hO hm
      go_wp2_with (at_builtin; go_must (refine snoc_int (B := w2.heap.size) (.tmp 18) (.tmp 23) rfl rfl hO4 hn rfl rfl (by omega) (by have := hz.out; simp; omega) ?_))
      intro v' w4 hO5 hg5 _
      have HO5 := hide hO5
      have hB5 : Hid (Below w2.heap.size w2 w4) := hide ((hB.out.trans ((bel1' wr _).mono hB.out.size)).grown hg5 (by have := hB.out.size; simp; omega) (fun k e => (hO4.lt k e).1))
      clear hO5 hg5 hn hO4
      go_wp2_with fail
      go_roundw
      case rel => exact ⟨j, Lt ++ [x], by omega, by go_num, HO5.out, hide (by rw [hL.out]; exact hstep.out.symm), hB5, by have := HLt.out; simp; omega⟩
      case measure => simp [intOf]
end Go.Proofs.Ytgckpmaajmlijaa
