/- ir's below, endFormed, Last, targets, Ends, and the document's Takes and End. -/
import Derived.Test.YtbjnhicikkjadabMem
import Derived.Test.YtbjnhicikkjadabAny
import Derived.BigQuiet
import Derived.Deep.QuietTactic
namespace Go.Proofs.Ytbjnhicikkjadab
open Go.RowKit Ir

theorem bel1 (w : World) (o : Obj) : Below w.heap.size w (w.alloc o) := (Below.refl _ _).alloc (Nat.le_refl _) o
theorem bel2 (w : World) (o o' : Obj) : Below w.heap.size w ((w.alloc o).alloc o') := (bel1 w o).alloc (by simp) o'
theorem ret_eq {c d : Bool} (h : c = d) : Ending.returned (.bool c) = .returned (.bool d) := by rw [h]

theorem below_any (n m : Int) (w : World) : Calls Try.prog 25 #[.int .i64 n, .int .i64 m] w fun e w' => e = .returned (.bool (inr n m)) ∧ w' = w := by
  go_enter Try.func25, Try.ntmps25
  go_wp2_with fail
  all_goals
    go_ret
    refine ⟨ret_eq ?_, rfl⟩
    simp_all [inr] <;> omega
set_option maxRecDepth 100000 in
theorem endFormed_any (e : En) (w : World) : Calls Try.prog 27 #[endV e] w fun r w' => r = .returned (.bool (endFormed e)) ∧ Below w.heap.size w w' := by
  obtain ⟨k, a, t, l⟩ := e
  unfold endV
  go_enter Try.func27, Try.ntmps27
  go_wp2_with fail
  all_goals
    go_ret
    refine ⟨ret_eq ?_, bel1 _ _⟩
    simp_all [endFormed] <;> rfl
theorem takes_eq (k : Int) : takes k = (k == 2 || k == 3) := by
  unfold takes
  by_cases h : k = 2 <;> by_cases h' : k = 3 <;> simp [h, h']
theorem ints1 (w : World) (t : Int) : IntsV (w.alloc (.cells #[.int .i64 t] 3)) (.slice (some ⟨w.heap.size, 0, none⟩) 1 1) [t] := by
  refine ⟨_, 1, rfl, by simp, by simp [maxLen], by simp, fun _ => ⟨_, _, rfl, fun j hj => ?_⟩⟩
  show (w.alloc _).cell? _ = _
  rw [World.cell?_alloc_new]
  match j, hj with
  | 0, _ => rfl
theorem ints2 (w : World) (t l : Int) : IntsV (w.alloc (.cells #[.int .i64 t, .int .i64 l] 3)) (.slice (some ⟨w.heap.size, 0, none⟩) 2 2) [t, l] := by
  refine ⟨_, 2, rfl, by simp, by simp [maxLen], by simp, fun _ => ⟨_, _, rfl, fun j hj => ?_⟩⟩
  show (w.alloc _).cell? _ = _
  rw [World.cell?_alloc_new]
  match j, hj with
  | 0, _ => rfl
  | 1, _ => rfl
set_option maxRecDepth 100000 in
theorem targets_any (e : En) (w : World) : Calls Try.prog 29 #[endV e] w fun r w' => ∃ u, r = .returned u ∧ IntsV w' u (targets e) ∧ Below w.heap.size w w' := by
  obtain ⟨k, a, t, l⟩ := e
  unfold endV
  have h1 := ints1 (w.alloc (.cells #[.int .u8 k, .int .i64 a, .int .i64 t, .int .i64 l] 37)) t
  have h2 := ints2 (w.alloc (.cells #[.int .u8 k, .int .i64 a, .int .i64 t, .int .i64 l] 37)) t l
  have H1 := hide h1
  have H2 := hide h2
  clear h1 h2
  by_cases k1 : k = 1
  · subst k1
    go_enter Try.func29, Try.ntmps29
    go_wp2_with fail
    go_ret
    refine ⟨_, rfl, ?_, bel2 _ _ _⟩
    simpa [targets] using H1.out
  · by_cases k2 : k = 2
    · subst k2
      go_enter Try.func29, Try.ntmps29
      go_wp2_with fail
      go_ret
      refine ⟨_, rfl, ?_, bel2 _ _ _⟩
      simpa [targets] using H2.out
    · have b1 : (k == 1) = false := by simpa using k1
      have b2 : (k == 2) = false := by simpa using k2
      have ht : targets ⟨k, a, t, l⟩ = [] := by simp [targets, k1, k2]
      rw [ht]
      clear ht k1 k2
      go_enter Try.func29, Try.ntmps29
      go_wp2_with fail
      go_ret
      exact ⟨_, rfl, SlV.nil, bel1 _ _⟩
set_option maxRecDepth 100000 in
theorem last_any (e : En) (w : World) : Calls Try.prog 28 #[endV e] w fun r w' => r = .returned (.tuple #[.int .i64 e.a, .bool (takes e.k)]) ∧ Below w.heap.size w w' := by
  obtain ⟨k, a, t, l⟩ := e
  unfold endV
  by_cases k2 : k = 2
  · subst k2
    go_enter Try.func28, Try.ntmps28
    go_wp2_with fail
    go_quiet (fail)
    go_wp2
    go_ret2
    exact ⟨rfl, (bel1 _ _).trans ⟨rfl, rfl, rfl, Nat.le_refl _, fun _ _ => rfl⟩⟩
  · have b2 : (k == 2) = false := by simpa using k2
    have ht : takes k = (k == 3) := by simp [takes, k2]; rfl
    simp only [ht]
    clear k2 ht
    go_enter Try.func28, Try.ntmps28
    go_wp2_with fail
    go_quiet (fail)
    go_wp2
    go_ret2
    exact ⟨rfl, (bel1 _ _).trans ⟨rfl, rfl, rfl, Nat.le_refl _, fun _ _ => rfl⟩⟩

/-- A box of the call's own, in a later world. -/
theorem box_cell {w w1 : World} {cs : Array Value} {t : TypeId} (hB : Below (w.alloc (.cells cs t)).heap.size (w.alloc (.cells cs t)) w1) (j : Nat) {u : Value} (h : cs[j]? = some u) : w1.cell? ⟨w.heap.size, j, none⟩ = some u := by
  have h0 : (w.alloc (.cells cs t)).cell? ⟨w.heap.size, j, none⟩ = some u := by
    rw [World.cell?_alloc_new]
    exact h
  exact cell_below hB h0
theorem drop_getD {l : List Int} {i : Nat} (h : i < l.length) : l.drop i = l.getD i 0 :: l.drop (i + 1) := by
  rw [List.drop_eq_getElem_cons h]
  simp [List.getElem?_eq_getElem h]

set_option maxHeartbeats 1000000 in
set_option maxRecDepth 100000 in
theorem ends_any (e : En) (v nb : Int) (w : World) : Calls Try.prog 21 #[endV e, .int .i64 v, .int .i64 nb] w fun r w' => r = .returned (.int .i64 (endF e v nb)) ∧ Below w.heap.size w w' := by
  have hF := hide (endFormed_any e (w.alloc (.cells #[.int .u8 e.k, .int .i64 e.a, .int .i64 e.to, .int .i64 e.el] 37)))
  have hB0 := bel1 w (.cells #[.int .u8 e.k, .int .i64 e.a, .int .i64 e.to, .int .i64 e.el] 37)
  have hE : endV e = .agg #[.int .u8 e.k, .int .i64 e.a, .int .i64 e.to, .int .i64 e.el] := rfl
  rw [hE] at hF ⊢
  go_enter Try.func21, Try.ntmps21
  go_wp2_with fail
  refine hF.out.mono ?_
  rintro r w1 ⟨rfl, hB1⟩
  have c0 := box_cell hB1 0 rfl
  have c1 := box_cell hB1 1 rfl
  have c2 := box_cell hB1 2 rfl
  have c3 := box_cell hB1 3 rfl
  have hBw1 := bel_of hB0 hB1
  have hL := hide (last_any e w1)
  rw [hE] at hL
  cases hf : endFormed e with
  | false =>
    have he : Hid (endF e v nb = 20) := by show _ = _; unfold endF; rw [if_pos hf]
    clear hE hF hL hB1 hB0
    go_wp2_with fail
    go_ret
    exact ⟨by rw [he.out]; rfl, hBw1⟩
  | true =>
    clear hF hB1 hB0
    go_wp2_with fail
    refine hL.out.mono ?_
    rintro r w2 ⟨rfl, hB2⟩
    have d0 := cell_below hB2 c0
    have d1 := cell_below hB2 c1
    have d2 := cell_below hB2 c2
    have d3 := cell_below hB2 c3
    have hBw2 := bel_of hBw1 hB2
    have hT := hide (targets_any e w2)
    rw [hE] at hT
    have hb := hide (below_any e.a v w2)
    clear hL c0 c1 c2 c3 hB2 hBw1 hE
    cases ht : takes e.k with
    | true =>
      cases hi : inr e.a v with
      | false =>
        have he : Hid (endF e v nb = 21) := by show _ = _; unfold endF; rw [if_neg (by simp [hf]), if_pos ⟨ht, hi⟩]
        clear hT
        go_wp2_with fail
        refine hb.out.mono ?_
        rintro r w3 ⟨rfl, rfl⟩
        rw [hi]
        go_wp2_with fail
        go_ret
        exact ⟨by rw [he.out]; rfl, hBw2⟩
      | true =>
        have he : Hid (endF e v nb = if (targets e).all (inr · nb) then 0 else 22) := by show _ = _; unfold endF; rw [if_neg (by simp [hf]), if_neg (by simp [hi])]
        go_wp2_with fail
        refine hb.out.mono ?_
        rintro r w3 ⟨rfl, rfl⟩
        rw [hi]
        clear hb hi ht hf
        go_wp2_with fail
        refine hT.out.mono ?_
        rintro r w4 ⟨u, rfl, hu, hB4⟩
        have hBw4 := bel_of hBw2 hB4
        obtain ⟨ao, cap, rfl⟩ := hu.slice
        have HU := hide hu
        have hl3 : (targets e).length ≤ 2 := by unfold targets; (repeat' split) <;> simp
        clear hT hu hB4 hBw2 d0 d1 d2 d3
        generalize targets e = ts at *
        go_wp2_with fail
        go_loop [10, 29] (fun _ iv => ∃ i : Nat, i ≤ ts.length ∧ iv = .int .i64 i ∧ Hid (ts.all (inr · nb) = (ts.drop i).all (inr · nb))) (fun _ iv => ts.length - (intOf iv).toNat)
        case atStart => exact ⟨0, by omega, rfl, rfl⟩
        case round =>
          obtain ⟨i, hi1, rfl, hall⟩ := hrel
          by_cases hlt : i < ts.length
          · obtain ⟨b, off, rfl, hc⟩ := HU.out.at i hlt
            have hdr := hide (drop_getD hlt)
            generalize ts.getD i 0 = x at *
            have hbl := hide (below_any x nb w4)
            cases hx : inr x nb with
            | true =>
              have hall2 : Hid (ts.all (inr · nb) = (ts.drop (i + 1)).all (inr · nb)) := by
                show _ = _
                rw [hall.out, hdr.out, List.all_cons, hx, Bool.true_and]
              clear hall hdr
              go_wp2_with fail
              refine hbl.out.mono ?_
              rintro r w5 ⟨rfl, rfl⟩
              rw [hx]
              go_wp2_with fail
              go_round
              case rel => exact ⟨i + 1, by omega, by go_num, hall2⟩
              case measure => simp [intOf]; omega
            | false =>
              have hall2 : Hid (ts.all (inr · nb) = false) := by
                show _ = _
                rw [hall.out, hdr.out, List.all_cons, hx, Bool.false_and]
              clear hall hdr
              go_wp2_with fail
              refine hbl.out.mono ?_
              rintro r w5 ⟨rfl, rfl⟩
              rw [hx]
              go_wp2_with fail
              go_ret
              exact ⟨by rw [he.out, hall2.out]; rfl, hBw4⟩
          · obtain rfl : i = ts.length := by omega
            have hall2 : Hid (ts.all (inr · nb) = true) := by
              show _ = _
              rw [hall.out]
              simp
            clear hall
            go_wp2_with fail
            go_ret
            exact ⟨by rw [he.out, hall2.out]; rfl, hBw4⟩
    | false =>
      have he : Hid (endF e v nb = if (targets e).all (inr · nb) then 0 else 22) := by show _ = _; unfold endF; rw [if_neg (by simp [hf]), if_neg (by simp [ht])]
      clear hb ht hf
      go_wp2_with fail
      refine hT.out.mono ?_
      rintro r w4 ⟨u, rfl, hu, hB4⟩
      have hBw4 := bel_of hBw2 hB4
      obtain ⟨ao, cap, rfl⟩ := hu.slice
      have HU := hide hu
      have hl3 : (targets e).length ≤ 2 := by unfold targets; (repeat' split) <;> simp
      clear hT hu hB4 hBw2 d0 d1 d2 d3
      generalize targets e = ts at *
      go_wp2_with fail
      go_loop [10, 29] (fun _ iv => ∃ i : Nat, i ≤ ts.length ∧ iv = .int .i64 i ∧ Hid (ts.all (inr · nb) = (ts.drop i).all (inr · nb))) (fun _ iv => ts.length - (intOf iv).toNat)
      case atStart => exact ⟨0, by omega, rfl, rfl⟩
      case round =>
        obtain ⟨i, hi1, rfl, hall⟩ := hrel
        by_cases hlt : i < ts.length
        · obtain ⟨b, off, rfl, hc⟩ := HU.out.at i hlt
          have hdr := hide (drop_getD hlt)
          generalize ts.getD i 0 = x at *
          have hbl := hide (below_any x nb w4)
          cases hx : inr x nb with
          | true =>
            have hall2 : Hid (ts.all (inr · nb) = (ts.drop (i + 1)).all (inr · nb)) := by
              show _ = _
              rw [hall.out, hdr.out, List.all_cons, hx, Bool.true_and]
            clear hall hdr
            go_wp2_with fail
            refine hbl.out.mono ?_
            rintro r w5 ⟨rfl, rfl⟩
            rw [hx]
            go_wp2_with fail
            go_round
            case rel => exact ⟨i + 1, by omega, by go_num, hall2⟩
            case measure => simp [intOf]; omega
          | false =>
            have hall2 : Hid (ts.all (inr · nb) = false) := by
              show _ = _
              rw [hall.out, hdr.out, List.all_cons, hx, Bool.false_and]
            clear hall hdr
            go_wp2_with fail
            refine hbl.out.mono ?_
            rintro r w5 ⟨rfl, rfl⟩
            rw [hx]
            go_wp2_with fail
            go_ret
            exact ⟨by rw [he.out, hall2.out]; rfl, hBw4⟩
        · obtain rfl : i = ts.length := by omega
          have hall2 : Hid (ts.all (inr · nb) = true) := by
            show _ = _
            rw [hall.out]
            simp
          clear hall
          go_wp2_with fail
          go_ret
          exact ⟨by rw [he.out, hall2.out]; rfl, hBw4⟩


theorem endF_k1 {a t l v nb : Int} : endF ⟨1, a, t, l⟩ v nb = if a = 0 ∧ l = 0 then (if 0 ≤ t ∧ t < nb then 0 else 22) else 20 := by
  simp only [endF, endFormed, takes, targets, inr]
  by_cases h : a = 0 ∧ l = 0 <;> by_cases h2 : 0 ≤ t ∧ t < nb <;> simp [h, h2]
theorem endF_k2 {a t l v nb : Int} : endF ⟨2, a, t, l⟩ v nb = if 0 ≤ a ∧ a < v then (if 0 ≤ t ∧ t < nb ∧ 0 ≤ l ∧ l < nb then 0 else 22) else 21 := by
  simp only [endF, endFormed, takes, targets, inr]
  by_cases h : 0 ≤ a ∧ a < v <;> by_cases h1 : 0 ≤ t <;> by_cases h2 : t < nb <;> by_cases h3 : 0 ≤ l <;> by_cases h4 : l < nb <;> simp [h, h1, h2, h3, h4] <;> omega
theorem endF_k3 {a t l v nb : Int} : endF ⟨3, a, t, l⟩ v nb = if t = 0 ∧ l = 0 then (if 0 ≤ a ∧ a < v then 0 else 21) else 20 := by
  simp only [endF, endFormed, takes, targets, inr]
  by_cases h : t = 0 ∧ l = 0 <;> by_cases h1 : 0 ≤ a <;> by_cases h2 : a < v <;> simp [h, h1, h2]
theorem endF_kx {k a t l v nb : Int} (h1 : k ≠ 1) (h2 : k ≠ 2) (h3 : k ≠ 3) : endF ⟨k, a, t, l⟩ v nb = 20 := by
  simp [endF, endFormed, h1, h2, h3]
end Go.Proofs.Ytbjnhicikkjadab
