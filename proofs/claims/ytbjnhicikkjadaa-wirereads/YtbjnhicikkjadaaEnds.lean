/- ir's below, endFormed, Last, targets, Ends, and the document's Takes and End. -/
import Derived.Test.YtbjnhicikkjadaaMem
import Derived.Test.YtbjnhicikkjadaaAny
import Derived.BigQuiet
import Derived.Deep.QuietTactic
namespace Go.Proofs.Ytbjnhicikkjadaa
open Go.RowKit Ir

theorem bel1 (w : World) (o : Obj) : Below w.heap.size w (w.alloc o) := (Below.refl _ _).alloc (Nat.le_refl _) o
theorem bel2 (w : World) (o o' : Obj) : Below w.heap.size w ((w.alloc o).alloc o') := (bel1 w o).alloc (by simp) o'
theorem ret_eq {c d : Bool} (h : c = d) : Ending.returned (.bool c) = .returned (.bool d) := by rw [h]

theorem below_any (n m : Int) (w : World) : Calls Try.prog 96 #[.int .i64 n, .int .i64 m] w fun e w' => e = .returned (.bool (inr n m)) ∧ w' = w := by
  go_enter Try.func96, Try.ntmps96
  go_wp2_with fail
  all_goals
    go_ret
    refine ⟨ret_eq ?_, rfl⟩
    simp_all [inr] <;> omega
set_option maxRecDepth 100000 in
theorem endFormed_any (e : En) (w : World) : Calls Try.prog 98 #[endV e] w fun r w' => r = .returned (.bool (endFormed e)) ∧ Below w.heap.size w w' := by
  obtain ⟨k, a, t, l⟩ := e
  unfold endV
  go_enter Try.func98, Try.ntmps98
  go_wp2_with fail
  all_goals
    go_ret
    refine ⟨ret_eq ?_, bel1 _ _⟩
    simp_all [endFormed] <;> rfl
theorem takes_eq (k : Int) : takes k = (k == 2 || k == 3) := by
  unfold takes
  by_cases h : k = 2 <;> by_cases h' : k = 3 <;> simp [h, h']
set_option maxRecDepth 100000 in
theorem takes_any (e : En) (w : World) : Calls Try.prog 65 #[endV e] w fun r w' => r = .returned (.bool (takes e.k)) ∧ Below w.heap.size w w' := by
  obtain ⟨k, a, t, l⟩ := e
  unfold endV
  go_enter Try.func65, Try.ntmps65
  go_wp2_with fail
  all_goals
    go_ret
    refine ⟨ret_eq ?_, bel1 _ _⟩
    rw [takes_eq]
    first | done | simp_all
theorem ints1 (w : World) (t : Int) : IntsV (w.alloc (.cells #[.int .i64 t] 3)) (.slice (some ⟨w.heap.size, 0, none⟩) 1 1) [t] := by
  refine ⟨_, 1, rfl, by simp, by simp [maxLen], by simp, fun _ => ⟨_, _, rfl, fun j hj => ?_⟩⟩
  show (w.alloc _).cell? _ = _
  rw [World.cell?_alloc_new]
  match j, hj with
  | 0, _ => rfl
theorem ints2 (w : World) (t l : Int) : IntsV (w.alloc (.cells #[.int .i64 t, .int .i64 l] 3)) (.slice (some ⟨w.heap.size, 0, none⟩) 2 2) [t, l] := by
  refine ⟨_, 2, rfl, by simp, by simp [maxLen], by simp, fun _ => ⟨_, _, rfl, fun j hj => ?_⟩⟩
  show (w.alloc _).cell? _ = _
  rw [World.cell?_alloc_new]
  match j, hj with
  | 0, _ => rfl
  | 1, _ => rfl
set_option maxRecDepth 100000 in
theorem targets_any (e : En) (w : World) : Calls Try.prog 100 #[endV e] w fun r w' => ∃ u, r = .returned u ∧ IntsV w' u (targets e) ∧ Below w.heap.size w w' := by
  obtain ⟨k, a, t, l⟩ := e
  unfold endV
  have h1 := ints1 (w.alloc (.cells #[.int .u8 k, .int .i64 a, .int .i64 t, .int .i64 l] 79)) t
  have h2 := ints2 (w.alloc (.cells #[.int .u8 k, .int .i64 a, .int .i64 t, .int .i64 l] 79)) t l
  have H1 := hide h1
  have H2 := hide h2
  clear h1 h2
  by_cases k1 : k = 1
  · subst k1
    go_enter Try.func100, Try.ntmps100
    go_wp2_with fail
    go_ret
    refine ⟨_, rfl, ?_, bel2 _ _ _⟩
    simpa [targets] using H1.out
  · by_cases k2 : k = 2
    · subst k2
      go_enter Try.func100, Try.ntmps100
      go_wp2_with fail
      go_ret
      refine ⟨_, rfl, ?_, bel2 _ _ _⟩
      simpa [targets] using H2.out
    · have b1 : (k == 1) = false := by simpa using k1
      have b2 : (k == 2) = false := by simpa using k2
      have ht : targets ⟨k, a, t, l⟩ = [] := by simp [targets, k1, k2]
      rw [ht]
      clear ht k1 k2
      go_enter Try.func100, Try.ntmps100
      go_wp2_with fail
      go_ret
      exact ⟨_, rfl, SlV.nil, bel1 _ _⟩
set_option maxRecDepth 100000 in
theorem last_any (e : En) (w : World) : Calls Try.prog 99 #[endV e] w fun r w' => r = .returned (.tuple #[.int .i64 e.a, .bool (takes e.k)]) ∧ Below w.heap.size w w' := by
  obtain ⟨k, a, t, l⟩ := e
  unfold endV
  by_cases k2 : k = 2
  · subst k2
    go_enter Try.func99, Try.ntmps99
    go_wp2_with fail
    go_quiet (fail)
    go_wp2
    go_ret2
    exact ⟨rfl, (bel1 _ _).trans ⟨rfl, rfl, rfl, Nat.le_refl _, fun _ _ => rfl⟩⟩
  · have b2 : (k == 2) = false := by simpa using k2
    have ht : takes k = (k == 3) := by simp [takes, k2]; rfl
    simp only [ht]
    clear k2 ht
    go_enter Try.func99, Try.ntmps99
    go_wp2_with fail
    go_quiet (fail)
    go_wp2
    go_ret2
    exact ⟨rfl, (bel1 _ _).trans ⟨rfl, rfl, rfl, Nat.le_refl _, fun _ _ => rfl⟩⟩

/-- A box of the call's own, in a later world. -/
theorem box_cell {w w1 : World} {cs : Array Value} {t : TypeId} (hB : Below (w.alloc (.cells cs t)).heap.size (w.alloc (.cells cs t)) w1) (j : Nat) {u : Value} (h : cs[j]? = some u) : w1.cell? ⟨w.heap.size, j, none⟩ = some u := by
  have h0 : (w.alloc (.cells cs t)).cell? ⟨w.heap.size, j, none⟩ = some u := by
    rw [World.cell?_alloc_new]
    exact h
  exact cell_below hB h0
theorem drop_getD {l : List Int} {i : Nat} (h : i < l.length) : l.drop i = l.getD i 0 :: l.drop (i + 1) := by
  rw [List.drop_eq_getElem_cons h]
  simp [List.getElem?_eq_getElem h]

set_option maxHeartbeats 1000000 in
set_option maxRecDepth 100000 in
theorem ends_any (e : En) (v nb : Int) (w : World) : Calls Try.prog 83 #[endV e, .int .i64 v, .int .i64 nb] w fun r w' => r = .returned (.int .i64 (endF e v nb)) ∧ Below w.heap.size w w' := by
  have hF := hide (endFormed_any e (w.alloc (.cells #[.int .u8 e.k, .int .i64 e.a, .int .i64 e.to, .int .i64 e.el] 79)))
  have hB0 := bel1 w (.cells #[.int .u8 e.k, .int .i64 e.a, .int .i64 e.to, .int .i64 e.el] 79)
  have hE : endV e = .agg #[.int .u8 e.k, .int .i64 e.a, .int .i64 e.to, .int .i64 e.el] := rfl
  rw [hE] at hF ⊢
  go_enter Try.func83, Try.ntmps83
  go_wp2_with fail
  refine hF.out.mono ?_
  rintro r w1 ⟨rfl, hB1⟩
  have c0 := box_cell hB1 0 rfl
  have c1 := box_cell hB1 1 rfl
  have c2 := box_cell hB1 2 rfl
  have c3 := box_cell hB1 3 rfl
  have hBw1 := bel_of hB0 hB1
  have hL := hide (last_any e w1)
  rw [hE] at hL
  cases hf : endFormed e with
  | false =>
    have he : Hid (endF e v nb = 20) := by show _ = _; unfold endF; rw [if_pos hf]
    clear hE hF hL hB1 hB0
    go_wp2_with fail
    go_ret
    exact ⟨by rw [he.out]; rfl, hBw1⟩
  | true =>
    clear hF hB1 hB0
    go_wp2_with fail
    refine hL.out.mono ?_
    rintro r w2 ⟨rfl, hB2⟩
    have d0 := cell_below hB2 c0
    have d1 := cell_below hB2 c1
    have d2 := cell_below hB2 c2
    have d3 := cell_below hB2 c3
    have hBw2 := bel_of hBw1 hB2
    have hT := hide (targets_any e w2)
    rw [hE] at hT
    have hb := hide (below_any e.a v w2)
    clear hL c0 c1 c2 c3 hB2 hBw1 hE
    cases ht : takes e.k with
    | true =>
      cases hi : inr e.a v with
      | false =>
        have he : Hid (endF e v nb = 21) := by show _ = _; unfold endF; rw [if_neg (by simp [hf]), if_pos ⟨ht, hi⟩]
        clear hT
        go_wp2_with fail
        refine hb.out.mono ?_
        rintro r w3 ⟨rfl, rfl⟩
        rw [hi]
        go_wp2_with fail
        go_ret
        exact ⟨by rw [he.out]; rfl, hBw2⟩
      | true =>
        have he : Hid (endF e v nb = if (targets e).all (inr · nb) then 0 else 22) := by show _ = _; unfold endF; rw [if_neg (by simp [hf]), if_neg (by simp [hi])]
        go_wp2_with fail
        refine hb.out.mono ?_
        rintro r w3 ⟨rfl, rfl⟩
        rw [hi]
        clear hb hi ht hf
        go_wp2_with fail
        refine hT.out.mono ?_
        rintro r w4 ⟨u, rfl, hu, hB4⟩
        have hBw4 := bel_of hBw2 hB4
        obtain ⟨ao, cap, rfl⟩ := hu.slice
        have HU := hide hu
        have hl3 : (targets e).length ≤ 2 := by unfold targets; (repeat' split) <;> simp
        clear hT hu hB4 hBw2 d0 d1 d2 d3
        generalize targets e = ts at *
        go_wp2_with fail
        go_loop [10, 29] (fun _ iv => ∃ i : Nat, i ≤ ts.length ∧ iv = .int .i64 i ∧ Hid (ts.all (inr · nb) = (ts.drop i).all (inr · nb))) (fun _ iv => ts.length - (intOf iv).toNat)
        case atStart => exact ⟨0, by omega, rfl, rfl⟩
        case round =>
          obtain ⟨i, hi1, rfl, hall⟩ := hrel
          by_cases hlt : i < ts.length
          · obtain ⟨b, off, rfl, hc⟩ := HU.out.at i hlt
            have hdr := hide (drop_getD hlt)
            generalize ts.getD i 0 = x at *
            have hbl := hide (below_any x nb w4)
            cases hx : inr x nb with
            | true =>
              have hall2 : Hid (ts.all (inr · nb) = (ts.drop (i + 1)).all (inr · nb)) := by
                show _ = _
                rw [hall.out, hdr.out, List.all_cons, hx, Bool.true_and]
              clear hall hdr
              go_wp2_with fail
              refine hbl.out.mono ?_
              rintro r w5 ⟨rfl, rfl⟩
              rw [hx]
              go_wp2_with fail
              go_round
              case rel => exact ⟨i + 1, by omega, by go_num, hall2⟩
              case measure => simp [intOf]; omega
            | false =>
              have hall2 : Hid (ts.all (inr · nb) = false) := by
                show _ = _
                rw [hall.out, hdr.out, List.all_cons, hx, Bool.false_and]
              clear hall hdr
              go_wp2_with fail
              refine hbl.out.mono ?_
              rintro r w5 ⟨rfl, rfl⟩
              rw [hx]
              go_wp2_with fail
              go_ret
              exact ⟨by rw [he.out, hall2.out]; rfl, hBw4⟩
          · obtain rfl : i = ts.length := by omega
            have hall2 : Hid (ts.all (inr · nb) = true) := by
              show _ = _
              rw [hall.out]
              simp
            clear hall
            go_wp2_with fail
            go_ret
            exact ⟨by rw [he.out, hall2.out]; rfl, hBw4⟩
    | false =>
      have he : Hid (endF e v nb = if (targets e).all (inr · nb) then 0 else 22) := by show _ = _; unfold endF; rw [if_neg (by simp [hf]), if_neg (by simp [ht])]
      clear hb ht hf
      go_wp2_with fail
      refine hT.out.mono ?_
      rintro r w4 ⟨u, rfl, hu, hB4⟩
      have hBw4 := bel_of hBw2 hB4
      obtain ⟨ao, cap, rfl⟩ := hu.slice
      have HU := hide hu
      have hl3 : (targets e).length ≤ 2 := by unfold targets; (repeat' split) <;> simp
      clear hT hu hB4 hBw2 d0 d1 d2 d3
      generalize targets e = ts at *
      go_wp2_with fail
      go_loop [10, 29] (fun _ iv => ∃ i : Nat, i ≤ ts.length ∧ iv = .int .i64 i ∧ Hid (ts.all (inr · nb) = (ts.drop i).all (inr · nb))) (fun _ iv => ts.length - (intOf iv).toNat)
      case atStart => exact ⟨0, by omega, rfl, rfl⟩
      case round =>
        obtain ⟨i, hi1, rfl, hall⟩ := hrel
        by_cases hlt : i < ts.length
        · obtain ⟨b, off, rfl, hc⟩ := HU.out.at i hlt
          have hdr := hide (drop_getD hlt)
          generalize ts.getD i 0 = x at *
          have hbl := hide (below_any x nb w4)
          cases hx : inr x nb with
          | true =>
            have hall2 : Hid (ts.all (inr · nb) = (ts.drop (i + 1)).all (inr · nb)) := by
              show _ = _
              rw [hall.out, hdr.out, List.all_cons, hx, Bool.true_and]
            clear hall hdr
            go_wp2_with fail
            refine hbl.out.mono ?_
            rintro r w5 ⟨rfl, rfl⟩
            rw [hx]
            go_wp2_with fail
            go_round
            case rel => exact ⟨i + 1, by omega, by go_num, hall2⟩
            case measure => simp [intOf]; omega
          | false =>
            have hall2 : Hid (ts.all (inr · nb) = false) := by
              show _ = _
              rw [hall.out, hdr.out, List.all_cons, hx, Bool.false_and]
            clear hall hdr
            go_wp2_with fail
            refine hbl.out.mono ?_
            rintro r w5 ⟨rfl, rfl⟩
            rw [hx]
            go_wp2_with fail
            go_ret
            exact ⟨by rw [he.out, hall2.out]; rfl, hBw4⟩
        · obtain rfl : i = ts.length := by omega
          have hall2 : Hid (ts.all (inr · nb) = true) := by
            show _ = _
            rw [hall.out]
            simp
          clear hall
          go_wp2_with fail
          go_ret
          exact ⟨by rw [he.out, hall2.out]; rfl, hBw4⟩


theorem endF_k1 {a t l v nb : Int} : endF ⟨1, a, t, l⟩ v nb = if a = 0 ∧ l = 0 then (if 0 ≤ t ∧ t < nb then 0 else 22) else 20 := by
  simp only [endF, endFormed, takes, targets, inr]
  by_cases h : a = 0 ∧ l = 0 <;> by_cases h2 : 0 ≤ t ∧ t < nb <;> simp [h, h2]
theorem endF_k2 {a t l v nb : Int} : endF ⟨2, a, t, l⟩ v nb = if 0 ≤ a ∧ a < v then (if 0 ≤ t ∧ t < nb ∧ 0 ≤ l ∧ l < nb then 0 else 22) else 21 := by
  simp only [endF, endFormed, takes, targets, inr]
  by_cases h : 0 ≤ a ∧ a < v <;> by_cases h1 : 0 ≤ t <;> by_cases h2 : t < nb <;> by_cases h3 : 0 ≤ l <;> by_cases h4 : l < nb <;> simp [h, h1, h2, h3, h4] <;> omega
theorem endF_k3 {a t l v nb : Int} : endF ⟨3, a, t, l⟩ v nb = if t = 0 ∧ l = 0 then (if 0 ≤ a ∧ a < v then 0 else 21) else 20 := by
  simp only [endF, endFormed, takes, targets, inr]
  by_cases h : t = 0 ∧ l = 0 <;> by_cases h1 : 0 ≤ a <;> by_cases h2 : a < v <;> simp [h, h1, h2]
theorem endF_kx {k a t l v nb : Int} (h1 : k ≠ 1) (h2 : k ≠ 2) (h3 : k ≠ 3) : endF ⟨k, a, t, l⟩ v nb = 20 := by
  simp [endF, endFormed, h1, h2, h3]
set_option maxHeartbeats 1000000 in
set_option maxRecDepth 100000 in
theorem refEnd_k1a (a t l v nb : Int) (w : World) (h : a ≠ 0) : Calls Try.prog 62 #[endV ⟨1, a, t, l⟩, .int .i64 v, .int .i64 nb, .int .i64 21] w fun r w' => r = .returned (.int .i64 (endF ⟨1, a, t, l⟩ v nb)) ∧ Below w.heap.size w w' := by
  have he : Hid (endF ⟨1, a, t, l⟩ v nb = 20) := by
    show _ = _
    simp [endF_k1, h]
  have hB0 := bel1 w (.cells #[.int .u8 1, .int .i64 a, .int .i64 t, .int .i64 l] 79)
  unfold endV
  have b : (a == 0) = false := by simpa using h
  have b2 : (a != 0) = true := by simpa using h
  go_enter Try.func62, Try.ntmps62
  go_wp2_with fail
  go_ret
  exact ⟨by rw [he.out]; rfl, hB0⟩
set_option maxHeartbeats 1000000 in
set_option maxRecDepth 100000 in
theorem refEnd_k1b (t l v nb : Int) (w : World) (h : l ≠ 0) : Calls Try.prog 62 #[endV ⟨1, 0, t, l⟩, .int .i64 v, .int .i64 nb, .int .i64 21] w fun r w' => r = .returned (.int .i64 (endF ⟨1, 0, t, l⟩ v nb)) ∧ Below w.heap.size w w' := by
  have he : Hid (endF ⟨1, 0, t, l⟩ v nb = 20) := by
    show _ = _
    simp [endF_k1, h]
  have hB0 := bel1 w (.cells #[.int .u8 1, .int .i64 0, .int .i64 t, .int .i64 l] 79)
  unfold endV
  have b : (l == 0) = false := by simpa using h
  have b2 : (l != 0) = true := by simpa using h
  go_enter Try.func62, Try.ntmps62
  go_wp2_with fail
  go_ret
  exact ⟨by rw [he.out]; rfl, hB0⟩
set_option maxHeartbeats 1000000 in
set_option maxRecDepth 100000 in
theorem refEnd_k1c (t v nb : Int) (w : World) (h : t < 0) : Calls Try.prog 62 #[endV ⟨1, 0, t, 0⟩, .int .i64 v, .int .i64 nb, .int .i64 21] w fun r w' => r = .returned (.int .i64 (endF ⟨1, 0, t, 0⟩ v nb)) ∧ Below w.heap.size w w' := by
  have he : Hid (endF ⟨1, 0, t, 0⟩ v nb = 22) := by
    show _ = _
    rw [endF_k1, if_pos ⟨rfl, rfl⟩, if_neg (by omega)]
  have hB0 := bel1 w (.cells #[.int .u8 1, .int .i64 0, .int .i64 t, .int .i64 0] 79)
  have hT := hide (takes_any ⟨1, 0, t, 0⟩ (w.alloc (.cells #[.int .u8 1, .int .i64 0, .int .i64 t, .int .i64 0] 79)))
  have htk : takes 1 = false := rfl
  simp only [htk] at hT
  clear htk
  unfold endV at hT ⊢
  go_enter Try.func62, Try.ntmps62
  go_wp2_with fail
  refine hT.out.mono ?_
  rintro r w1 ⟨rfl, hB1⟩
  have c0 := box_cell hB1 0 rfl
  have c1 := box_cell hB1 1 rfl
  have c2 := box_cell hB1 2 rfl
  have c3 := box_cell hB1 3 rfl
  have hBw := bel_of hB0 hB1
  clear hT hB0 hB1
  go_wp2_with fail
  go_ret
  exact ⟨by rw [he.out]; rfl, hBw⟩
set_option maxHeartbeats 1000000 in
set_option maxRecDepth 100000 in
theorem refEnd_k1d (t v nb : Int) (w : World) (h1 : 0 ≤ t) (h : nb ≤ t) : Calls Try.prog 62 #[endV ⟨1, 0, t, 0⟩, .int .i64 v, .int .i64 nb, .int .i64 21] w fun r w' => r = .returned (.int .i64 (endF ⟨1, 0, t, 0⟩ v nb)) ∧ Below w.heap.size w w' := by
  have he : Hid (endF ⟨1, 0, t, 0⟩ v nb = 22) := by
    show _ = _
    rw [endF_k1, if_pos ⟨rfl, rfl⟩, if_neg (by omega)]
  have hB0 := bel1 w (.cells #[.int .u8 1, .int .i64 0, .int .i64 t, .int .i64 0] 79)
  have hT := hide (takes_any ⟨1, 0, t, 0⟩ (w.alloc (.cells #[.int .u8 1, .int .i64 0, .int .i64 t, .int .i64 0] 79)))
  have htk : takes 1 = false := rfl
  simp only [htk] at hT
  clear htk
  unfold endV at hT ⊢
  go_enter Try.func62, Try.ntmps62
  go_wp2_with fail
  refine hT.out.mono ?_
  rintro r w1 ⟨rfl, hB1⟩
  have c0 := box_cell hB1 0 rfl
  have c1 := box_cell hB1 1 rfl
  have c2 := box_cell hB1 2 rfl
  have c3 := box_cell hB1 3 rfl
  have hBw := bel_of hB0 hB1
  clear hT hB0 hB1
  go_wp2_with fail
  go_ret
  exact ⟨by rw [he.out]; rfl, hBw⟩
set_option maxHeartbeats 1000000 in
set_option maxRecDepth 100000 in
theorem refEnd_k1e (t v nb : Int) (w : World) (h1 : 0 ≤ t) (h : t < nb) : Calls Try.prog 62 #[endV ⟨1, 0, t, 0⟩, .int .i64 v, .int .i64 nb, .int .i64 21] w fun r w' => r = .returned (.int .i64 (endF ⟨1, 0, t, 0⟩ v nb)) ∧ Below w.heap.size w w' := by
  have he : Hid (endF ⟨1, 0, t, 0⟩ v nb = 0) := by
    show _ = _
    rw [endF_k1, if_pos ⟨rfl, rfl⟩, if_pos (by omega)]
  have hB0 := bel1 w (.cells #[.int .u8 1, .int .i64 0, .int .i64 t, .int .i64 0] 79)
  have hT := hide (takes_any ⟨1, 0, t, 0⟩ (w.alloc (.cells #[.int .u8 1, .int .i64 0, .int .i64 t, .int .i64 0] 79)))
  have htk : takes 1 = false := rfl
  simp only [htk] at hT
  clear htk
  unfold endV at hT ⊢
  go_enter Try.func62, Try.ntmps62
  go_wp2_with fail
  refine hT.out.mono ?_
  rintro r w1 ⟨rfl, hB1⟩
  have c0 := box_cell hB1 0 rfl
  have c1 := box_cell hB1 1 rfl
  have c2 := box_cell hB1 2 rfl
  have c3 := box_cell hB1 3 rfl
  have hBw := bel_of hB0 hB1
  clear hT hB0 hB1
  go_wp2_with fail
  go_ret
  exact ⟨by rw [he.out]; rfl, hBw⟩
set_option maxHeartbeats 1000000 in
set_option maxRecDepth 100000 in
theorem refEnd_k2a (a t l v nb : Int) (w : World) (h : a < 0) : Calls Try.prog 62 #[endV ⟨2, a, t, l⟩, .int .i64 v, .int .i64 nb, .int .i64 21] w fun r w' => r = .returned (.int .i64 (endF ⟨2, a, t, l⟩ v nb)) ∧ Below w.heap.size w w' := by
  have he : Hid (endF ⟨2, a, t, l⟩ v nb = 21) := by
    show _ = _
    rw [endF_k2, if_neg (by omega)]
  have hB0 := bel1 w (.cells #[.int .u8 2, .int .i64 a, .int .i64 t, .int .i64 l] 79)
  have hT := hide (takes_any ⟨2, a, t, l⟩ (w.alloc (.cells #[.int .u8 2, .int .i64 a, .int .i64 t, .int .i64 l] 79)))
  have htk : takes 2 = true := rfl
  simp only [htk] at hT
  clear htk
  unfold endV at hT ⊢
  go_enter Try.func62, Try.ntmps62
  go_wp2_with fail
  refine hT.out.mono ?_
  rintro r w1 ⟨rfl, hB1⟩
  have c0 := box_cell hB1 0 rfl
  have c1 := box_cell hB1 1 rfl
  have c2 := box_cell hB1 2 rfl
  have c3 := box_cell hB1 3 rfl
  have hBw := bel_of hB0 hB1
  clear hT hB0 hB1
  go_wp2_with fail
  go_ret
  exact ⟨by rw [he.out]; rfl, hBw⟩
set_option maxHeartbeats 1000000 in
set_option maxRecDepth 100000 in
theorem refEnd_k2b (a t l v nb : Int) (w : World) (h1 : 0 ≤ a) (h : v ≤ a) : Calls Try.prog 62 #[endV ⟨2, a, t, l⟩, .int .i64 v, .int .i64 nb, .int .i64 21] w fun r w' => r = .returned (.int .i64 (endF ⟨2, a, t, l⟩ v nb)) ∧ Below w.heap.size w w' := by
  have he : Hid (endF ⟨2, a, t, l⟩ v nb = 21) := by
    show _ = _
    rw [endF_k2, if_neg (by omega)]
  have hB0 := bel1 w (.cells #[.int .u8 2, .int .i64 a, .int .i64 t, .int .i64 l] 79)
  have hT := hide (takes_any ⟨2, a, t, l⟩ (w.alloc (.cells #[.int .u8 2, .int .i64 a, .int .i64 t, .int .i64 l] 79)))
  have htk : takes 2 = true := rfl
  simp only [htk] at hT
  clear htk
  unfold endV at hT ⊢
  go_enter Try.func62, Try.ntmps62
  go_wp2_with fail
  refine hT.out.mono ?_
  rintro r w1 ⟨rfl, hB1⟩
  have c0 := box_cell hB1 0 rfl
  have c1 := box_cell hB1 1 rfl
  have c2 := box_cell hB1 2 rfl
  have c3 := box_cell hB1 3 rfl
  have hBw := bel_of hB0 hB1
  clear hT hB0 hB1
  go_wp2_with fail
  go_ret
  exact ⟨by rw [he.out]; rfl, hBw⟩
set_option maxHeartbeats 1000000 in
set_option maxRecDepth 100000 in
theorem refEnd_k2c (a t l v nb : Int) (w : World) (a1 : 0 ≤ a) (a2 : a < v) (h : t < 0) : Calls Try.prog 62 #[endV ⟨2, a, t, l⟩, .int .i64 v, .int .i64 nb, .int .i64 21] w fun r w' => r = .returned (.int .i64 (endF ⟨2, a, t, l⟩ v nb)) ∧ Below w.heap.size w w' := by
  have he : Hid (endF ⟨2, a, t, l⟩ v nb = 22) := by
    show _ = _
    rw [endF_k2, if_pos (by omega), if_neg (by omega)]
  have hB0 := bel1 w (.cells #[.int .u8 2, .int .i64 a, .int .i64 t, .int .i64 l] 79)
  have hT := hide (takes_any ⟨2, a, t, l⟩ (w.alloc (.cells #[.int .u8 2, .int .i64 a, .int .i64 t, .int .i64 l] 79)))
  have htk : takes 2 = true := rfl
  simp only [htk] at hT
  clear htk
  unfold endV at hT ⊢
  go_enter Try.func62, Try.ntmps62
  go_wp2_with fail
  refine hT.out.mono ?_
  rintro r w1 ⟨rfl, hB1⟩
  have c0 := box_cell hB1 0 rfl
  have c1 := box_cell hB1 1 rfl
  have c2 := box_cell hB1 2 rfl
  have c3 := box_cell hB1 3 rfl
  have hBw := bel_of hB0 hB1
  clear hT hB0 hB1
  go_wp2_with fail
  go_ret
  exact ⟨by rw [he.out]; rfl, hBw⟩
set_option maxHeartbeats 1000000 in
set_option maxRecDepth 100000 in
theorem refEnd_k2d (a t l v nb : Int) (w : World) (a1 : 0 ≤ a) (a2 : a < v) (t1 : 0 ≤ t) (h : nb ≤ t) : Calls Try.prog 62 #[endV ⟨2, a, t, l⟩, .int .i64 v, .int .i64 nb, .int .i64 21] w fun r w' => r = .returned (.int .i64 (endF ⟨2, a, t, l⟩ v nb)) ∧ Below w.heap.size w w' := by
  have he : Hid (endF ⟨2, a, t, l⟩ v nb = 22) := by
    show _ = _
    rw [endF_k2, if_pos (by omega), if_neg (by omega)]
  have hB0 := bel1 w (.cells #[.int .u8 2, .int .i64 a, .int .i64 t, .int .i64 l] 79)
  have hT := hide (takes_any ⟨2, a, t, l⟩ (w.alloc (.cells #[.int .u8 2, .int .i64 a, .int .i64 t, .int .i64 l] 79)))
  have htk : takes 2 = true := rfl
  simp only [htk] at hT
  clear htk
  unfold endV at hT ⊢
  go_enter Try.func62, Try.ntmps62
  go_wp2_with fail
  refine hT.out.mono ?_
  rintro r w1 ⟨rfl, hB1⟩
  have c0 := box_cell hB1 0 rfl
  have c1 := box_cell hB1 1 rfl
  have c2 := box_cell hB1 2 rfl
  have c3 := box_cell hB1 3 rfl
  have hBw := bel_of hB0 hB1
  clear hT hB0 hB1
  go_wp2_with fail
  go_ret
  exact ⟨by rw [he.out]; rfl, hBw⟩
set_option maxHeartbeats 1000000 in
set_option maxRecDepth 100000 in
theorem refEnd_k2e (a t l v nb : Int) (w : World) (a1 : 0 ≤ a) (a2 : a < v) (t1 : 0 ≤ t) (t2 : t < nb) (h : l < 0) : Calls Try.prog 62 #[endV ⟨2, a, t, l⟩, .int .i64 v, .int .i64 nb, .int .i64 21] w fun r w' => r = .returned (.int .i64 (endF ⟨2, a, t, l⟩ v nb)) ∧ Below w.heap.size w w' := by
  have he : Hid (endF ⟨2, a, t, l⟩ v nb = 22) := by
    show _ = _
    rw [endF_k2, if_pos (by omega), if_neg (by omega)]
  have hB0 := bel1 w (.cells #[.int .u8 2, .int .i64 a, .int .i64 t, .int .i64 l] 79)
  have hT := hide (takes_any ⟨2, a, t, l⟩ (w.alloc (.cells #[.int .u8 2, .int .i64 a, .int .i64 t, .int .i64 l] 79)))
  have htk : takes 2 = true := rfl
  simp only [htk] at hT
  clear htk
  unfold endV at hT ⊢
  go_enter Try.func62, Try.ntmps62
  go_wp2_with fail
  refine hT.out.mono ?_
  rintro r w1 ⟨rfl, hB1⟩
  have c0 := box_cell hB1 0 rfl
  have c1 := box_cell hB1 1 rfl
  have c2 := box_cell hB1 2 rfl
  have c3 := box_cell hB1 3 rfl
  have hBw := bel_of hB0 hB1
  clear hT hB0 hB1
  go_wp2_with fail
  go_ret
  exact ⟨by rw [he.out]; rfl, hBw⟩
set_option maxHeartbeats 1000000 in
set_option maxRecDepth 100000 in
theorem refEnd_k2f (a t l v nb : Int) (w : World) (a1 : 0 ≤ a) (a2 : a < v) (t1 : 0 ≤ t) (t2 : t < nb) (l1 : 0 ≤ l) (h : nb ≤ l) : Calls Try.prog 62 #[endV ⟨2, a, t, l⟩, .int .i64 v, .int .i64 nb, .int .i64 21] w fun r w' => r = .returned (.int .i64 (endF ⟨2, a, t, l⟩ v nb)) ∧ Below w.heap.size w w' := by
  have he : Hid (endF ⟨2, a, t, l⟩ v nb = 22) := by
    show _ = _
    rw [endF_k2, if_pos (by omega), if_neg (by omega)]
  have hB0 := bel1 w (.cells #[.int .u8 2, .int .i64 a, .int .i64 t, .int .i64 l] 79)
  have hT := hide (takes_any ⟨2, a, t, l⟩ (w.alloc (.cells #[.int .u8 2, .int .i64 a, .int .i64 t, .int .i64 l] 79)))
  have htk : takes 2 = true := rfl
  simp only [htk] at hT
  clear htk
  unfold endV at hT ⊢
  go_enter Try.func62, Try.ntmps62
  go_wp2_with fail
  refine hT.out.mono ?_
  rintro r w1 ⟨rfl, hB1⟩
  have c0 := box_cell hB1 0 rfl
  have c1 := box_cell hB1 1 rfl
  have c2 := box_cell hB1 2 rfl
  have c3 := box_cell hB1 3 rfl
  have hBw := bel_of hB0 hB1
  clear hT hB0 hB1
  go_wp2_with fail
  go_ret
  exact ⟨by rw [he.out]; rfl, hBw⟩
set_option maxHeartbeats 1000000 in
set_option maxRecDepth 100000 in
theorem refEnd_k2g (a t l v nb : Int) (w : World) (a1 : 0 ≤ a) (a2 : a < v) (t1 : 0 ≤ t) (t2 : t < nb) (l1 : 0 ≤ l) (h : l < nb) : Calls Try.prog 62 #[endV ⟨2, a, t, l⟩, .int .i64 v, .int .i64 nb, .int .i64 21] w fun r w' => r = .returned (.int .i64 (endF ⟨2, a, t, l⟩ v nb)) ∧ Below w.heap.size w w' := by
  have he : Hid (endF ⟨2, a, t, l⟩ v nb = 0) := by
    show _ = _
    rw [endF_k2, if_pos (by omega), if_pos (by omega)]
  have hB0 := bel1 w (.cells #[.int .u8 2, .int .i64 a, .int .i64 t, .int .i64 l] 79)
  have hT := hide (takes_any ⟨2, a, t, l⟩ (w.alloc (.cells #[.int .u8 2, .int .i64 a, .int .i64 t, .int .i64 l] 79)))
  have htk : takes 2 = true := rfl
  simp only [htk] at hT
  clear htk
  unfold endV at hT ⊢
  go_enter Try.func62, Try.ntmps62
  go_wp2_with fail
  refine hT.out.mono ?_
  rintro r w1 ⟨rfl, hB1⟩
  have c0 := box_cell hB1 0 rfl
  have c1 := box_cell hB1 1 rfl
  have c2 := box_cell hB1 2 rfl
  have c3 := box_cell hB1 3 rfl
  have hBw := bel_of hB0 hB1
  clear hT hB0 hB1
  go_wp2_with fail
  go_ret
  exact ⟨by rw [he.out]; rfl, hBw⟩
set_option maxHeartbeats 1000000 in
set_option maxRecDepth 100000 in
theorem refEnd_k3a (a t l v nb : Int) (w : World) (h : t ≠ 0) : Calls Try.prog 62 #[endV ⟨3, a, t, l⟩, .int .i64 v, .int .i64 nb, .int .i64 21] w fun r w' => r = .returned (.int .i64 (endF ⟨3, a, t, l⟩ v nb)) ∧ Below w.heap.size w w' := by
  have he : Hid (endF ⟨3, a, t, l⟩ v nb = 20) := by
    show _ = _
    simp [endF_k3, h]
  have hB0 := bel1 w (.cells #[.int .u8 3, .int .i64 a, .int .i64 t, .int .i64 l] 79)
  unfold endV
  have b : (t == 0) = false := by simpa using h
  have b2 : (t != 0) = true := by simpa using h
  go_enter Try.func62, Try.ntmps62
  go_wp2_with fail
  go_ret
  exact ⟨by rw [he.out]; rfl, hB0⟩
set_option maxHeartbeats 1000000 in
set_option maxRecDepth 100000 in
theorem refEnd_k3b (a l v nb : Int) (w : World) (h : l ≠ 0) : Calls Try.prog 62 #[endV ⟨3, a, 0, l⟩, .int .i64 v, .int .i64 nb, .int .i64 21] w fun r w' => r = .returned (.int .i64 (endF ⟨3, a, 0, l⟩ v nb)) ∧ Below w.heap.size w w' := by
  have he : Hid (endF ⟨3, a, 0, l⟩ v nb = 20) := by
    show _ = _
    simp [endF_k3, h]
  have hB0 := bel1 w (.cells #[.int .u8 3, .int .i64 a, .int .i64 0, .int .i64 l] 79)
  unfold endV
  have b : (l == 0) = false := by simpa using h
  have b2 : (l != 0) = true := by simpa using h
  go_enter Try.func62, Try.ntmps62
  go_wp2_with fail
  go_ret
  exact ⟨by rw [he.out]; rfl, hB0⟩
set_option maxHeartbeats 1000000 in
set_option maxRecDepth 100000 in
theorem refEnd_k3c (a v nb : Int) (w : World) (h : a < 0) : Calls Try.prog 62 #[endV ⟨3, a, 0, 0⟩, .int .i64 v, .int .i64 nb, .int .i64 21] w fun r w' => r = .returned (.int .i64 (endF ⟨3, a, 0, 0⟩ v nb)) ∧ Below w.heap.size w w' := by
  have he : Hid (endF ⟨3, a, 0, 0⟩ v nb = 21) := by
    show _ = _
    rw [endF_k3, if_pos ⟨rfl, rfl⟩, if_neg (by omega)]
  have hB0 := bel1 w (.cells #[.int .u8 3, .int .i64 a, .int .i64 0, .int .i64 0] 79)
  have hT := hide (takes_any ⟨3, a, 0, 0⟩ (w.alloc (.cells #[.int .u8 3, .int .i64 a, .int .i64 0, .int .i64 0] 79)))
  have htk : takes 3 = true := rfl
  simp only [htk] at hT
  clear htk
  unfold endV at hT ⊢
  go_enter Try.func62, Try.ntmps62
  go_wp2_with fail
  refine hT.out.mono ?_
  rintro r w1 ⟨rfl, hB1⟩
  have c0 := box_cell hB1 0 rfl
  have c1 := box_cell hB1 1 rfl
  have c2 := box_cell hB1 2 rfl
  have c3 := box_cell hB1 3 rfl
  have hBw := bel_of hB0 hB1
  clear hT hB0 hB1
  go_wp2_with fail
  go_ret
  exact ⟨by rw [he.out]; rfl, hBw⟩
set_option maxHeartbeats 1000000 in
set_option maxRecDepth 100000 in
theorem refEnd_k3d (a v nb : Int) (w : World) (h1 : 0 ≤ a) (h : v ≤ a) : Calls Try.prog 62 #[endV ⟨3, a, 0, 0⟩, .int .i64 v, .int .i64 nb, .int .i64 21] w fun r w' => r = .returned (.int .i64 (endF ⟨3, a, 0, 0⟩ v nb)) ∧ Below w.heap.size w w' := by
  have he : Hid (endF ⟨3, a, 0, 0⟩ v nb = 21) := by
    show _ = _
    rw [endF_k3, if_pos ⟨rfl, rfl⟩, if_neg (by omega)]
  have hB0 := bel1 w (.cells #[.int .u8 3, .int .i64 a, .int .i64 0, .int .i64 0] 79)
  have hT := hide (takes_any ⟨3, a, 0, 0⟩ (w.alloc (.cells #[.int .u8 3, .int .i64 a, .int .i64 0, .int .i64 0] 79)))
  have htk : takes 3 = true := rfl
  simp only [htk] at hT
  clear htk
  unfold endV at hT ⊢
  go_enter Try.func62, Try.ntmps62
  go_wp2_with fail
  refine hT.out.mono ?_
  rintro r w1 ⟨rfl, hB1⟩
  have c0 := box_cell hB1 0 rfl
  have c1 := box_cell hB1 1 rfl
  have c2 := box_cell hB1 2 rfl
  have c3 := box_cell hB1 3 rfl
  have hBw := bel_of hB0 hB1
  clear hT hB0 hB1
  go_wp2_with fail
  go_ret
  exact ⟨by rw [he.out]; rfl, hBw⟩
set_option maxHeartbeats 1000000 in
set_option maxRecDepth 100000 in
theorem refEnd_k3e (a v nb : Int) (w : World) (h1 : 0 ≤ a) (h : a < v) : Calls Try.prog 62 #[endV ⟨3, a, 0, 0⟩, .int .i64 v, .int .i64 nb, .int .i64 21] w fun r w' => r = .returned (.int .i64 (endF ⟨3, a, 0, 0⟩ v nb)) ∧ Below w.heap.size w w' := by
  have he : Hid (endF ⟨3, a, 0, 0⟩ v nb = 0) := by
    show _ = _
    rw [endF_k3, if_pos ⟨rfl, rfl⟩, if_pos (by omega)]
  have hB0 := bel1 w (.cells #[.int .u8 3, .int .i64 a, .int .i64 0, .int .i64 0] 79)
  have hT := hide (takes_any ⟨3, a, 0, 0⟩ (w.alloc (.cells #[.int .u8 3, .int .i64 a, .int .i64 0, .int .i64 0] 79)))
  have htk : takes 3 = true := rfl
  simp only [htk] at hT
  clear htk
  unfold endV at hT ⊢
  go_enter Try.func62, Try.ntmps62
  go_wp2_with fail
  refine hT.out.mono ?_
  rintro r w1 ⟨rfl, hB1⟩
  have c0 := box_cell hB1 0 rfl
  have c1 := box_cell hB1 1 rfl
  have c2 := box_cell hB1 2 rfl
  have c3 := box_cell hB1 3 rfl
  have hBw := bel_of hB0 hB1
  clear hT hB0 hB1
  go_wp2_with fail
  go_ret
  exact ⟨by rw [he.out]; rfl, hBw⟩
set_option maxHeartbeats 1000000 in
set_option maxRecDepth 100000 in
theorem refEnd_kxa (k a t l v nb : Int) (w : World) (h : k < 1) : Calls Try.prog 62 #[endV ⟨k, a, t, l⟩, .int .i64 v, .int .i64 nb, .int .i64 21] w fun r w' => r = .returned (.int .i64 (endF ⟨k, a, t, l⟩ v nb)) ∧ Below w.heap.size w w' := by
  have he : Hid (endF ⟨k, a, t, l⟩ v nb = 20) := by
    show _ = _
    exact endF_kx (by omega) (by omega) (by omega)
  have hB0 := bel1 w (.cells #[.int .u8 k, .int .i64 a, .int .i64 t, .int .i64 l] 79)
  unfold endV
  go_enter Try.func62, Try.ntmps62
  go_wp2_with fail
  go_ret
  exact ⟨by rw [he.out]; rfl, hB0⟩
set_option maxHeartbeats 1000000 in
set_option maxRecDepth 100000 in
theorem refEnd_kxb (k a t l v nb : Int) (w : World) (h1 : 1 ≤ k) (h : 3 < k) : Calls Try.prog 62 #[endV ⟨k, a, t, l⟩, .int .i64 v, .int .i64 nb, .int .i64 21] w fun r w' => r = .returned (.int .i64 (endF ⟨k, a, t, l⟩ v nb)) ∧ Below w.heap.size w w' := by
  have he : Hid (endF ⟨k, a, t, l⟩ v nb = 20) := by
    show _ = _
    exact endF_kx (by omega) (by omega) (by omega)
  have hB0 := bel1 w (.cells #[.int .u8 k, .int .i64 a, .int .i64 t, .int .i64 l] 79)
  unfold endV
  go_enter Try.func62, Try.ntmps62
  go_wp2_with fail
  go_ret
  exact ⟨by rw [he.out]; rfl, hB0⟩
theorem refEnd_any (e : En) (v nb : Int) (w : World) : Calls Try.prog 62 #[endV e, .int .i64 v, .int .i64 nb, .int .i64 21] w fun r w' => r = .returned (.int .i64 (endF e v nb)) ∧ Below w.heap.size w w' := by
  obtain ⟨k, a, t, l⟩ := e
  by_cases k1 : k = 1
  · subst k1
    by_cases ha : a = 0
    · subst ha
      by_cases hl : l = 0
      · subst hl
        by_cases h1 : 0 ≤ t
        · by_cases h2 : t < nb
          · exact refEnd_k1e t v nb w h1 h2
          · exact refEnd_k1d t v nb w h1 (by omega)
        · exact refEnd_k1c t v nb w (by omega)
      · exact refEnd_k1b t l v nb w hl
    · exact refEnd_k1a a t l v nb w ha
  by_cases k2 : k = 2
  · subst k2
    by_cases a1 : 0 ≤ a
    · by_cases a2 : a < v
      · by_cases t1 : 0 ≤ t
        · by_cases t2 : t < nb
          · by_cases l1 : 0 ≤ l
            · by_cases l2 : l < nb
              · exact refEnd_k2g a t l v nb w a1 a2 t1 t2 l1 l2
              · exact refEnd_k2f a t l v nb w a1 a2 t1 t2 l1 (by omega)
            · exact refEnd_k2e a t l v nb w a1 a2 t1 t2 (by omega)
          · exact refEnd_k2d a t l v nb w a1 a2 t1 (by omega)
        · exact refEnd_k2c a t l v nb w a1 a2 (by omega)
      · exact refEnd_k2b a t l v nb w a1 (by omega)
    · exact refEnd_k2a a t l v nb w (by omega)
  by_cases k3 : k = 3
  · subst k3
    by_cases ht : t = 0
    · subst ht
      by_cases hl : l = 0
      · subst hl
        by_cases h1 : 0 ≤ a
        · by_cases h2 : a < v
          · exact refEnd_k3e a v nb w h1 h2
          · exact refEnd_k3d a v nb w h1 (by omega)
        · exact refEnd_k3c a v nb w (by omega)
      · exact refEnd_k3b a l v nb w hl
    · exact refEnd_k3a a t l v nb w ht
  by_cases h : k < 1
  · exact refEnd_kxa k a t l v nb w h
  · exact refEnd_kxb k a t l v nb w (by omega) (by omega)
end Go.Proofs.Ytbjnhicikkjadaa
