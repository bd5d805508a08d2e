/- The document's In and Ahead. -/
import Derived.Test.YtblcbccchlljhaaGn
import Derived.WalkSpells
namespace Go.Proofs.Ytblcbccchlljhaa
open Go.RowKit Ir Wy

set_option maxHeartbeats 1000000 in
set_option maxRecDepth 100000 in
theorem in_any (u : Value) (xs : List Int) (x : Int) (w : World) (h : IntsV w u xs) (hl : xs.length ≤ 1000000000) :
    Calls Try.prog 18 #[u, .int .i64 x] w fun e w' => e = .returned (.bool (decide (x ∈ xs))) ∧ w' = w := by
  obtain ⟨ao, cap, rfl⟩ := h.slice
  have HU := hide h
  clear h
  go_enter Try.func18, Try.ntmps18
  go_wp2_with fail
  go_loop [5] (fun iv => ∃ i : Nat, i ≤ xs.length ∧ iv = .int .i64 i ∧ Hid (¬ x ∈ xs.take i)) (fun iv => xs.length - (intOf iv).toNat)
  case atStart => exact ⟨0, by omega, rfl, hide (by simp)⟩
  case round =>
    obtain ⟨i, hi, rfl, hx⟩ := hrel
    by_cases hlt : i < xs.length
    · obtain ⟨b, off, rfl, hc⟩ := HU.out.at i hlt
      have hlt' : (i : Int) < (xs.length : Int) := by omega
      have hne : Hid (xs.getD i 0 ≠ x → ¬ x ∈ xs.take (i + 1)) := by
        intro h1 h2
        rw [List.take_succ_eq_append_getElem hlt] at h2
        rcases List.mem_append.1 h2 with q | q
        · exact hx.out q
        · simp only [List.mem_singleton] at q
          rw [getD_get _ _ _ hlt] at h1
          exact h1 q.symm
      have hm : Hid (xs.getD i 0 = x → x ∈ xs) := by
        intro h1
        rw [getD_get _ _ _ hlt] at h1
        rw [← h1]
        exact List.getElem_mem hlt
      generalize xs.getD i 0 = y at *
      by_cases hy : y = x
      · have hb : (y == x) = true := by simpa using hy
        have hin := hm.out hy
        have HI := hide hin
        clear hin hm hne hy
        go_wp2_with fail
        go_ret
        exact ⟨by rw [decide_eq_true HI.out]; rfl, rfl⟩
      · have hb : (y == x) = false := by simpa using hy
        have hx2 := hide (hne.out hy)
        clear hm hne hy
        go_wp2_with fail
        go_round
        case rel => exact ⟨i + 1, by omega, by go_num, hx2⟩
        case measure => simp [intOf]; omega
    · obtain rfl : i = xs.length := by omega
      rw [List.take_length] at hx
      go_wp2_with fail
      go_ret
      exact ⟨by rw [decide_eq_false hx.out]; rfl, rfl⟩
set_option maxHeartbeats 2000000 in
set_option maxRecDepth 100000 in
theorem refAhead_any (u : Value) (es : List En) (b : Nat) (w : World) (h : EndsV w u es) (hin : EndsIn es) (hl : es.length ≤ 100000) :
    Calls Try.prog 39 #[u, .int .i64 b] w fun e w' => ∃ v, e = .returned v ∧ ArgsO w.heap.size w' v ((ahd (nxE es) es.length b).map fun a : Nat => (a : Int)) ∧ Below w.heap.size w w' := by
  obtain ⟨ao, cap, rfl⟩ := h.slice
  have HU := hide h
  have HIN := hide hin
  clear h hin
  go_enter Try.func39, Try.ntmps39
  go_wp2_with fail
  go_loopw [5, 6] (fun lv iv wr => ∃ (i : Nat) (L : List Int), i ≤ es.length ∧ iv = .int .i64 i ∧ ArgsO w.heap.size wr lv L ∧ Hid (L = (ahd (nxE es) i b).map fun a : Nat => (a : Int)) ∧ Below w.heap.size w wr) (fun _ iv _ => es.length - (intOf iv).toNat)
  case atStart => exact ⟨0, [], by omega, rfl, ArgsO.nil _ _, rfl, Below.refl _ _⟩
  case round =>
    obtain ⟨i, L, hi, rfl, hO, hL, hB⟩ := hrel
    by_cases hlt : i < es.length
    · obtain ⟨g, off, rfl, hc⟩ := (HU.out.below hB).end i hlt
      have hlt' : (i : Int) < (es.length : Int) := by omega
      have hints := HIN.out.ints i
      have hstep := hide (ahd_succ (nxE es) i b)
      have hlen : L.length ≤ i := by rw [hL.out, List.length_map]; exact ahd_len (nxE es) i b
      generalize hee : es.getD i En.zero = e at *
      obtain ⟨c1, c2, c3, c4⟩ := hc
      obtain ⟨aL, cL, rfl⟩ := hO.slice
      have HO := hide hO
      have HI := hide hints
      clear hO hints
      go_wp2_with fail
      refine (next17 e wr).mono ?_
      rintro r w2 ⟨u, rfl, hu, hB2⟩
      have HO2 := hide (HO.out.below hB2)
      have HB2 := hide (bel_of hB hB2)
      have HU2 := hide hu.v
      have hfl := fol_len e
      clear c1 c2 c3 c4 hu hB2 HO
      go_wp2_with fail
      refine (in_any u (fol e) _ w2 HU2.out (by omega)).mono ?_
      rintro r w3 ⟨rfl, rfl⟩
      have hmem : decide ((b : Int) ∈ fol e) = decide (b ∈ nxE es i) := by
        rw [← HI.out]
        by_cases h : b ∈ nxE es i
        · rw [decide_eq_true h, decide_eq_true (List.mem_map.2 ⟨b, h, rfl⟩)]
        · rw [decide_eq_false h, decide_eq_false]
          intro q
          obtain ⟨y, hy, e⟩ := List.mem_map.1 q
          exact h (by have : y = b := by omega
                      rw [← this]; exact hy)
      by_cases hb : b ∈ nxE es i
      · rw [if_pos hb] at hstep
        rw [decide_eq_true hb] at hmem
        clear hb
        have hn := heap_alloc_new w3 (.cells #[.int .i64 (i : Int)] 3)
        have hO3 := HO2.out.below (bel1' w3 (.cells #[.int .i64 (i : Int)] 3))
        go_wp2_with (at_builtin; go_must (refine snoc_int (B := w.heap.size) (.tmp 21) (.tmp 23) rfl rfl hO3 hn rfl rfl (by omega) (by have := HB2.out.size; simp; omega) ?_))
        intro v' w4 hO4 hg4 _
        have HB4 := hide (((HB2.out.trans ((bel1' w3 _).mono HB2.out.size)).grown hg4 (by have := HB2.out.size; simp; omega) (fun k e => (HO2.out.lt k e).1)))
        have HO4 := hide hO4
        clear hO4 hg4 HO2 HB2
        go_wp2_with fail
        go_roundw
        case rel => exact ⟨i + 1, L ++ [(i : Int)], by omega, by go_num, HO4.out, hide (by rw [hstep.out, List.map_append, hL.out]; rfl), HB4.out⟩
        case measure => simp [intOf]; omega
      · rw [if_neg hb, List.append_nil] at hstep
        rw [decide_eq_false hb] at hmem
        clear hb
        go_wp2_with fail
        go_roundw
        case rel => exact ⟨i + 1, L, by omega, by go_num, HO2.out, hide (by rw [hstep.out, hL.out]), HB2.out⟩
        case measure => simp [intOf]; omega
    · obtain rfl : i = es.length := by omega
      obtain ⟨aL, cL, rfl⟩ := hO.slice
      have HO := hide hO
      clear hO
      go_wp2_with fail
      go_ret
      exact ⟨_, rfl, by rw [← hL.out]; exact HO.out, hB⟩
end Go.Proofs.Ytblcbccchlljhaa
