/- The document's In and Ahead. -/
import Derived.Test.YtblcbccchlljhaaGn
import Derived.WalkSpells
import Derived.Deep.WholeRow
import Derived.OwnWalk
namespace Go.Proofs.Ytblcbccchlljhaa
open Go.RowKit Ir Wy

set_option maxHeartbeats 1000000 in
set_option maxRecDepth 100000 in
theorem in_any (u : Value) (xs : List Int) (x : Int) (w : World) (h : IntsV w u xs) (hl : xs.length ≤ 1000000000) :
    Calls Try.prog 18 #[u, .int .i64 x] w fun e w' => e = .returned (.bool (decide (x ∈ xs))) ∧ w' = w := by
  obtain ⟨ao, cap, rfl⟩ := h.slice
  have HU := hide h
  clear h
  go_enter Try.func18, Try.ntmps18
  go_wp2_with fail
  go_loop [5] (fun iv => ∃ i : Nat, i ≤ xs.length ∧ iv = .int .i64 i ∧ Hid (¬ x ∈ xs.take i)) (fun iv => xs.length - (intOf iv).toNat)
  case atStart => exact ⟨0, by omega, rfl, hide (by simp)⟩
  case round =>
    obtain ⟨i, hi, rfl, hx⟩ := hrel
    by_cases hlt : i < xs.length
    · obtain ⟨b, off, rfl, hc⟩ := HU.out.at i hlt
      have hlt' : (i : Int) < (xs.length : Int) := by omega
      have hne : Hid (xs.getD i 0 ≠ x → ¬ x ∈ xs.take (i + 1)) := by
        intro h1 h2
        rw [List.take_succ_eq_append_getElem hlt] at h2
        rcases List.mem_append.1 h2 with q | q
        · exact hx.out q
        · simp only [List.mem_singleton] at q
          rw [getD_get _ _ _ hlt] at h1
          exact h1 q.symm
      have hm : Hid (xs.getD i 0 = x → x ∈ xs) := by
        intro h1
        rw [getD_get _ _ _ hlt] at h1
        rw [← h1]
        exact List.getElem_mem hlt
      generalize xs.getD i 0 = y at *
      by_cases hy : y = x
      · have hb : (y == x) = true := by simpa using hy
        have hin := hm.out hy
        have HI := hide hin
        clear hin hm hne hy
        go_wp2_with fail
        go_ret
        exact ⟨by rw [decide_eq_true HI.out]; rfl, rfl⟩
      · have hb : (y == x) = false := by simpa using hy
        have hx2 := hide (hne.out hy)
        clear hm hne hy
        go_wp2_with fail
        go_round
        case rel => exact ⟨i + 1, by omega, by go_num, hx2⟩
        case measure => simp [intOf]; omega
    · obtain rfl : i = xs.length := by omega
      rw [List.take_length] at hx
      go_wp2_with fail
      go_ret
      exact ⟨by rw [decide_eq_false hx.out]; rfl, rfl⟩
set_option maxHeartbeats 2000000 in
set_option maxRecDepth 100000 in
theorem refAhead_any (u : Value) (es : List En) (b : Nat) (w : World) (h : EndsV w u es) (hin : EndsIn es) (hl : es.length ≤ 100000) :
    Calls Try.prog 39 #[u, .int .i64 b] w fun e w' => ∃ v, e = .returned v ∧ ArgsO w.heap.size w' v ((ahd (nxE es) es.length b).map fun a : Nat => (a : Int)) ∧ Below w.heap.size w w' := by
  obtain ⟨ao, cap, rfl⟩ := h.slice
  have HU := hide h
  have HIN := hide hin
  clear h hin
  go_enter Try.func39, Try.ntmps39
  go_wp2_with fail
  go_loopw [5, 6] (fun lv iv wr => ∃ (i : Nat) (L : List Int), i ≤ es.length ∧ iv = .int .i64 i ∧ ArgsO w.heap.size wr lv L ∧ Hid (L = (ahd (nxE es) i b).map fun a : Nat => (a : Int)) ∧ Below w.heap.size w wr) (fun _ iv _ => es.length - (intOf iv).toNat)
  case atStart => exact ⟨0, [], by omega, rfl, ArgsO.nil _ _, rfl, Below.refl _ _⟩
  case round =>
    obtain ⟨i, L, hi, rfl, hO, hL, hB⟩ := hrel
    by_cases hlt : i < es.length
    · obtain ⟨g, off, rfl, hc⟩ := (HU.out.below hB).end i hlt
      have hlt' : (i : Int) < (es.length : Int) := by omega
      have hints := HIN.out.ints i
      have hstep := hide (ahd_succ (nxE es) i b)
      have hlen : L.length ≤ i := by rw [hL.out, List.length_map]; exact ahd_len (nxE es) i b
      generalize hee : es.getD i En.zero = e at *
      obtain ⟨c1, c2, c3, c4⟩ := hc
      obtain ⟨aL, cL, rfl⟩ := hO.slice
      have HO := hide hO
      have HI := hide hints
      clear hO hints
      go_wp2_with fail
      refine (next17 e wr).mono ?_
      rintro r w2 ⟨u, rfl, hu, hB2⟩
      have HO2 := hide (HO.out.below hB2)
      have HB2 := hide (bel_of hB hB2)
      have HU2 := hide hu.v
      have hfl := fol_len e
      clear c1 c2 c3 c4 hu hB2 HO
      go_wp2_with fail
      refine (in_any u (fol e) _ w2 HU2.out (by omega)).mono ?_
      rintro r w3 ⟨rfl, rfl⟩
      have hmem : decide ((b : Int) ∈ fol e) = decide (b ∈ nxE es i) := by
        rw [← HI.out]
        by_cases h : b ∈ nxE es i
        · rw [decide_eq_true h, decide_eq_true (List.mem_map.2 ⟨b, h, rfl⟩)]
        · rw [decide_eq_false h, decide_eq_false]
          intro q
          obtain ⟨y, hy, e⟩ := List.mem_map.1 q
          exact h (by have : y = b := by omega
                      rw [← this]; exact hy)
      by_cases hb : b ∈ nxE es i
      · rw [if_pos hb] at hstep
        rw [decide_eq_true hb] at hmem
        clear hb
        have hn := heap_alloc_new w3 (.cells #[.int .i64 (i : Int)] 3)
        have hO3 := HO2.out.below (bel1' w3 (.cells #[.int .i64 (i : Int)] 3))
        go_wp2_with (at_builtin; go_must (refine snoc_int (B := w.heap.size) (.tmp 21) (.tmp 23) rfl rfl hO3 hn rfl rfl (by omega) (by have := HB2.out.size; simp; omega) ?_))
        intro v' w4 hO4 hg4 _
        have HB4 := hide (((HB2.out.trans ((bel1' w3 _).mono HB2.out.size)).grown hg4 (by have := HB2.out.size; simp; omega) (fun k e => (HO2.out.lt k e).1)))
        have HO4 := hide hO4
        clear hO4 hg4 HO2 HB2
        go_wp2_with fail
        go_roundw
        case rel => exact ⟨i + 1, L ++ [(i : Int)], by omega, by go_num, HO4.out, hide (by rw [hstep.out, List.map_append, hL.out]; rfl), HB4.out⟩
        case measure => simp [intOf]; omega
      · rw [if_neg hb, List.append_nil] at hstep
        rw [decide_eq_false hb] at hmem
        clear hb
        go_wp2_with fail
        go_roundw
        case rel => exact ⟨i + 1, L, by omega, by go_num, HO2.out, hide (by rw [hstep.out, hL.out]), HB2.out⟩
        case measure => simp [intOf]; omega
    · obtain rfl : i = es.length := by omega
      obtain ⟨aL, cL, rfl⟩ := hO.slice
      have HO := hide hO
      clear hO
      go_wp2_with fail
      go_ret
      exact ⟨_, rfl, by rw [← hL.out]; exact HO.out, hB⟩
end Go.Proofs.Ytblcbccchlljhaa
namespace Go.Proofs.Ytblcbccchlljhaa
open Go.RowKit Ir Wy

theorem wpStop {p : Prop} (h : Hid p) : p := h.out
/-- n marks at block b. -/
def BoolsAt (w : World) (b n : Nat) (f : Nat → Bool) : Prop := ∃ cs, w.heap[b]? = some (.cells cs 4 (0, 0)) ∧ cs.size = n ∧ ∀ i, i < n → cs[i]? = some (.bool (f i))
theorem BoolsAt.lt {w : World} {b n : Nat} {f : Nat → Bool} (h : BoolsAt w b n f) : b < w.heap.size := by
  obtain ⟨cs, h1, _⟩ := h
  exact (Array.getElem?_eq_some_iff.1 h1).1
theorem BoolsAt.stays {w w' : World} {b n : Nat} {f : Nat → Bool} (h : BoolsAt w b n f) (e : w'.heap[b]? = w.heap[b]?) : BoolsAt w' b n f := by
  obtain ⟨cs, h1, h2⟩ := h
  exact ⟨cs, e.trans h1, h2⟩
theorem BoolsAt.below {w w' : World} {b n : Nat} {f : Nat → Bool} (h : BoolsAt w b n f) (hB : Below w.heap.size w w') : BoolsAt w' b n f := h.stays (hB.block b h.lt)
theorem BoolsAt.cell {w : World} {b n : Nat} {f : Nat → Bool} (h : BoolsAt w b n f) (i : Nat) (hi : i < n) : w.cell? ⟨b, i, none⟩ = some (.bool (f i)) ∧ w.frozen? ⟨b, i, none⟩ = false := by
  obtain ⟨cs, h1, _, h2⟩ := h
  exact ⟨by rw [cell_of_row w b i cs 4 _ h1, h2 i hi], by simp [World.frozen?, h1]⟩
theorem BoolsAt.congr {w : World} {b n : Nat} {f g : Nat → Bool} (h : BoolsAt w b n f) (e : ∀ x, x < n → f x = g x) : BoolsAt w b n g := by
  obtain ⟨cs, h1, h2, h3⟩ := h
  exact ⟨cs, h1, h2, fun i hi => by rw [← e i hi]; exact h3 i hi⟩
theorem BoolsAt.set {w : World} {b n : Nat} {f : Nat → Bool} (h : BoolsAt w b n f) (i : Nat) (hi : i < n) : BoolsAt (w.setCell ⟨b, i, none⟩ (.bool true)) b n (mk f i) := by
  obtain ⟨cs, h1, h2, h3⟩ := h
  refine ⟨cs.setIfInBounds i (.bool true), ?_, ?_, ?_⟩
  · simp [World.setCell, Array.getElem?_modify, h1]
  · simp [h2]
  · intro j hj
    by_cases e : i = j
    · subst e
      simp [h2, hi, mk]
    · rw [Array.getElem?_setIfInBounds_ne e, h3 j hj]
      have : (j == i) = false := by simp; omega
      simp [mk, this]
/-- The row lies beside the marks. -/
theorem row_marks {B : Nat} {w : World} {v : Value} {xs : List Int} {sb n : Nat} {f : Nat → Bool} (h : ArgsO B w v xs) (hs : BoolsAt w sb n f) : v.ownBlock ≠ some sb := by
  intro e
  obtain ⟨_, _, cur, h1⟩ := h.block sb e
  obtain ⟨cs, h2, _⟩ := hs
  rw [h1] at h2
  cases h2
theorem set_grown (w : World) (b i : Nat) (v : Value) : w.grownBy (w.setCell ⟨b, i, none⟩ v) (some b) :=
  ⟨rfl, rfl, rfl, by simp [World.setCell], fun k _ h => Below.heap_setCell _ _ _ _ (fun e => h (by rw [e]))⟩
abbrev ci (l : List Nat) : List Int := l.map fun a : Nat => (a : Int)
theorem drop_at {l : List Nat} {j : Nat} (h : j < l.length) : l.drop j = l.getD j 0 :: l.drop (j + 1) := by rw [List.drop_eq_getElem_cons h, getD_get _ _ _ h]

/-- What going down has done. -/
def DownPost (w0 : World) (n sb : Nat) (w : World) (rowv : Value) (t : List Nat × (Nat → Bool)) : Ending → World → Prop := fun e w' => ∃ v', e = .returned v' ∧ ArgsO w0.heap.size w' v' (ci t.1) ∧ BoolsAt w' sb n t.2 ∧ Dwn (fun k => k = sb) w rowv v' w'
end Go.Proofs.Ytblcbccchlljhaa
namespace Go.Proofs.Ytblcbccchlljhaa
open Go.RowKit Ir Wy

theorem info4b : (Try.prog.info? 4).map (fun i => (i.zero, i.size, i.bytes)) = some (some (.bool false), 1, 1) := by kernel_rfl
theorem bools_made {w : World} {g n : Nat} {xs : List Value} (h : w.ownsRow g 4 1 (.slice (some ⟨g, 0, none⟩) n n) n xs) (hx : ∀ i, i < n → xs[i]? = some (.bool false)) : BoolsAt w g n (fun _ => false) := by
  rcases h.2 with ⟨e, _⟩ | ⟨g', cap, cur, e, _, hg, hn, _, hs, ht⟩
  · cases e
  · simp only [Value.slice.injEq, Option.some.injEq, Addr.mk.injEq, and_true, true_and] at e
    obtain ⟨rfl, rfl⟩ := e
    refine ⟨cur, hg, by omega, fun i hi => ?_⟩
    have : (cur.toList.take (n * 1))[i]? = some (.bool false) := by rw [ht]; exact hx i hi
    rw [List.getElem?_take] at this
    rw [if_pos (by omega)] at this
    simpa using this
theorem getD_rev {l : List Int} {j : Nat} (h : j < l.length) : l.reverse.take (l.length - j) = l.reverse.take (l.length - (j + 1)) ++ [l.getD j 0] := by
  rw [show l.length - j = l.length - (j + 1) + 1 by omega, List.take_succ_eq_append_getElem (by simp; omega), List.getElem_reverse, getD_get _ _ _ h]
  congr 3
  omega
end Go.Proofs.Ytblcbccchlljhaa
namespace Go.Proofs.Ytblcbccchlljhaa
open Go.RowKit Ir Wy

def upV {α : Type} (V : Nat → α) (x : Nat) (v : α) : Nat → α := fun b => if b = x then v else V b
theorem upV_same {α : Type} (V : Nat → α) (x : Nat) (v : α) : upV V x v x = v := if_pos rfl
theorem upV_ne {α : Type} (V : Nat → α) {x b : Nat} (v : α) (h : b ≠ x) : upV V x v b = V b := if_neg h
/-- n rows of numbers, each in a block of its own. -/
structure RowsO (B g n : Nat) (w : World) (V : Nat → Value) (R : Nat → List Int) : Prop where
  cell : ∃ cs, w.heap[g]? = some (.cells cs 48 (0, 0)) ∧ cs.size = n ∧ ∀ b, b < n → cs[b]? = some (V b)
  row : ∀ b, b < n → ArgsO B w (V b) (R b)
  apart : ∀ a b, a < n → b < n → a ≠ b → ∀ k, (V a).ownBlock = some k → (V b).ownBlock ≠ some k
theorem heap_lt' {w : World} {g : Nat} {o : Obj} (h : w.heap[g]? = some o) : g < w.heap.size := (Array.getElem?_eq_some_iff.1 h).1
theorem RowsO.lt {B g n : Nat} {w : World} {V : Nat → Value} {R : Nat → List Int} (h : RowsO B g n w V R) : g < w.heap.size := by
  obtain ⟨cs, h1, _⟩ := h.cell
  exact heap_lt' h1
theorem RowsO.away {B g n : Nat} {w : World} {V : Nat → Value} {R : Nat → List Int} (h : RowsO B g n w V R) (b : Nat) (hb : b < n) : (V b).ownBlock ≠ some g := by
  intro e
  obtain ⟨_, _, cur, hc⟩ := (h.row b hb).block g e
  obtain ⟨cs, h1, _⟩ := h.cell
  rw [hc] at h1
  simp at h1
theorem RowsO.below {B g n : Nat} {w w1 : World} {V : Nat → Value} {R : Nat → List Int} (h : RowsO B g n w V R) (hB : Below w.heap.size w w1) : RowsO B g n w1 V R := by
  obtain ⟨cs, h1, h2⟩ := h.cell
  exact ⟨⟨cs, (hB.block _ (heap_lt' h1)).trans h1, h2⟩, fun b hb => (h.row b hb).below hB, h.apart⟩
theorem RowsO.at {B g n : Nat} {w : World} {V : Nat → Value} {R : Nat → List Int} (h : RowsO B g n w V R) (b : Nat) (hb : b < n) : w.cell? ⟨g, b, none⟩ = some (V b) ∧ w.frozen? ⟨g, b, none⟩ = false := by
  obtain ⟨cs, h1, _, h2⟩ := h.cell
  exact ⟨by rw [cell_of_row w g b cs 48 _ h1, h2 b hb], frozen_of_row _ _ _ _ _ h1⟩
/-- A number more in row x: appended, stored. -/
theorem RowsO.snoc {B g n : Nat} {w w1 : World} {V : Nat → Value} {R : Nat → List Int} {x : Nat} {v' : Value} {L' : List Int} (h : RowsO B g n w V R) (hx : x < n) (hg : w.grownBy w1 (V x).ownBlock) (ho : ArgsO B w1 v' L') (how : ∀ k, v'.ownBlock = some k → (V x).ownBlock = some k ∨ w.heap.size ≤ k) :
    RowsO B g n (w1.setCell ⟨g, x, none⟩ v') (upV V x v') (upV R x L') := by
  obtain ⟨cs, h1, h2, h3⟩ := h.cell
  have hg1 : w1.heap[g]? = some (.cells cs 48 (0, 0)) := (hg.block _ (heap_lt' h1) (fun e => h.away x hx e.symm)).trans h1
  have oth : ∀ k, k ≠ g → (w1.setCell ⟨g, x, none⟩ v').heap[k]? = w1.heap[k]? := fun k hk => Below.heap_setCell _ _ _ _ hk
  have hvg : v'.ownBlock ≠ some g := by
    intro e
    rcases how g e with q | q
    · exact h.away x hx q
    · have := h.lt; omega
  refine ⟨⟨cs.setIfInBounds x v', ?_, by simp [h2], fun b hb => ?_⟩, fun b hb => ?_, fun a b ha hb hab k hk => ?_⟩
  · rw [heap_setCell_same w1 g x _ _ v' hg1]
  · by_cases e : b = x
    · subst e
      rw [upV_same]
      simp [h2, hb]
    · rw [upV_ne _ _ e, Array.getElem?_setIfInBounds_ne (fun e1 => e e1.symm), h3 b hb]
  · by_cases e : b = x
    · subst e
      rw [upV_same, upV_same]
      exact ho.stays fun k hk => oth k (fun e1 => hvg (by rw [hk, e1]))
    · rw [upV_ne _ _ e, upV_ne _ _ e]
      have hb1 : ArgsO B w1 (V b) (R b) := (h.row b hb).stays fun k hk => hg.block k ((h.row b hb).lt k hk).2 (fun e1 => h.apart x b hx hb (fun q => e q.symm) k e1.symm hk)
      exact hb1.stays fun k hk => oth k (fun e1 => h.away b hb (by rw [hk, e1]))
  · by_cases ea : a = x
    · subst ea
      rw [upV_same] at hk
      rw [upV_ne _ _ (fun q => hab q.symm)]
      intro e1
      rcases how k hk with q | q
      · exact h.apart a b ha hb hab k q e1
      · have := ((h.row b hb).lt k e1).2; omega
    · rw [upV_ne _ _ ea] at hk
      by_cases eb : b = x
      · subst eb
        rw [upV_same]
        intro e1
        rcases how k e1 with q | q
        · exact h.apart a b ha hb hab k hk q
        · have := ((h.row a ha).lt k hk).2; omega
      · rw [upV_ne _ _ eb]
        exact h.apart a b ha hb hab k hk
/-- What is read of such rows. -/
def RowAt (w : World) (b off : Nat) (xs : List Int) : Prop := ∃ u, w.cell? ⟨b, off, none⟩ = some u ∧ IntsV w u xs
def RowsV (w : World) (v : Value) (rs : List (List Int)) : Prop := SlV 1 RowAt [] w v rs
theorem RowsV.below {w w' : World} {v : Value} {rs : List (List Int)} (h : RowsV w v rs) (hB : Below w.heap.size w w') : RowsV w' v rs := SlV.mono h fun _ _ _ ⟨u, h1, h2⟩ => ⟨u, cell_below hB h1, h2.below hB⟩
theorem RowsV.slice {w : World} {v : Value} {rs : List (List Int)} (h : RowsV w v rs) : ∃ ao cap, v = .slice ao rs.length cap := SlV.slice h
theorem RowsV.at {w : World} {ao : Option Addr} {n c : Nat} {rs : List (List Int)} (h : RowsV w (.slice ao n c) rs) (j : Nat) (hj : j < rs.length) : ∃ b off u, ao = some ⟨b, off, none⟩ ∧ w.cell? ⟨b, off + j, none⟩ = some u ∧ IntsV w u (rs.getD j []) := by
  obtain ⟨b, off, e, u, h1, h2⟩ := SlV.at h j hj
  rw [Nat.mul_one] at h1
  exact ⟨b, off, u, e, h1, h2⟩
theorem RowsO.v {B g n : Nat} {w : World} {V : Nat → Value} {R : Nat → List Int} (h : RowsO B g n w V R) (hn : n ≤ maxLen) : RowsV w (.slice (some ⟨g, 0, none⟩) n n) ((List.range n).map R) := by
  refine ⟨some ⟨g, 0, none⟩, n, by simp, by simp, hn, fun e => by simp at e, fun _ => ⟨g, 0, rfl, fun j hj => ?_⟩⟩
  simp only [List.length_map, List.length_range] at hj
  refine ⟨V j, ?_, ?_⟩
  · rw [Nat.zero_add, Nat.mul_one]
    exact (h.at j hj).1
  · have : ((List.range n).map R).getD j [] = R j := by simp [hj]
    rw [this]
    exact (h.row j hj).v
theorem info40 : (Try.prog.info? 48).map (fun i => (i.zero, i.size, i.bytes)) = some (some (.slice none 0 0), 1, 24) := by kernel_rfl
theorem rows_made {w : World} {B g n : Nat} {xs : List Value} (h : w.ownsRow g 48 1 (.slice (some ⟨g, 0, none⟩) n n) n xs) (hx : ∀ i, i < n → xs[i]? = some (.slice none 0 0)) : RowsO B g n w (fun _ => .slice none 0 0) (fun _ => []) := by
  rcases h.2 with ⟨e, _⟩ | ⟨g', cap, cur, e, _, hg, hn, _, hs, ht⟩
  · cases e
  · simp only [Value.slice.injEq, Option.some.injEq, Addr.mk.injEq, and_true, true_and] at e
    obtain ⟨rfl, rfl⟩ := e
    refine ⟨⟨cur, hg, by omega, fun i hi => ?_⟩, fun b _ => ArgsO.nil _ _, fun a b _ _ _ k hk => by simp [Value.ownBlock] at hk⟩
    have : (cur.toList.take (n * 1))[i]? = some (.slice none 0 0) := by rw [ht]; exact hx i hi
    rw [List.getElem?_take] at this
    rw [if_pos (by omega)] at this
    simpa using this
end Go.Proofs.Ytblcbccchlljhaa
