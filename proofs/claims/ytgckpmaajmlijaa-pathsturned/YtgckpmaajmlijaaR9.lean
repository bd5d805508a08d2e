/- The code's Ahead: rows of rows. -/
import Derived.Test.YtgckpmaajmlijaaR3
namespace Go.Proofs.Ytgckpmaajmlijaa
open Go.RowKit Ir Wy

def upV {α : Type} (V : Nat → α) (x : Nat) (v : α) : Nat → α := fun b => if b = x then v else V b
theorem upV_same {α : Type} (V : Nat → α) (x : Nat) (v : α) : upV V x v x = v := if_pos rfl
theorem upV_ne {α : Type} (V : Nat → α) {x b : Nat} (v : α) (h : b ≠ x) : upV V x v b = V b := if_neg h
/-- n rows of numbers, each in a block of its own. -/
structure RowsO (B g n : Nat) (w : World) (V : Nat → Value) (R : Nat → List Int) : Prop where
  cell : ∃ cs, w.heap[g]? = some (.cells cs 40 (0, 0)) ∧ cs.size = n ∧ ∀ b, b < n → cs[b]? = some (V b)
  row : ∀ b, b < n → ArgsO B w (V b) (R b)
  apart : ∀ a b, a < n → b < n → a ≠ b → ∀ k, (V a).ownBlock = some k → (V b).ownBlock ≠ some k
theorem heap_lt' {w : World} {g : Nat} {o : Obj} (h : w.heap[g]? = some o) : g < w.heap.size := (Array.getElem?_eq_some_iff.1 h).1
theorem RowsO.lt {B g n : Nat} {w : World} {V : Nat → Value} {R : Nat → List Int} (h : RowsO B g n w V R) : g < w.heap.size := by
  obtain ⟨cs, h1, _⟩ := h.cell
  exact heap_lt' h1
theorem RowsO.away {B g n : Nat} {w : World} {V : Nat → Value} {R : Nat → List Int} (h : RowsO B g n w V R) (b : Nat) (hb : b < n) : (V b).ownBlock ≠ some g := by
  intro e
  obtain ⟨_, _, cur, hc⟩ := (h.row b hb).block g e
  obtain ⟨cs, h1, _⟩ := h.cell
  rw [hc] at h1
  simp at h1
theorem RowsO.below {B g n : Nat} {w w1 : World} {V : Nat → Value} {R : Nat → List Int} (h : RowsO B g n w V R) (hB : Below w.heap.size w w1) : RowsO B g n w1 V R := by
  obtain ⟨cs, h1, h2⟩ := h.cell
  exact ⟨⟨cs, (hB.block _ (heap_lt' h1)).trans h1, h2⟩, fun b hb => (h.row b hb).below hB, h.apart⟩
theorem RowsO.at {B g n : Nat} {w : World} {V : Nat → Value} {R : Nat → List Int} (h : RowsO B g n w V R) (b : Nat) (hb : b < n) : w.cell? ⟨g, b, none⟩ = some (V b) ∧ w.frozen? ⟨g, b, none⟩ = false := by
  obtain ⟨cs, h1, _, h2⟩ := h.cell
  exact ⟨by rw [cell_of_row w g b cs 40 _ h1, h2 b hb], frozen_of_row _ _ _ _ _ h1⟩
/-- A number more in row x: appended, stored. -/
theorem RowsO.snoc {B g n : Nat} {w w1 : World} {V : Nat → Value} {R : Nat → List Int} {x : Nat} {v' : Value} {L' : List Int} (h : RowsO B g n w V R) (hx : x < n) (hg : w.grownBy w1 (V x).ownBlock) (ho : ArgsO B w1 v' L') (how : ∀ k, v'.ownBlock = some k → (V x).ownBlock = some k ∨ w.heap.size ≤ k) :
    RowsO B g n (w1.setCell ⟨g, x, none⟩ v') (upV V x v') (upV R x L') := by
  obtain ⟨cs, h1, h2, h3⟩ := h.cell
  have hg1 : w1.heap[g]? = some (.cells cs 40 (0, 0)) := (hg.block _ (heap_lt' h1) (fun e => h.away x hx e.symm)).trans h1
  have oth : ∀ k, k ≠ g → (w1.setCell ⟨g, x, none⟩ v').heap[k]? = w1.heap[k]? := fun k hk => Below.heap_setCell _ _ _ _ hk
  have hvg : v'.ownBlock ≠ some g := by
    intro e
    rcases how g e with q | q
    · exact h.away x hx q
    · have := h.lt; omega
  refine ⟨⟨cs.setIfInBounds x v', ?_, by simp [h2], fun b hb => ?_⟩, fun b hb => ?_, fun a b ha hb hab k hk => ?_⟩
  · rw [heap_setCell_same w1 g x _ _ v' hg1]
  · by_cases e : b = x
    · subst e
      rw [upV_same]
      simp [h2, hb]
    · rw [upV_ne _ _ e, Array.getElem?_setIfInBounds_ne (fun e1 => e e1.symm), h3 b hb]
  · by_cases e : b = x
    · subst e
      rw [upV_same, upV_same]
      exact ho.stays fun k hk => oth k (fun e1 => hvg (by rw [hk, e1]))
    · rw [upV_ne _ _ e, upV_ne _ _ e]
      have hb1 : ArgsO B w1 (V b) (R b) := (h.row b hb).stays fun k hk => hg.block k ((h.row b hb).lt k hk).2 (fun e1 => h.apart x b hx hb (fun q => e q.symm) k e1.symm hk)
      exact hb1.stays fun k hk => oth k (fun e1 => h.away b hb (by rw [hk, e1]))
  · by_cases ea : a = x
    · subst ea
      rw [upV_same] at hk
      rw [upV_ne _ _ (fun q => hab q.symm)]
      intro e1
      rcases how k hk with q | q
      · exact h.apart a b ha hb hab k q e1
      · have := ((h.row b hb).lt k e1).2; omega
    · rw [upV_ne _ _ ea] at hk
      by_cases eb : b = x
      · subst eb
        rw [upV_same]
        intro e1
        rcases how k e1 with q | q
        · exact h.apart a b ha hb hab k hk q
        · have := ((h.row a ha).lt k hk).2; omega
      · rw [upV_ne _ _ eb]
        exact h.apart a b ha hb hab k hk
/-- What is read of such rows. -/
def RowAt (w : World) (b off : Nat) (xs : List Int) : Prop := ∃ u, w.cell? ⟨b, off, none⟩ = some u ∧ IntsV w u xs
def RowsV (w : World) (v : Value) (rs : List (List Int)) : Prop := SlV 1 RowAt [] w v rs
theorem RowsV.below {w w' : World} {v : Value} {rs : List (List Int)} (h : RowsV w v rs) (hB : Below w.heap.size w w') : RowsV w' v rs := SlV.mono h fun _ _ _ ⟨u, h1, h2⟩ => ⟨u, cell_below hB h1, h2.below hB⟩
theorem RowsV.slice {w : World} {v : Value} {rs : List (List Int)} (h : RowsV w v rs) : ∃ ao cap, v = .slice ao rs.length cap := SlV.slice h
theorem RowsV.at {w : World} {ao : Option Addr} {n c : Nat} {rs : List (List Int)} (h : RowsV w (.slice ao n c) rs) (j : Nat) (hj : j < rs.length) : ∃ b off u, ao = some ⟨b, off, none⟩ ∧ w.cell? ⟨b, off + j, none⟩ = some u ∧ IntsV w u (rs.getD j []) := by
  obtain ⟨b, off, e, u, h1, h2⟩ := SlV.at h j hj
  rw [Nat.mul_one] at h1
  exact ⟨b, off, u, e, h1, h2⟩
theorem RowsO.v {B g n : Nat} {w : World} {V : Nat → Value} {R : Nat → List Int} (h : RowsO B g n w V R) (hn : n ≤ maxLen) : RowsV w (.slice (some ⟨g, 0, none⟩) n n) ((List.range n).map R) := by
  refine ⟨some ⟨g, 0, none⟩, n, by simp, by simp, hn, fun e => by simp at e, fun _ => ⟨g, 0, rfl, fun j hj => ?_⟩⟩
  simp only [List.length_map, List.length_range] at hj
  refine ⟨V j, ?_, ?_⟩
  · rw [Nat.zero_add, Nat.mul_one]
    exact (h.at j hj).1
  · have : ((List.range n).map R).getD j [] = R j := by simp [hj]
    rw [this]
    exact (h.row j hj).v
theorem info40 : (Try.prog.info? 40).map (fun i => (i.zero, i.size, i.bytes)) = some (some (.slice none 0 0), 1, 24) := by kernel_rfl
theorem rows_made {w : World} {B g n : Nat} {xs : List Value} (h : w.ownsRow g 40 1 (.slice (some ⟨g, 0, none⟩) n n) n xs) (hx : ∀ i, i < n → xs[i]? = some (.slice none 0 0)) : RowsO B g n w (fun _ => .slice none 0 0) (fun _ => []) := by
  rcases h.2 with ⟨e, _⟩ | ⟨g', cap, cur, e, _, hg, hn, _, hs, ht⟩
  · cases e
  · simp only [Value.slice.injEq, Option.some.injEq, Addr.mk.injEq, and_true, true_and] at e
    obtain ⟨rfl, rfl⟩ := e
    refine ⟨⟨cur, hg, by omega, fun i hi => ?_⟩, fun b _ => ArgsO.nil _ _, fun a b _ _ _ k hk => by simp [Value.ownBlock] at hk⟩
    have : (cur.toList.take (n * 1))[i]? = some (.slice none 0 0) := by rw [ht]; exact hx i hi
    rw [List.getElem?_take] at this
    rw [if_pos (by omega)] at this
    simpa using this
set_option maxHeartbeats 4000000 in
set_option maxRecDepth 100000 in
theorem ahead_any (w : World) (lv : Value) (es : List En) (H0 : EndsV w lv es) (hin : EndsIn es) (hn : es.length ≤ 1000) :
    Calls Try.prog 9 #[lv] w fun e w' => ∃ u, e = .returned u ∧ RowsV w' u ((List.range es.length).map fun b => ci (ahd (nxE es) es.length b)) ∧ Below w.heap.size w w' := by
  obtain ⟨ao, c, rfl⟩ := H0.slice
  obtain ⟨i4, hi, hz, hs, hb⟩ := info_parts info40
  have hH0 := hide H0
  clear H0
  go_enter Try.func9, Try.ntmps9
  go_wp2_with (at_make; go_must (refine wpList_make_full w rfl (.tmp 8) (.tmp 8) 30 rfl w.heap.size 40 i4 (.slice none 0 0) 1 Try.underlying30 hi hz hs .i64 .i64 _ _ es.length rfl rfl rfl rfl (by rw [hb]; omega) (by unfold maxLen; omega) (Nat.le_refl _) ?_))
  intro w1 ho1 hg1
  have HR1 : Hid (RowsO w.heap.size w.heap.size es.length w1 (fun _ => .slice none 0 0) (fun _ => [])) := hide (rows_made ho1 (fun i hi => by
    have : (madeCells #[Value.slice none 0 0] es.length).toList[i]? = some (Value.slice none 0 0) := by simp [madeCells, hi, Nat.mod_one]
    exact this))
  have HB1 : Hid (Below w.heap.size w w1) := hide ⟨hg1.os, hg1.tape, hg1.output, hg1.size, fun k hk => hg1.block k hk (by simp)⟩
  clear ho1 hg1 hi hz hs hb
  go_wp2_with fail
  go_loopw [4, 6, 12] (fun _ _ iv wr => ∃ (i : Nat) (V : Nat → Value), i ≤ es.length ∧ iv = .int .i64 i ∧ Hid (RowsO w.heap.size w.heap.size es.length wr V (fun b => ci (ahd (nxE es) i b))) ∧ Hid (Below w.heap.size w wr)) (fun _ _ iv _ => es.length - (intOf iv).toNat)
  case atStart => exact ⟨0, _, by omega, rfl, HR1, HB1⟩
  case round =>
    obtain ⟨i, V, hi, rfl, hR, hB⟩ := hrel
    by_cases hil : i < es.length
    · have hil' : (i : Int) < (es.length : Int) := by omega
      obtain ⟨g, off, rfl, hc⟩ := (hH0.out.below hB.out).end i hil
      obtain ⟨c1, c2, c3, c4⟩ := hc
      have hnd := hide (hin.ints i)
      have hndp := hide (hin.nodup i)
      generalize hee : es.getD i En.zero = e at *
      go_wp2_with fail
      refine (next16 e wr).mono ?_
      rintro x w2 ⟨u, rfl, hu, hB2⟩
      have HR2 := hide (hR.out.below hB2)
      have HU2 := hide hu
      have HB2 := hide (bel_to hB.out hB2 hB.out.size)
      have HUP : Hid (∀ b, b < es.length → ∀ k, (V b).ownBlock = some k → u.ownBlock ≠ some k) := by
        intro b hb k hk e1
        have h1 := ((hR.out.row b hb).lt k hk).2
        have h2 := (hu.lt k e1).1
        omega
      have HUG : Hid (u.ownBlock ≠ some w.heap.size) := by
        intro e1
        have h1 := hR.out.lt
        have h2 := (hu.lt _ e1).1
        omega
      obtain ⟨au, cu, rfl⟩ := hu.slice
      have hf2 := fol_len e
      clear c1 c2 c3 c4 hu hB2
      go_wp2_with fail
      go_loopw [6, 22] (fun _ jv wq => ∃ (j : Nat) (Vq : Nat → Value), j ≤ (fol e).length ∧ jv = .int .i64 j ∧ Hid (RowsO w.heap.size w.heap.size es.length wq Vq (fun b => ci (ahr (nxE es) i j b))) ∧ Hid (Below w.heap.size w wq) ∧ Hid (ArgsO wr.heap.size wq (.slice au (fol e).length cu) (fol e)) ∧ Hid (∀ b, b < es.length → ∀ k, (Vq b).ownBlock = some k → (Value.slice au (fol e).length cu).ownBlock ≠ some k)) (fun _ jv _ => (fol e).length - (intOf jv).toNat)
      case atStart => exact ⟨0, V, by omega, rfl, by simpa only [ahr_zero] using HR2, HB2, HU2, HUP⟩
      case round =>
        rename World => wq
        obtain ⟨j, Vq, hj, rfl, hRq, hBq, hUq, hPq⟩ := hrel
        have hlen : (nxE es i).length = (fol e).length := by rw [← hnd.out, List.length_map]
        by_cases hlt : j < (fol e).length
        · have hlt' : (j : Int) < ((fol e).length : Int) := by omega
          obtain ⟨gu, ou, rfl, hcu⟩ := hUq.out.v.at j hlt
          have hjl : j < (nxE es i).length := by rw [hlen]; exact hlt
          have hx := nx_getD hin i j hjl
          rw [hee] at hx
          rw [hx.1] at hcu
          have hhit := hide (ahr_hit hjl hndp.out)
          have hmiss := hide (fun b (h : b ≠ (nxE es i).getD j 0) => ahr_miss (nx := nxE es) hjl h)
          generalize (nxE es i).getD j 0 = x at *
          obtain ⟨_, hxn⟩ := hx
          have hx' : (x : Int) < (es.length : Int) := by omega
          have HX := hide hxn
          obtain ⟨q1, q2⟩ := hRq.out.at x hxn
          have hOx := hRq.out.row x hxn
          have hlx : (ci (ahr (nxE es) i j x)).length ≤ 2000 := by rw [List.length_map]; have := ahr_len (nxE es) i j x; omega
          have HL : Hid (ci (ahr (nxE es) i j x) = ci (ahr (nxE es) i j x)) := hide rfl
          generalize hLe : ci (ahr (nxE es) i j x) = L at hOx hlx
          have HLE := hide hLe
          have hn := heap_alloc_new wq (.cells #[.int .i64 (i : Int)] 3)
          have hO4 := hOx.below (bel1' wq (.cells #[.int .i64 (i : Int)] 3))
          have HR4 := hide (hRq.out.below (bel1' wq (.cells #[.int .i64 (i : Int)] 3)))
          have HB4 := hide (bel_to hBq.out (bel1' wq (.cells #[.int .i64 (i : Int)] 3)) hBq.out.size)
          have HU4 := hide (hUq.out.below (bel1' wq (.cells #[.int .i64 (i : Int)] 3)))
          obtain ⟨aX, cX, hvx⟩ := hOx.slice
          have HVX := hide hvx
          rw [hvx] at q1 hO4
          clear hjl hxn hOx hLe HL hvx
          go_wp2_with (at_builtin; go_must (refine snoc_int (B := w.heap.size) (.tmp 31) (.tmp 33) rfl rfl hO4 hn rfl rfl (by omega) (by have := HB4.out.size; simpa using this) ?_))
          intro v' w5 hO5 hg5 how5
          have hgx : (wq.alloc (.cells #[.int .i64 (i : Int)] 3)).grownBy w5 (Vq x).ownBlock := by rw [HVX.out]; exact hg5
          have howx : ∀ k, v'.ownBlock = some k → (Vq x).ownBlock = some k ∨ (wq.alloc (.cells #[.int .i64 (i : Int)] 3)).heap.size ≤ k := by rw [HVX.out]; simpa only [World.size_alloc] using how5
          have HR6 := hide (HR4.out.snoc HX.out hgx hO5 howx)
          have hre : upV (fun b => ci (ahr (nxE es) i j b)) x (L ++ [(i : Int)]) = fun b => ci (ahr (nxE es) i (j + 1) b) := by
            funext b
            by_cases e1 : b = x
            · subst e1
              rw [upV_same]
              show _ = ci (ahr (nxE es) i (j + 1) b)
              rw [hhit.out, ← HLE.out]
              simp [ci]
            · rw [upV_ne _ _ e1]
              show ci _ = ci _
              rw [hmiss.out b e1]
          rw [hre] at HR6
          have hset := set_grown w5 w.heap.size x v'
          have HB6 : Hid (Below w.heap.size w (w5.setCell ⟨w.heap.size, x, none⟩ v')) := by
            have h1 := HB4.out.grown hg5 HB4.out.size (fun k e1 => (hO4.lt k e1).1)
            exact h1.grown hset h1.size (fun k e1 => by cases e1; exact Nat.le_refl _)
          have HU6 : Hid (ArgsO wr.heap.size (w5.setCell ⟨w.heap.size, x, none⟩ v') (.slice (some ⟨gu, ou, none⟩) (fol e).length cu) (fol e)) := by
            have h1 : ArgsO wr.heap.size w5 (.slice (some ⟨gu, ou, none⟩) (fol e).length cu) (fol e) := HU4.out.stays fun k hk => hgx.block k (HU4.out.lt k hk).2 (fun e1 => hPq.out x HX.out k e1.symm hk)
            exact h1.stays fun k hk => hset.block k (h1.lt k hk).2 (fun e1 => HUG.out (by rw [hk, e1]))
          have HP6 : Hid (∀ b, b < es.length → ∀ k, (upV Vq x v' b).ownBlock = some k → (Value.slice (some ⟨gu, ou, none⟩) (fol e).length cu).ownBlock ≠ some k) := by
            intro b hb k hk e1
            by_cases e2 : b = x
            · subst e2
              rw [upV_same] at hk
              rcases howx k hk with q | q
              · exact hPq.out b hb k q e1
              · have := (hUq.out.lt k e1).2
                rw [World.size_alloc] at q
                omega
            · rw [upV_ne _ _ e2] at hk
              exact hPq.out b hb k hk e1
          obtain ⟨cs, h1, h2, h3⟩ := HR4.out.cell
          have hg1 : w5.heap[w.heap.size]? = some (.cells cs 40 (0, 0)) := (hgx.block _ (heap_lt' h1) (fun e1 => HR4.out.away x HX.out e1.symm)).trans h1
          have q3 : w5.cell? ⟨w.heap.size, x, none⟩ = some (.slice aX L.length cX) := by rw [cell_of_row _ _ _ _ _ _ hg1, h3 x HX.out, HVX.out]
          have q4 : w5.frozen? ⟨w.heap.size, x, none⟩ = false := frozen_of_row _ _ _ _ _ hg1
          obtain ⟨a5, c5, rfl⟩ := hO5.slice
          rw [show (L ++ [(i : Int)]).length = L.length + 1 by simp] at HR6 HB6 HU6 HP6
          clear hgx howx hre hset h1 h2 h3 hg1 hO5 hg5 how5 hn hO4 q1 q2 HR4 HB4 HU4
          go_wp2_with fail
          go_roundw
          case rel => exact ⟨j + 1, _, by omega, by go_num, HR6, HB6, HU6, HP6⟩
          case measure => simp [intOf]; omega
        · obtain rfl : j = (fol e).length := by omega
          have hR7 : Hid (RowsO w.heap.size w.heap.size es.length wq Vq (fun b => ci (ahd (nxE es) (i + 1) b))) := by
            have h1 := hRq.out
            rw [← hlen] at h1
            simp only [ahr_all] at h1
            exact hide h1
          go_wp2_with fail
          go_roundw
          case rel => exact ⟨i + 1, Vq, by omega, by go_num, hR7, hBq⟩
          case measure => simp [intOf]; omega
    · obtain rfl : i = es.length := by omega
      have hfin := hide (hR.out.v (by unfold maxLen; omega))
      go_wp2_with fail
      go_ret
      exact ⟨_, rfl, hfin.out, hB.out⟩
end Go.Proofs.Ytgckpmaajmlijaa
