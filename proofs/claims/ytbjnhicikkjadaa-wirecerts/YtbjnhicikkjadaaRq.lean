/- wire.ReadCert: a certificate out of bytes. -/
import Derived.Test.YtbjnhicikkjadaaRr
namespace Go.Proofs.Ytbjnhicikkjadaa
open Go.RowKit Ir Wire

theorem took_pr {xs r1 r2 : List Int} {c0 c1 c2 v l : Int} (h1 : Took (belP 4096) xs c0 v r1 c1) (h2 : Took (belP 4096) r1 c1 l r2 c2) : Took prP xs c0 ⟨v, l⟩ r2 c2 := Took.bind h1 (Took.bind h2 (Took.pure _ _ _))
theorem took_lst {xs ys : List Int} {c0 c1 : Int} {l : List Pair} (h : Took (listP prP 65535) xs c0 l ys c1) : Took lstP xs c0 l ys c1 := by
  refine Took.congr h ?_
  unfold listP lstP
  simp only [prsP_rep]
theorem took_cer {xs ys : List Int} {c0 c1 : Int} {l : List (List Pair)} (h : Took (listP lstP 16) xs c0 l ys c1) : Took cerP xs c0 l ys c1 := by
  refine Took.congr h ?_
  unfold listP cerP
  simp only [lstsP_rep]
theorem box2 {w : World} {g : Nat} {a0 a1 : Value} {t : TypeId} (h : w.heap[g]? = some (Obj.cells #[a0, a1] t (0, 0))) : w.cell? ⟨g, 0, none⟩ = some a0 ∧ w.cell? ⟨g, 1, none⟩ = some a1 := by
  refine ⟨?_, ?_⟩ <;> (rw [cell_of_row _ _ _ _ _ _ h]; rfl)
theorem build111 (x y : Int) (W : World) : (Instr.build 111 #[(0, .int .i64 x), (1, .int .i64 y)]).run Try.prog W = .ok (.agg #[.int .i64 x, .int .i64 y]) W := by kernel_rfl
set_option maxHeartbeats 1000000 in
set_option maxRecDepth 100000 in
theorem pairClos (p b q0 q1 : Nat) (xs : List Int) (code : Int) (w : World) (h : Lb.RdrAt w p b xs code) (hb : b < w.heap.size)
    (h0 : w.heap[q0]? = some (Obj.cells #[.pointer (some ⟨p, 0, none⟩)] 99 (0, 0))) (h1 : w.heap[q1]? = some (Obj.cells #[.func (.func 68) #[] #[.pointer (some ⟨q0, 0, none⟩)]] 101 (0, 0))) (n0 : q0 ≠ p) (n1 : q1 ≠ p) :
    Calls Try.prog 51 #[.pointer (some ⟨q1, 0, none⟩)] w (RdPost w p b prP xs code (Vpr w.heap.size)) := by
  have hp := h.lt
  have l0 := row_lt h0
  have l1 := row_lt h1
  have hB1 := bel1' w (.cells #[.int .i64 0, .int .i64 0] 111)
  have hn := heap_alloc_new w (.cells #[.int .i64 0, .int .i64 0] 111)
  have hG0 : w.grownBy (w.alloc (.cells #[.int .i64 0, .int .i64 0] 111)).drew (some p) := Lb.grownBy_below hB1.drew (some p)
  have HX := hide (fun W (hg : w.grownBy W (some p)) => (show W.cell? ⟨q1, 0, none⟩ = some (.func (.func 68) #[] #[.pointer (some ⟨q0, 0, none⟩)]) from cell_of (grown_row hg h1 n1) rfl))
  have HQ := hide (fun W (hg : w.grownBy W (some p)) => grown_row hg h0 n0)
  have HC := hide (field_t p b q0 xs code (w.alloc (.cells #[.int .i64 0, .int .i64 0] 111)).drew (h.below hB1.drew) (grown_row hG0 h0 n0))
  have c0 := HX.out _ (Lb.grownBy_below hB1 (some p))
  have hn0 : (w.alloc (.cells #[.int .i64 0, .int .i64 0] 111)).drew.heap[w.heap.size]? = some (Obj.cells #[.int .i64 0, .int .i64 0] 111 (0, 0)) := hn
  clear h h0 h1 hB1
  go_enter Try.func51, Try.ntmps51
  go_wp2_with fail
  go_region_held3 (fun w' => w'.cell? ⟨q1, 0, none⟩ = some (.func (.func 68) #[] #[.pointer (some ⟨q0, 0, none⟩)])) (first | with_reducible assumption | go_keep)
    (first
      | (go_at_call 68; refine HC.out.mono ?_; rintro e w1 ⟨x, u1, ys1, d1, rfl, ⟨rfl, hx0, hx1⟩, hT1, hR1, hg1⟩; have hG1 := Lb.grownBy_trans hG0 hg1; have hS1 := HX.out w1 hG1; have hr1 := grown_row hg1 hn0 (by omega); clear HC)
      | (go_at_call 68; refine (field_t p b q0 ys1 d1 w1 hR1 (HQ.out w1 hG1)).mono ?_; rintro e w2 ⟨y, u2, ys2, d2, rfl, ⟨rfl, hy0, hy1⟩, hT2, hR2, hg2⟩; have hG2 := Lb.grownBy_trans hG1 hg2; have hS2 := HX.out w2 hG2; have hr := grown_row hg2 hr1 (by omega); have hbd := build111 x y; obtain ⟨r0, r1⟩ := box2 hr; have g0 : w2.frozen? ⟨w.heap.size, 0, none⟩ = false := frozen_of_row _ _ _ _ _ hr; have g1 : w2.frozen? ⟨w.heap.size, 1, none⟩ = false := frozen_of_row _ _ _ _ _ hr; have hSe : ((w2.setCell ⟨w.heap.size, 0, none⟩ (.int .i64 x)).setCell ⟨w.heap.size, 1, none⟩ (.int .i64 y)).cell? ⟨q1, 0, none⟩ = some (.func (.func 68) #[] #[.pointer (some ⟨q0, 0, none⟩)]) := set_cell (set_cell hS2 (by omega)) (by omega)))
  have hre0 : (w2.setCell ⟨w.heap.size, 0, none⟩ (.int .i64 x)).heap[w.heap.size]? = some (Obj.cells #[.int .i64 x, .int .i64 0] 111 (0, 0)) := heap_setCell_same w2 (w.heap.size) 0 _ _ (.int .i64 x) hr
  have hGe0 := grown_new hG2 (Lb.grownBy_setCell w2 (w.heap.size) 0 (.int .i64 x)) (fun k hk => by simp at hk; omega)
  have hRe0 := rdr_kept hR2 (Lb.grownBy_setCell w2 (w.heap.size) 0 (.int .i64 x)) (fun e => by simp at e; omega) (fun e => by simp at e; omega)
  have hre1 : ((w2.setCell ⟨w.heap.size, 0, none⟩ (.int .i64 x)).setCell ⟨w.heap.size, 1, none⟩ (.int .i64 y)).heap[w.heap.size]? = some (Obj.cells #[.int .i64 x, .int .i64 y] 111 (0, 0)) := heap_setCell_same (w2.setCell ⟨w.heap.size, 0, none⟩ (.int .i64 x)) (w.heap.size) 1 _ _ (.int .i64 y) hre0
  have hGe1 := grown_new hGe0 (Lb.grownBy_setCell (w2.setCell ⟨w.heap.size, 0, none⟩ (.int .i64 x)) (w.heap.size) 1 (.int .i64 y)) (fun k hk => by simp at hk; omega)
  have hRe1 := rdr_kept hRe0 (Lb.grownBy_setCell (w2.setCell ⟨w.heap.size, 0, none⟩ (.int .i64 x)) (w.heap.size) 1 (.int .i64 y)) (fun e => by simp at e; omega) (fun e => by simp at e; omega)
  obtain ⟨z0, z1⟩ := box2 hre1
  go_wp2_with fail
  refine bodyPost_ret (v := .agg #[.int .i64 x, .int .i64 y]) (by simp [results, Try.results51, go_sem, z0, z1]) rfl ?_
  exact ⟨⟨x, y⟩, _, _, _, rfl, rfl, took_pr hT1 hT2, hRe1, hGe1⟩
set_option maxHeartbeats 1000000 in
set_option maxRecDepth 100000 in
theorem lstClos (p b q0 q1 q2 q3 : Nat) (xs : List Int) (code : Int) (w : World) (h : Lb.RdrAt w p b xs code) (hb : b < w.heap.size)
    (h0 : w.heap[q0]? = some (Obj.cells #[.pointer (some ⟨p, 0, none⟩)] 99 (0, 0))) (h1 : w.heap[q1]? = some (Obj.cells #[.func (.func 68) #[] #[.pointer (some ⟨q0, 0, none⟩)]] 101 (0, 0))) (h2 : w.heap[q2]? = some (Obj.cells #[.pointer (some ⟨p, 0, none⟩)] 99 (0, 0))) (h3 : w.heap[q3]? = some (Obj.cells #[.func (.func 51) #[] #[.pointer (some ⟨q1, 0, none⟩)]] 113 (0, 0))) (n0 : q0 ≠ p) (n1 : q1 ≠ p) :
    Calls Try.prog 53 #[.pointer (some ⟨q2, 0, none⟩), .pointer (some ⟨q3, 0, none⟩)] w (RdPost w p b lstP xs code (Vprs w.heap.size)) := by
  have HC := hide (takeList_pr prP 65535 p b q1 xs code w h hb (by omega) (fun W ys d hg hR => pairClos p b q0 q1 ys d W hR (Nat.lt_of_lt_of_le hb hg.size) (grown_row hg h0 n0) (grown_row hg h1 n1) n0 n1))
  have c2 := cell_of h2 (i := 0) rfl
  have c3 := cell_of h3 (i := 0) rfl
  clear h hb h0 h1 h2 h3
  go_enter Try.func53, Try.ntmps53
  go_wp2_with fail
  refine HC.out.mono ?_
  rintro e w1 ⟨l, u, ys, d, rfl, hO, hT, hR, hg⟩
  obtain ⟨au, nu, cu, rfl⟩ := owns_slice hO
  clear HC c2 c3
  go_wp2_with fail
  go_ret
  exact ⟨l, _, ys, d, rfl, hO, took_lst hT, hR, hg⟩
theorem rdc_ok {xs ys : List Int} {d : Int} {l : List (List Pair)} (h : Took cerP xs 0 l ys d) (he : Leb.ended ys d = 0) : rd [] cerP (fun _ => true) xs = (l, 0) := rd_ok h he rfl
theorem CerO.mono {B B' : Nat} {w : World} {v : Value} {l : List (List Pair)} (h : CerO B w v l) (hB : B' ≤ B) : CerO B' w v l := by
  obtain ⟨ps, h1, h2, h3⟩ := h
  exact ⟨ps, h1, owns_mono h2 hB, fun q hq => (h3 q hq).mono hB⟩
set_option maxHeartbeats 2000000 in
set_option maxRecDepth 100000 in
theorem readCert_any (v : Value) (xs : List Int) (w : World) (hv : Lb.Byt w v xs) (hx : xs.length ≤ 1000000000) :
    Calls Try.prog 29 #[v] w fun e w' => ∃ u, e = .returned (.tuple #[u, .int .i64 (rd [] cerP (fun _ => true) xs).2]) ∧ CerO w.heap.size w' u (rd [] cerP (fun _ => true) xs).1 ∧ Below w.heap.size w w' := by
  have HN := hide (Lb.new_any v xs w hv hx)
  obtain ⟨ao, nv, cap, rfl⟩ := bysnd _ _ _ hv
  clear hv hx
  go_enter Try.func29, Try.ntmps29
  go_wp2_with fail
  refine HN.out.mono ?_
  rintro e w1 ⟨p, b, rfl, hp, hb, hb1, hR, hBel⟩
  have hpl := hR.lt
  -- the reader's variable
  have hbx1 := bel1' w1 (.cells #[.pointer (some ⟨p, 0, none⟩)] 99)
  have e1 := heap_alloc_new w1 (.cells #[.pointer (some ⟨p, 0, none⟩)] 99)
  have HF := hide (fieldsOf_any p (w1.alloc (.cells #[.pointer (some ⟨p, 0, none⟩)] 99)))
  have c1 : (w1.alloc (.cells #[.pointer (some ⟨p, 0, none⟩)] 99)).cell? ⟨w1.heap.size, 0, none⟩ = some (.pointer (some ⟨p, 0, none⟩)) := cell_of e1 rfl
  clear HN
  go_wp2_with fail
  refine HF.out.mono ?_
  rintro e w2 ⟨rfl, hq0, hqs, hB2⟩
  have hq : w2.heap[w1.heap.size + 1]? = some (Obj.cells #[.pointer (some ⟨p, 0, none⟩)] 99 (0, 0)) := by simpa using hq0
  have f1 := (hB2.block _ (row_lt e1)).trans e1
  have hz2 : w1.heap.size + 1 < w2.heap.size := row_lt hq
  have hB12 := bel_of hbx1 hB2
  clear HF c1 hq0 hqs hB2 hbx1 e1
  -- the other variables
  have hbx2 := bel1' w2 (.cells #[.func (.func 68) #[] #[.pointer (some ⟨w1.heap.size + 1, 0, none⟩)]] 101)
  have hbx3 := bel1' (w2.alloc (.cells #[.func (.func 68) #[] #[.pointer (some ⟨w1.heap.size + 1, 0, none⟩)]] 101)) (.cells #[.func (.func 51) #[] #[.pointer (some ⟨w2.heap.size, 0, none⟩)]] 113)
  have e2 := heap_alloc_new w2 (.cells #[.func (.func 68) #[] #[.pointer (some ⟨w1.heap.size + 1, 0, none⟩)]] 101)
  have e3 := heap_alloc_new (w2.alloc (.cells #[.func (.func 68) #[] #[.pointer (some ⟨w1.heap.size + 1, 0, none⟩)]] 101)) (.cells #[.func (.func 51) #[] #[.pointer (some ⟨w2.heap.size, 0, none⟩)]] 113)
  obtain ⟨W4, hW4⟩ : ∃ W, W = (w2.alloc (.cells #[.func (.func 68) #[] #[.pointer (some ⟨w1.heap.size + 1, 0, none⟩)]] 101)).alloc (.cells #[.func (.func 51) #[] #[.pointer (some ⟨w2.heap.size, 0, none⟩)]] 113) := ⟨_, rfl⟩
  have hB24 : Below w2.heap.size w2 W4 := by rw [hW4]; exact bel_of hbx2 hbx3
  have k0 := (hB24.block _ (row_lt hq)).trans hq
  have k1 : W4.heap[w2.heap.size]? = some (Obj.cells #[.func (.func 68) #[] #[.pointer (some ⟨w1.heap.size + 1, 0, none⟩)]] 101 (0, 0)) := by rw [hW4]; exact (hbx3.block _ (row_lt e2)).trans e2
  have k2 := (hB24.block _ (row_lt f1)).trans f1
  have k3 : W4.heap[w2.heap.size + 1]? = some (Obj.cells #[.func (.func 51) #[] #[.pointer (some ⟨w2.heap.size, 0, none⟩)]] 113 (0, 0)) := by rw [hW4]; simpa using e3
  have hz4 : w2.heap.size + 1 < W4.heap.size := row_lt k3
  have hR4 := hR.below (bel_of hB12 hB24)
  have hBel4 := hBel.trans ((bel_of hB12 hB24).mono hBel.size)
  have HC := hide (takeList_prs lstP 16 p b w1.heap.size (w2.heap.size + 1) xs 0 W4 hR4 (by omega) (by omega) (fun W ys d hg hR => lstClos p b (w1.heap.size + 1) w2.heap.size w1.heap.size (w2.heap.size + 1) ys d W hR (by have := hg.size; omega) (grown_row hg k0 (by omega)) (grown_row hg k1 (by omega)) (grown_row hg k2 (by omega)) (grown_row hg k3 (by omega)) (by omega) (by omega)))
  have c4 : W4.cell? ⟨w1.heap.size, 0, none⟩ = some (.pointer (some ⟨p, 0, none⟩)) := cell_of k2 rfl
  rw [hW4] at HC c4
  have HW := hide hW4
  have hsz4 := hBel4.size
  clear k0 k1 k3 hB24 hbx2 hbx3 e2 e3 hR hB12 hq f1 hR4 hBel hW4
  go_wp2_with fail
  refine HC.out.mono ?_
  rintro e w5 ⟨l, u, ys, d, rfl, hO, hT, hR, hg⟩
  rw [← HW.out] at hO hg
  obtain ⟨au, nu, cu, rfl⟩ : ∃ ao n cap, u = .slice ao n cap := (by obtain ⟨_, _, h2, _⟩ := hO; exact owns_slice h2)
  have c5 : w5.cell? ⟨w1.heap.size, 0, none⟩ = some (.pointer (some ⟨p, 0, none⟩)) := cell_of (grown_row hg k2 (by omega)) rfl
  have hB5 : Below w.heap.size w w5 := hBel4.grown hg hBel4.size (fun q hq => by simp at hq; omega)
  have HE := hide (Lb.end_any p b ys d w5 hR)
  clear HC c4 k2 hg hR HW
  go_wp2_with fail
  refine HE.out.mono ?_
  rintro e w6 ⟨rfl, _, hge⟩
  have hO6 := hO.kept hge (by omega)
  have hB6 : Below w.heap.size w w6 := hB5.grown hge hB5.size (fun q hq => by simp at hq; omega)
  have hO7 := CerO.mono (B' := w.heap.size) hO6 hsz4
  clear HE hge hB5 hO hO6 c5 hBel4
  have hTc := took_cer hT
  obtain ⟨ee, hee⟩ : ∃ e, e = Leb.ended ys d := ⟨_, rfl⟩
  rw [← hee]
  by_cases h0 : ee = 0
  · subst h0
    have hrd := hide (rdc_ok hTc hee.symm)
    clear hee hT hTc
    go_wp2_with fail
    go_ret2
    rw [hrd.out]
    exact ⟨_, rfl, hO7, hB6⟩
  · have hb0 : (ee == 0) = false := by simp [h0]
    have hrd := hide (rd_fault (z := []) (ok := fun _ => true) hTc (by rw [← hee]; exact h0))
    rw [← hee] at hrd
    clear h0 hee hT hTc
    go_wp2_with fail
    go_ret2
    rw [hrd.out]
    exact ⟨_, rfl, CerO.nil _ _, hB6⟩
end Go.Proofs.Ytbjnhicikkjadaa
