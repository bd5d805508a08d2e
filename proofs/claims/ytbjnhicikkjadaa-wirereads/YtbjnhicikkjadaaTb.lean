/- wire's takeBlocks and its closures. -/
import Derived.Test.YtbjnhicikkjadaaTn
import Derived.Deep.RegionHeld3
import Derived.Laws.EntriesVeiled
namespace Go.Proofs.Ytbjnhicikkjadaa
open Go.RowKit Ir Wire

theorem took_blk {most : Nat} {xs ys zs : List Int} {c0 c1 c2 : Int} {is : List Ins} {e : En} (h1 : Took (listP insP most) xs c0 is ys c1) (h2 : Took endP ys c1 e zs c2) : Took (blkP most) xs c0 ⟨is, e⟩ zs c2 := by
  refine Took.congr (P := fun xs => (listP insP most xs).bind fun is r => (endP r).bind fun e r => .inl (⟨is, e⟩, r)) (Took.bind h1 (Took.bind h2 (Took.pure _ _ _))) ?_
  unfold listP blkP
  cases belP (most + 1) xs with
  | inl y => simp only [Pr.bind, inssP_rep]
  | inr c => rfl
theorem took_all {most : Nat} {xs ys : List Int} {c0 c1 : Int} {l : List Blk} (h : Took (listP (blkP most) 16) xs c0 l ys c1) : Took (allP most) xs c0 l ys c1 := by
  refine Took.congr h ?_
  unfold listP allP
  simp only [blksP_rep]
theorem cell_of {w : World} {g i : Nat} {cs : Array Value} {t : TypeId} {u : Value} (h : w.heap[g]? = some (Obj.cells cs t (0, 0))) (e : cs[i]? = some u) : w.cell? ⟨g, i, none⟩ = some u := by rw [cell_of_row _ _ _ _ _ _ h]; exact e
set_option maxHeartbeats 1000000 in
set_option maxRecDepth 100000 in
theorem insClos (p b q : Nat) (xs : List Int) (code : Int) (w : World) (h : Lb.RdrAt w p b xs code) (hb : b < w.heap.size) (hq : w.heap[q]? = some (Obj.cells #[.pointer (some ⟨p, 0, none⟩)] 99 (0, 0))) :
    Calls Try.prog 70 #[.pointer (some ⟨q, 0, none⟩)] w (RdPost w p b insP xs code (Vins w.heap.size)) := by
  have hp := h.lt
  have hlq := row_lt hq
  have hB1 := bel1' w (.cells #[.int .u8 0, .int .u8 0, .int .i64 0, .int .i64 0, .int .i64 0, .int .i64 0, .slice none 0 0] 86)
  have hn := heap_alloc_new w (.cells #[.int .u8 0, .int .u8 0, .int .i64 0, .int .i64 0, .int .i64 0, .int .i64 0, .slice none 0 0] 86)
  have hq1 := (hB1.block _ hlq).trans hq
  have c0 : (w.alloc (.cells #[.int .u8 0, .int .u8 0, .int .i64 0, .int .i64 0, .int .i64 0, .int .i64 0, .slice none 0 0] 86)).cell? ⟨q, 0, none⟩ = some (.pointer (some ⟨p, 0, none⟩)) := cell_of hq1 rfl
  have HC := hide (takeIns_any p b xs code (w.alloc (.cells #[.int .u8 0, .int .u8 0, .int .i64 0, .int .i64 0, .int .i64 0, .int .i64 0, .slice none 0 0] 86)) (h.below hB1) (by simp; omega))
  clear h hq hq1
  go_enter Try.func70, Try.ntmps70
  go_wp2_with fail
  refine HC.out.mono ?_
  rintro e w1 ⟨i, u, ys, d, rfl, ⟨ua, rfl, hA⟩, hT, hR, hg⟩
  have hr := grown_row hg hn (by omega)
  have hG := Lb.grownBy_trans (Lb.grownBy_below hB1 (some p)) hg
  have hA2 : ArgsO w.heap.size w1 ua i.args := ArgsO.mono hA (by simp)
  obtain ⟨au, nu, cu, rfl⟩ := owns_slice hA2
  clear HC hA hg hn hB1 c0
  unfold insV
  obtain ⟨r0, r1, r2, r3, r4, r5, r6⟩ := box7 hr
  have g0 : w1.frozen? ⟨w.heap.size, 0, none⟩ = false := frozen_of_row _ _ _ _ _ hr
  have g1 : w1.frozen? ⟨w.heap.size, 1, none⟩ = false := frozen_of_row _ _ _ _ _ hr
  have g2 : w1.frozen? ⟨w.heap.size, 2, none⟩ = false := frozen_of_row _ _ _ _ _ hr
  have g3 : w1.frozen? ⟨w.heap.size, 3, none⟩ = false := frozen_of_row _ _ _ _ _ hr
  have g4 : w1.frozen? ⟨w.heap.size, 4, none⟩ = false := frozen_of_row _ _ _ _ _ hr
  have g5 : w1.frozen? ⟨w.heap.size, 5, none⟩ = false := frozen_of_row _ _ _ _ _ hr
  have g6 : w1.frozen? ⟨w.heap.size, 6, none⟩ = false := frozen_of_row _ _ _ _ _ hr
  have hre6 := sbox7 (.int .u8 i.k) (.int .u8 i.op) (.int .i64 i.d) (.int .i64 i.a) (.int .i64 i.b) (.int .i64 i.n) (.slice au nu cu) hr
  have hGe6 := grown_new hG (gbox7 _ w.heap.size (.int .u8 i.k) (.int .u8 i.op) (.int .i64 i.d) (.int .i64 i.a) (.int .i64 i.b) (.int .i64 i.n) (.slice au nu cu)) (fun k hk => by simp at hk; omega)
  have hRe6 := rdr_kept hR (gbox7 _ w.heap.size (.int .u8 i.k) (.int .u8 i.op) (.int .i64 i.d) (.int .i64 i.a) (.int .i64 i.b) (.int .i64 i.n) (.slice au nu cu)) (fun e => by simp at e; omega) (fun e => by simp at e; omega)
  have hOe6 := ArgsO.keeps hA2 (kbox7 (.int .u8 i.k) (.int .u8 i.op) (.int .i64 i.d) (.int .i64 i.a) (.int .i64 i.b) (.int .i64 i.n) (.slice au nu cu) hr (by decide))
  obtain ⟨q0, q1, q2, q3, q4, q5, q6⟩ := box7 hre6
  go_wp2_with fail
  refine bodyPost_ret (v := .agg #[.int .u8 i.k, .int .u8 i.op, .int .i64 i.d, .int .i64 i.a, .int .i64 i.b, .int .i64 i.n, .slice au nu cu]) (by simp [results, Try.results70, go_sem, q0, q1, q2, q3, q4, q5, q6]) rfl ?_
  exact ⟨i, _, _, _, rfl, ⟨_, rfl, hOe6⟩, hT, hRe6, hGe6⟩
/-! ### A block -/
theorem box5' {w : World} {g : Nat} {a0 a1 a2 a3 a4 : Value} {t : TypeId} (h : w.heap[g]? = some (Obj.cells #[a0, a1, a2, a3, a4] t (0, 0))) : w.cell? ⟨g, 0, none⟩ = some a0 ∧ w.cell? ⟨g, 1, none⟩ = some a1 ∧ w.cell? ⟨g, 2, none⟩ = some a2 ∧ w.cell? ⟨g, 3, none⟩ = some a3 ∧ w.cell? ⟨g, 4, none⟩ = some a4 := by
  refine ⟨?_, ?_, ?_, ?_, ?_⟩ <;> (rw [cell_of_row _ _ _ _ _ _ h]; rfl)
theorem build82 (ao : Option Addr) (n c : Nat) (e : En) (W : World) : (Instr.build 82 #[(0, .slice ao n c), (1, .agg #[.int .u8 e.k, .int .i64 e.a, .int .i64 e.to, .int .i64 e.el])]).run Try.prog W = .ok (.agg #[.slice ao n c, .int .u8 e.k, .int .i64 e.a, .int .i64 e.to, .int .i64 e.el]) W := by kernel_rfl
theorem set_cell {w : World} {g q i : Nat} {u v : Value} (h : w.cell? ⟨q, 0, none⟩ = some u) (hne : q ≠ g) : (w.setCell ⟨g, i, none⟩ v).cell? ⟨q, 0, none⟩ = some u :=
  (World.cell?_setCell_other (w := w) (a := ⟨g, i, none⟩) (b := ⟨q, 0, none⟩) (v := v) (fun e => by cases e; exact hne rfl)).trans h
set_option maxHeartbeats 1000000 in
set_option maxRecDepth 100000 in
theorem blkClos (most p b q0 q1 q2 : Nat) (xs : List Int) (code : Int) (w : World) (h : Lb.RdrAt w p b xs code) (hb : b < w.heap.size) (hm : most ≤ 70000)
    (h0 : w.heap[q0]? = some (Obj.cells #[.pointer (some ⟨p, 0, none⟩)] 99 (0, 0))) (h1 : w.heap[q1]? = some (Obj.cells #[.int .i64 most] 3 (0, 0))) (h2 : w.heap[q2]? = some (Obj.cells #[.func (.func 70) #[] #[.pointer (some ⟨q0, 0, none⟩)]] 133 (0, 0))) (n0 : q0 ≠ p) (n1 : q1 ≠ p) (n2 : q2 ≠ p) :
    Calls Try.prog 73 #[.pointer (some ⟨q0, 0, none⟩), .pointer (some ⟨q1, 0, none⟩), .pointer (some ⟨q2, 0, none⟩)] w (RdPost w p b (blkP most) xs code (Vblk w.heap.size)) := by
  have hp := h.lt
  have l0 := row_lt h0
  have l1 := row_lt h1
  have l2 := row_lt h2
  have hB1 := bel1' w (.cells #[.slice none 0 0, .int .u8 0, .int .i64 0, .int .i64 0, .int .i64 0] 82)
  have hn := heap_alloc_new w (.cells #[.slice none 0 0, .int .u8 0, .int .i64 0, .int .i64 0, .int .i64 0] 82)
  have hG0 : w.grownBy (w.alloc (.cells #[.slice none 0 0, .int .u8 0, .int .i64 0, .int .i64 0, .int .i64 0] 82)).drew (some p) := Lb.grownBy_below hB1.drew (some p)
  have HX := hide (fun W (hg : w.grownBy W (some p)) => (show W.cell? ⟨q0, 0, none⟩ = some (.pointer (some ⟨p, 0, none⟩)) ∧ W.cell? ⟨q1, 0, none⟩ = some (.int .i64 most) ∧ W.cell? ⟨q2, 0, none⟩ = some (.func (.func 70) #[] #[.pointer (some ⟨q0, 0, none⟩)]) from ⟨cell_of (grown_row hg h0 n0) rfl, cell_of (grown_row hg h1 n1) rfl, cell_of (grown_row hg h2 n2) rfl⟩))
  have HC := hide (takeList_ins insP most p b q0 xs code (w.alloc (.cells #[.slice none 0 0, .int .u8 0, .int .i64 0, .int .i64 0, .int .i64 0] 82)).drew (h.below hB1.drew) (by simp; omega) hm (fun W ys d hg hR => insClos p b q0 ys d W hR (Nat.lt_of_lt_of_le hb (Nat.le_trans hG0.size hg.size)) (grown_row hg (grown_row hG0 h0 n0) n0)))
  obtain ⟨c0, c1, c2⟩ := HX.out _ (Lb.grownBy_below hB1 (some p))
  have hn0 : (w.alloc (.cells #[.slice none 0 0, .int .u8 0, .int .i64 0, .int .i64 0, .int .i64 0] 82)).drew.heap[w.heap.size]? = some (Obj.cells #[.slice none 0 0, .int .u8 0, .int .i64 0, .int .i64 0, .int .i64 0] 82 (0, 0)) := hn
  clear h h0 h1 h2 hB1
  go_enter Try.func73, Try.ntmps73
  go_wp2_with fail
  go_region_held3 (fun w' => w'.cell? ⟨q0, 0, none⟩ = some (.pointer (some ⟨p, 0, none⟩)) ∧ w'.cell? ⟨q1, 0, none⟩ = some (.int .i64 most) ∧ w'.cell? ⟨q2, 0, none⟩ = some (.func (.func 70) #[] #[.pointer (some ⟨q0, 0, none⟩)])) (first | with_reducible assumption | go_keep)
    (first
      | (go_at_call 74; refine HC.out.mono ?_; rintro e w1 ⟨is, u1, ys1, d1, rfl, hO1, hT1, hR1, hg1⟩; have hG1 := Lb.grownBy_trans hG0 hg1; have hS1 := HX.out w1 hG1; have hr1 := grown_row hg1 hn0 (by omega); obtain ⟨a1, n1, k1, rfl⟩ : ∃ ao n cap, u1 = .slice ao n cap := (by obtain ⟨_, _, h2, _⟩ := hO1; exact owns_slice h2))
      | (go_at_call 75; refine (takeEnd_any p b ys1 d1 w1 hR1 (Nat.lt_of_lt_of_le hb hG1.size)).mono ?_; rintro e w2 ⟨en, u2, ys2, d2, rfl, rfl, hT2, hR2, hg2⟩; have hG2 := Lb.grownBy_trans hG1 hg2; have hS2 := HX.out w2 hG2; have hr := grown_row hg2 hr1 (by omega); have hO2 := InssO.mono (B' := w.heap.size) (hO1.kept hg2 (by simp; omega)) (by simp); unfold endV; have hbd := build82 a1 n1 k1 en; obtain ⟨r0, r1, r2, r3, r4⟩ := box5' hr; have g0 : w2.frozen? ⟨w.heap.size, 0, none⟩ = false := frozen_of_row _ _ _ _ _ hr; have g1 : w2.frozen? ⟨w.heap.size, 1, none⟩ = false := frozen_of_row _ _ _ _ _ hr; have g2 : w2.frozen? ⟨w.heap.size, 2, none⟩ = false := frozen_of_row _ _ _ _ _ hr; have g3 : w2.frozen? ⟨w.heap.size, 3, none⟩ = false := frozen_of_row _ _ _ _ _ hr; have g4 : w2.frozen? ⟨w.heap.size, 4, none⟩ = false := frozen_of_row _ _ _ _ _ hr; have hSe : (((((w2.setCell ⟨w.heap.size, 0, none⟩ (.slice a1 n1 k1)).setCell ⟨w.heap.size, 1, none⟩ (.int .u8 en.k)).setCell ⟨w.heap.size, 2, none⟩ (.int .i64 en.a)).setCell ⟨w.heap.size, 3, none⟩ (.int .i64 en.to)).setCell ⟨w.heap.size, 4, none⟩ (.int .i64 en.el)).cell? ⟨q0, 0, none⟩ = some (.pointer (some ⟨p, 0, none⟩)) ∧ (((((w2.setCell ⟨w.heap.size, 0, none⟩ (.slice a1 n1 k1)).setCell ⟨w.heap.size, 1, none⟩ (.int .u8 en.k)).setCell ⟨w.heap.size, 2, none⟩ (.int .i64 en.a)).setCell ⟨w.heap.size, 3, none⟩ (.int .i64 en.to)).setCell ⟨w.heap.size, 4, none⟩ (.int .i64 en.el)).cell? ⟨q1, 0, none⟩ = some (.int .i64 most) ∧ (((((w2.setCell ⟨w.heap.size, 0, none⟩ (.slice a1 n1 k1)).setCell ⟨w.heap.size, 1, none⟩ (.int .u8 en.k)).setCell ⟨w.heap.size, 2, none⟩ (.int .i64 en.a)).setCell ⟨w.heap.size, 3, none⟩ (.int .i64 en.to)).setCell ⟨w.heap.size, 4, none⟩ (.int .i64 en.el)).cell? ⟨q2, 0, none⟩ = some (.func (.func 70) #[] #[.pointer (some ⟨q0, 0, none⟩)]) := ⟨set_cell (set_cell (set_cell (set_cell (set_cell hS2.1 (by omega)) (by omega)) (by omega)) (by omega)) (by omega), set_cell (set_cell (set_cell (set_cell (set_cell hS2.2.1 (by omega)) (by omega)) (by omega)) (by omega)) (by omega), set_cell (set_cell (set_cell (set_cell (set_cell hS2.2.2 (by omega)) (by omega)) (by omega)) (by omega)) (by omega)⟩))
  have hre4 := sbox5 (.slice a1 n1 k1) (.int .u8 en.k) (.int .i64 en.a) (.int .i64 en.to) (.int .i64 en.el) hr
  have hGe4 := grown_new hG2 (gbox5 _ w.heap.size (.slice a1 n1 k1) (.int .u8 en.k) (.int .i64 en.a) (.int .i64 en.to) (.int .i64 en.el)) (fun k hk => by simp at hk; omega)
  have hRe4 := rdr_kept hR2 (gbox5 _ w.heap.size (.slice a1 n1 k1) (.int .u8 en.k) (.int .i64 en.a) (.int .i64 en.to) (.int .i64 en.el)) (fun e => by simp at e; omega) (fun e => by simp at e; omega)
  have hOe4 := InssO.keeps hO2 (kbox5 (.slice a1 n1 k1) (.int .u8 en.k) (.int .i64 en.a) (.int .i64 en.to) (.int .i64 en.el) hr (by decide))
  obtain ⟨z0, z1, z2, z3, z4⟩ := box5' hre4
  go_wp2_with fail
  refine bodyPost_ret (v := .agg #[.slice a1 n1 k1, .int .u8 en.k, .int .i64 en.a, .int .i64 en.to, .int .i64 en.el]) (by simp [results, Try.results73, go_sem, z0, z1, z2, z3, z4]) rfl ?_
  exact ⟨⟨is, en⟩, _, _, _, rfl, ⟨_, rfl, hOe4⟩, took_blk hT1 hT2, hRe4, hGe4⟩
set_option maxHeartbeats 1000000 in
set_option maxRecDepth 100000 in
theorem takeBlocks_any (most p b : Nat) (xs : List Int) (code : Int) (w : World) (h : Lb.RdrAt w p b xs code) (hb : b < w.heap.size) (hm : most ≤ 70000) :
    Calls Try.prog 44 #[.pointer (some ⟨p, 0, none⟩), .int .i64 most] w (RdPost w p b (allP most) xs code (fun l u W' => BlksO w.heap.size W' u l)) := by
  have hp := h.lt
  obtain ⟨W3, hW3⟩ : ∃ W, W = ((w.alloc (.cells #[.pointer (some ⟨p, 0, none⟩)] 99)).alloc (.cells #[.int .i64 most] 3)).alloc (.cells #[.func (.func 70) #[] #[.pointer (some ⟨w.heap.size, 0, none⟩)]] 133) := ⟨_, rfl⟩
  have hB1 := bel1' w (.cells #[.pointer (some ⟨p, 0, none⟩)] 99)
  have hB2 := bel1' (w.alloc (.cells #[.pointer (some ⟨p, 0, none⟩)] 99)) (.cells #[.int .i64 most] 3)
  have hB3 := bel1' ((w.alloc (.cells #[.pointer (some ⟨p, 0, none⟩)] 99)).alloc (.cells #[.int .i64 most] 3)) (.cells #[.func (.func 70) #[] #[.pointer (some ⟨w.heap.size, 0, none⟩)]] 133)
  have e1 := heap_alloc_new w (.cells #[.pointer (some ⟨p, 0, none⟩)] 99)
  have e2 := heap_alloc_new (w.alloc (.cells #[.pointer (some ⟨p, 0, none⟩)] 99)) (.cells #[.int .i64 most] 3)
  have e3 := heap_alloc_new ((w.alloc (.cells #[.pointer (some ⟨p, 0, none⟩)] 99)).alloc (.cells #[.int .i64 most] 3)) (.cells #[.func (.func 70) #[] #[.pointer (some ⟨w.heap.size, 0, none⟩)]] 133)
  have f1 : W3.heap[w.heap.size]? = some (Obj.cells #[.pointer (some ⟨p, 0, none⟩)] 99 (0, 0)) := by rw [hW3]; exact (hB3.block _ (row_lt ((hB2.block _ (row_lt e1)).trans e1))).trans ((hB2.block _ (row_lt e1)).trans e1)
  have f2 : W3.heap[w.heap.size + 1]? = some (Obj.cells #[.int .i64 most] 3 (0, 0)) := by rw [hW3]; exact (hB3.block _ (by simp)).trans (by simpa using e2)
  have f3 : W3.heap[w.heap.size + 2]? = some (Obj.cells #[.func (.func 70) #[] #[.pointer (some ⟨w.heap.size, 0, none⟩)]] 133 (0, 0)) := by rw [hW3]; simpa using e3
  have hB : Below w.heap.size w W3 := by rw [hW3]; exact bel_of (bel_of hB1 hB2) hB3
  have hR := h.below hB
  have hz3 : w.heap.size + 2 < W3.heap.size := row_lt f3
  have HC := hide (takeList_blk (blkP most) 16 p b w.heap.size (w.heap.size + 1) (w.heap.size + 2) xs code W3 hR (by omega) (by omega) (fun W ys d hg hR => blkClos most p b w.heap.size (w.heap.size + 1) (w.heap.size + 2) ys d W hR (Nat.lt_of_lt_of_le hb (Nat.le_trans hB.size hg.size)) hm (grown_row hg f1 (by omega)) (grown_row hg f2 (by omega)) (grown_row hg f3 (by omega)) (by omega) (by omega) (by omega)))
  have c0 : W3.cell? ⟨w.heap.size, 0, none⟩ = some (.pointer (some ⟨p, 0, none⟩)) := cell_of f1 rfl
  rw [hW3] at HC c0
  have HB := hide hB
  have HW := hide hW3
  clear h f1 f2 f3 hR hB1 hB2 hB3 e1 e2 e3 hB hz3 hW3
  go_enter Try.func44, Try.ntmps44
  go_wp2_with fail
  refine HC.out.mono ?_
  rintro e w1 ⟨l, u, ys, d, rfl, hO, hT, hR, hg⟩
  obtain ⟨a1, n1, k1, rfl⟩ : ∃ ao n cap, u = .slice ao n cap := (by obtain ⟨_, _, h2, _⟩ := hO; exact owns_slice h2)
  rw [← HW.out] at hO hg
  have hG := Lb.grownBy_trans (Lb.grownBy_below HB.out (some p)) hg
  have hO2 := BlksO.mono (B' := w.heap.size) hO HB.out.size
  clear HC c0 hg hO
  go_wp2_with fail
  go_ret
  exact ⟨l, _, ys, d, rfl, hO2, took_all hT, hR, hG⟩
end Go.Proofs.Ytbjnhicikkjadaa
