/- wire's takeIns: an instruction. -/
import Derived.Test.YtbjnhicikkjadaaTe
namespace Go.Proofs.Ytbjnhicikkjadaa
open Go.RowKit Ir Wire

abbrev zagP : List Int → Pr Int := fun xs => (numP xs).bind fun n r => .inl (Leb.zag n, r)
theorem zag_bind {α : Type} (xs : List Int) (f : Int → List Int → Pr α) : (zagP xs).bind f = (numP xs).bind fun n r => f (Leb.zag n) r := by
  unfold zagP
  cases numP xs <;> rfl
theorem list_bind {α : Type} (xs : List Int) (f : List Int → List Int → Pr α) : (listP (belP 4096) 3 xs).bind f = (belP 4 xs).bind fun c r => (argsP c.toNat r).bind f := by
  unfold listP
  cases belP (3 + 1) xs with
  | inl y => simp only [Pr.bind, argsP_rep]
  | inr c => rfl
theorem took_ins {k : Int} {xs ys zs : List Int} {c0 c1 c2 : Int} {i : Ins} {Q : List Int → Pr Ins} (hk : 1 ≤ k ∧ k ≤ 8) (h0 : Took (belP 256) xs c0 k ys c1) (h1 : Took Q ys c1 i zs c2) (e : ∀ r, Q r = insK k r) : Took insP xs c0 i zs c2 :=
  Took.bind h0 (Took.congr h1 (by simp [hk, e]))
theorem took_ins1 {xs ys zs vs : List Int} {c0 c1 c2 c3 d n : Int} (h0 : Took (belP 256) xs c0 1 ys c1) (h1 : Took (belP 4096) ys c1 d zs c2) (h2 : Took zagP zs c2 n vs c3) : Took insP xs c0 ⟨1, 0, d, 0, 0, n, []⟩ vs c3 :=
  took_ins (Q := fun xs => (belP 4096 xs).bind fun d r => (zagP r).bind fun n r => .inl (⟨1, 0, d, 0, 0, n, []⟩, r)) (by omega) h0 (Took.bind h1 (Took.bind h2 (Took.pure _ _ _))) (fun r => by simp only [zag_bind, insK]; rfl)
theorem took_ins3 {xs ys r1 r2 r3 r4 : List Int} {c0 c1 c2 c3 c4 c5 o d a b : Int} (h0 : Took (belP 256) xs c0 3 ys c1) (h1 : Took (belP 256) ys c1 o r1 c2) (h2 : Took (belP 4096) r1 c2 d r2 c3) (h3 : Took (belP 4096) r2 c3 a r3 c4) (h4 : Took (belP 4096) r3 c4 b r4 c5) : Took insP xs c0 ⟨3, o, d, a, b, 0, []⟩ r4 c5 :=
  took_ins (Q := fun xs => (belP 256 xs).bind fun o r => (belP 4096 r).bind fun d r => (belP 4096 r).bind fun a r => (belP 4096 r).bind fun b r => .inl (⟨3, o, d, a, b, 0, []⟩, r)) (by omega) h0 (Took.bind h1 (Took.bind h2 (Took.bind h3 (Took.bind h4 (Took.pure _ _ _))))) (fun r => by simp [insK])
theorem took_ins5 {xs ys zs vs : List Int} {c0 c1 c2 c3 a b : Int} (h0 : Took (belP 256) xs c0 5 ys c1) (h1 : Took (belP 4096) ys c1 a zs c2) (h2 : Took (belP 4096) zs c2 b vs c3) : Took insP xs c0 ⟨5, 0, 0, a, b, 0, []⟩ vs c3 :=
  took_ins (Q := fun xs => (belP 4096 xs).bind fun a r => (belP 4096 r).bind fun b r => .inl (⟨5, 0, 0, a, b, 0, []⟩, r)) (by omega) h0 (Took.bind h1 (Took.bind h2 (Took.pure _ _ _))) (fun r => by simp [insK])
theorem took_insda {k : Int} (hk : k = 2 ∨ k = 4 ∨ k = 7 ∨ k = 8) {xs ys zs vs : List Int} {c0 c1 c2 c3 d a : Int} (h0 : Took (belP 256) xs c0 k ys c1) (h1 : Took (belP 4096) ys c1 d zs c2) (h2 : Took (belP 4096) zs c2 a vs c3) : Took insP xs c0 ⟨k, 0, d, a, 0, 0, []⟩ vs c3 :=
  took_ins (Q := fun xs => (belP 4096 xs).bind fun d r => (belP 4096 r).bind fun a r => .inl (⟨k, 0, d, a, 0, 0, []⟩, r)) (by omega) h0 (Took.bind h1 (Took.bind h2 (Took.pure _ _ _))) (fun r => by
    unfold insK
    rw [if_neg (by omega), if_neg (by omega), if_neg (by omega), if_neg (by omega)])
theorem took_ins6 {xs ys r1 r2 r3 : List Int} {c0 c1 c2 c3 c4 d n : Int} {l : List Int} (h0 : Took (belP 256) xs c0 6 ys c1) (h1 : Took (belP 4096) ys c1 d r1 c2) (h2 : Took zagP r1 c2 n r2 c3) (h3 : Took (listP (belP 4096) 3) r2 c3 l r3 c4) : Took insP xs c0 ⟨6, 0, d, 0, 0, n, l⟩ r3 c4 :=
  took_ins (Q := fun xs => (belP 4096 xs).bind fun d r => (zagP r).bind fun n r => (listP (belP 4096) 3 r).bind fun l r => .inl (⟨6, 0, d, 0, 0, n, l⟩, r)) (by omega) h0 (Took.bind h1 (Took.bind h2 (Took.bind h3 (Took.pure _ _ _)))) (fun r => by simp only [zag_bind, list_bind, insK]; rfl)
theorem took_ins0 {xs ys : List Int} {c0 c1 k : Int} (h0 : Took (belP 256) xs c0 k ys c1) (hk : ¬ (1 ≤ k ∧ k ≤ 8)) (i : Ins) : Took insP xs c0 i ys (Leb.failed c1 20) :=
  Took.bind h0 (Took.congr (P := fun _ => .inr 20) (Took.fail _ _ _ _ (by decide)) (by simp [hk]))
set_option maxHeartbeats 2000000 in
set_option maxRecDepth 100000 in
theorem takeIns_any (p b : Nat) (xs : List Int) (code : Int) (w : World) (h : Lb.RdrAt w p b xs code) (hb : b < w.heap.size) :
    Calls Try.prog 71 #[.pointer (some ⟨p, 0, none⟩)] w (RdPost w p b insP xs code (fun i u W' => ∃ ua, u = insV i ua ∧ ArgsO w.heap.size W' ua i.args)) := by
  have hp := h.lt
  have hB1 := bel1' w (.cells #[.int .u8 0, .int .u8 0, .int .i64 0, .int .i64 0, .int .i64 0, .int .i64 0, .slice none 0 0] 86)
  have hn := heap_alloc_new w (.cells #[.int .u8 0, .int .u8 0, .int .i64 0, .int .i64 0, .int .i64 0, .int .i64 0, .slice none 0 0] 86)
  have HF := hide (fieldsOf_any p (w.alloc (.cells #[.int .u8 0, .int .u8 0, .int .i64 0, .int .i64 0, .int .i64 0, .int .i64 0, .slice none 0 0] 86)))
  go_enter Try.func71, Try.ntmps71
  go_wp2_with fail
  refine HF.out.mono ?_
  rintro e w1 ⟨rfl, hq0, hqs, hB2⟩
  have hq : w1.heap[w.heap.size + 1]? = some (Obj.cells #[.pointer (some ⟨p, 0, none⟩)] 99 (0, 0)) := by simpa using hq0
  have hr := (hB2.block _ (row_lt hn)).trans hn
  have hR := h.below (bel_of hB1 hB2)
  have hG : w.grownBy w1 (some p) := Lb.grownBy_below (bel_of hB1 hB2) _
  have hz1 : w.heap.size + 1 < w1.heap.size := by simpa using hqs
  clear HF hB1 hB2 h hn hqs hq0
  have HB := hide (below_t p b xs code 256 w1 hR (by omega) (by omega))
  clear hR
  go_wp2_with fail
  refine HB.out.mono ?_
  rintro e w2 ⟨k, u, ys, d, rfl, ⟨rfl, hk0, hk1⟩, hT, hR0, hg⟩
  have hbx := bel1' w2 (.cells #[.int .u8 k, .int .u8 0, .int .i64 0, .int .i64 0, .int .i64 0, .int .i64 0, .slice none 0 0] 86)
  have hR := hR0.below hbx
  have hz2 : w.heap.size + 1 < w2.heap.size := Nat.lt_of_lt_of_le hz1 hg.size
  have hq1 := grown_row hg hq (by omega)
  have hr1 := grown_row hg hr (by omega)
  have hG1 := Lb.grownBy_trans (Lb.grownBy_trans hG hg) (Lb.grownBy_below hbx (some p))
  have hq2 := (hbx.block _ (row_lt hq1)).trans hq1
  have hr2 := (hbx.block _ (row_lt hr1)).trans hr1
  have hn := heap_alloc_new w2 (.cells #[.int .u8 k, .int .u8 0, .int .i64 0, .int .i64 0, .int .i64 0, .int .i64 0, .slice none 0 0] 86)
  clear HB hg hG hq hr hq1 hr1 hR0 hbx
  by_cases k1 : k = 1
  · subst k1
    have HC1 := hide (field_t p b (w.heap.size + 1) ys d (w2.alloc (.cells #[.int .u8 1, .int .u8 0, .int .i64 0, .int .i64 0, .int .i64 0, .int .i64 0, .slice none 0 0] 86)) hR hq2)
    go_wp2_with fail
    refine HC1.out.mono ?_
    rintro e v1 ⟨dd, u1, ys1, d1, rfl, ⟨rfl, hdd0, hdd1⟩, hT1, hR1, hg1⟩
    have hs1 := hg1.size
    have hq_1 := grown_row hg1 hq2 (by omega)
    have hr_1 := grown_row hg1 hr2 (by omega)
    have hn_1 := grown_row hg1 hn (by omega)
    have hG_1 := Lb.grownBy_trans hG1 hg1
    clear HC1 hq2 hr2 hn hG1 hR hg1
    have HC2 := hide (int_t p b ys1 d1 v1 hR1)
    go_wp2_with fail
    refine HC2.out.mono ?_
    rintro e v2 ⟨nn, u2, ys2, d2, rfl, rfl, hT2, hR2, hg2⟩
    have hs2 := hg2.size
    have hq_2 := grown_row hg2 hq_1 (by omega)
    have hr_2 := grown_row hg2 hr_1 (by omega)
    have hn_2 := grown_row hg2 hn_1 (by omega)
    have hG_2 := Lb.grownBy_trans hG_1 hg2
    clear HC2 hq_1 hr_1 hn_1 hG_1 hR1 hg2
    obtain ⟨c0, c1, c2, c3, c4, c5, c6⟩ := box7 hn_2
    have f0 : v2.frozen? ⟨w2.heap.size, 0, none⟩ = false := frozen_of_row _ _ _ _ _ hn_2
    have f1 : v2.frozen? ⟨w2.heap.size, 1, none⟩ = false := frozen_of_row _ _ _ _ _ hn_2
    have f2 : v2.frozen? ⟨w2.heap.size, 2, none⟩ = false := frozen_of_row _ _ _ _ _ hn_2
    have f3 : v2.frozen? ⟨w2.heap.size, 3, none⟩ = false := frozen_of_row _ _ _ _ _ hn_2
    have f4 : v2.frozen? ⟨w2.heap.size, 4, none⟩ = false := frozen_of_row _ _ _ _ _ hn_2
    have f5 : v2.frozen? ⟨w2.heap.size, 5, none⟩ = false := frozen_of_row _ _ _ _ _ hn_2
    have f6 : v2.frozen? ⟨w2.heap.size, 6, none⟩ = false := frozen_of_row _ _ _ _ _ hn_2
    have hq2s0 := (heap_setCell_other _ ⟨w2.heap.size, 2, none⟩ (w.heap.size + 1) (.int .i64 dd) (by simp; omega)).trans hq_2
    have hr2s0 := (heap_setCell_other _ ⟨w2.heap.size, 2, none⟩ w.heap.size (.int .i64 dd) (by simp; omega)).trans hr_2
    have hn2s0 : (v2.setCell ⟨w2.heap.size, 2, none⟩ (.int .i64 dd)).heap[w2.heap.size]? = some (Obj.cells #[.int .u8 1, .int .u8 0, .int .i64 dd, .int .i64 0, .int .i64 0, .int .i64 0, .slice none 0 0] 86 (0, 0)) := heap_setCell_same _ w2.heap.size 2 _ _ (.int .i64 dd) hn_2
    have hG2s0 := grown_new hG_2 (Lb.grownBy_setCell _ w2.heap.size 2 (.int .i64 dd)) (fun k hk => by simp at hk; omega)
    have hR2s0 := rdr_kept hR2 (Lb.grownBy_setCell _ w2.heap.size 2 (.int .i64 dd)) (fun e => by simp at e; omega) (fun e => by simp at e; omega)
    have hq2s1 := (heap_setCell_other _ ⟨w2.heap.size, 5, none⟩ (w.heap.size + 1) (.int .i64 nn) (by simp; omega)).trans hq2s0
    have hr2s1 := (heap_setCell_other _ ⟨w2.heap.size, 5, none⟩ w.heap.size (.int .i64 nn) (by simp; omega)).trans hr2s0
    have hn2s1 : ((v2.setCell ⟨w2.heap.size, 2, none⟩ (.int .i64 dd)).setCell ⟨w2.heap.size, 5, none⟩ (.int .i64 nn)).heap[w2.heap.size]? = some (Obj.cells #[.int .u8 1, .int .u8 0, .int .i64 dd, .int .i64 0, .int .i64 0, .int .i64 nn, .slice none 0 0] 86 (0, 0)) := heap_setCell_same _ w2.heap.size 5 _ _ (.int .i64 nn) hn2s0
    have hG2s1 := grown_new hG2s0 (Lb.grownBy_setCell _ w2.heap.size 5 (.int .i64 nn)) (fun k hk => by simp at hk; omega)
    have hR2s1 := rdr_kept hR2s0 (Lb.grownBy_setCell _ w2.heap.size 5 (.int .i64 nn)) (fun e => by simp at e; omega) (fun e => by simp at e; omega)
    have z0 := hr2s1
    obtain ⟨r0, r1, r2, r3, r4, r5, r6⟩ := box7 hr2s1
    have g0 : ((v2.setCell ⟨w2.heap.size, 2, none⟩ (.int .i64 dd)).setCell ⟨w2.heap.size, 5, none⟩ (.int .i64 nn)).frozen? ⟨w.heap.size, 0, none⟩ = false := frozen_of_row _ _ _ _ _ hr2s1
    have g1 : ((v2.setCell ⟨w2.heap.size, 2, none⟩ (.int .i64 dd)).setCell ⟨w2.heap.size, 5, none⟩ (.int .i64 nn)).frozen? ⟨w.heap.size, 1, none⟩ = false := frozen_of_row _ _ _ _ _ hr2s1
    have g2 : ((v2.setCell ⟨w2.heap.size, 2, none⟩ (.int .i64 dd)).setCell ⟨w2.heap.size, 5, none⟩ (.int .i64 nn)).frozen? ⟨w.heap.size, 2, none⟩ = false := frozen_of_row _ _ _ _ _ hr2s1
    have g3 : ((v2.setCell ⟨w2.heap.size, 2, none⟩ (.int .i64 dd)).setCell ⟨w2.heap.size, 5, none⟩ (.int .i64 nn)).frozen? ⟨w.heap.size, 3, none⟩ = false := frozen_of_row _ _ _ _ _ hr2s1
    have g4 : ((v2.setCell ⟨w2.heap.size, 2, none⟩ (.int .i64 dd)).setCell ⟨w2.heap.size, 5, none⟩ (.int .i64 nn)).frozen? ⟨w.heap.size, 4, none⟩ = false := frozen_of_row _ _ _ _ _ hr2s1
    have g5 : ((v2.setCell ⟨w2.heap.size, 2, none⟩ (.int .i64 dd)).setCell ⟨w2.heap.size, 5, none⟩ (.int .i64 nn)).frozen? ⟨w.heap.size, 5, none⟩ = false := frozen_of_row _ _ _ _ _ hr2s1
    have g6 : ((v2.setCell ⟨w2.heap.size, 2, none⟩ (.int .i64 dd)).setCell ⟨w2.heap.size, 5, none⟩ (.int .i64 nn)).frozen? ⟨w.heap.size, 6, none⟩ = false := frozen_of_row _ _ _ _ _ hr2s1
    obtain ⟨b0, b1, b2, b3, b4, b5, b6⟩ := box7 hn2s1
    have hRow := hide (sbox7 (.int .u8 1) (.int .u8 0) (.int .i64 dd) (.int .i64 0) (.int .i64 0) (.int .i64 nn) (.slice none 0 0) hr2s1)
    have hFin := hide (And.intro (rdr_kept hR2s1 (gbox7 _ w.heap.size (.int .u8 1) (.int .u8 0) (.int .i64 dd) (.int .i64 0) (.int .i64 0) (.int .i64 nn) (.slice none 0 0)) (fun e => by simp at e; omega) (fun e => by simp at e; omega)) (grown_new hG2s1 (gbox7 _ w.heap.size (.int .u8 1) (.int .u8 0) (.int .i64 dd) (.int .i64 0) (.int .i64 0) (.int .i64 nn) (.slice none 0 0)) (fun k hk => by simp at hk; omega)))
    clear z0
    go_wp2_with fail
    obtain ⟨q0, q1, q2, q3, q4, q5, q6⟩ := box7 hRow.out
    refine bodyPost_ret (v := .agg #[.int .u8 1, .int .u8 0, .int .i64 dd, .int .i64 0, .int .i64 0, .int .i64 nn, .slice none 0 0]) (by simp [results, Try.results71, go_sem, q0, q1, q2, q3, q4, q5, q6]) rfl ?_
    exact ⟨⟨1, 0, dd, 0, 0, nn, []⟩, _, _, _, rfl, ⟨_, rfl, ArgsO.nil _ _⟩, took_ins1 hT hT1 hT2, hFin.out.1, hFin.out.2⟩
  by_cases k2 : k = 2
  · subst k2
    have HC1 := hide (field_t p b (w.heap.size + 1) ys d (w2.alloc (.cells #[.int .u8 2, .int .u8 0, .int .i64 0, .int .i64 0, .int .i64 0, .int .i64 0, .slice none 0 0] 86)) hR hq2)
    go_wp2_with fail
    refine HC1.out.mono ?_
    rintro e v1 ⟨dd, u1, ys1, d1, rfl, ⟨rfl, hdd0, hdd1⟩, hT1, hR1, hg1⟩
    have hs1 := hg1.size
    have hq_1 := grown_row hg1 hq2 (by omega)
    have hr_1 := grown_row hg1 hr2 (by omega)
    have hn_1 := grown_row hg1 hn (by omega)
    have hG_1 := Lb.grownBy_trans hG1 hg1
    clear HC1 hq2 hr2 hn hG1 hR hg1
    have HC2 := hide (field_t p b (w.heap.size + 1) ys1 d1 v1 hR1 hq_1)
    go_wp2_with fail
    refine HC2.out.mono ?_
    rintro e v2 ⟨aa, u2, ys2, d2, rfl, ⟨rfl, haa0, haa1⟩, hT2, hR2, hg2⟩
    have hs2 := hg2.size
    have hq_2 := grown_row hg2 hq_1 (by omega)
    have hr_2 := grown_row hg2 hr_1 (by omega)
    have hn_2 := grown_row hg2 hn_1 (by omega)
    have hG_2 := Lb.grownBy_trans hG_1 hg2
    clear HC2 hq_1 hr_1 hn_1 hG_1 hR1 hg2
    obtain ⟨c0, c1, c2, c3, c4, c5, c6⟩ := box7 hn_2
    have f0 : v2.frozen? ⟨w2.heap.size, 0, none⟩ = false := frozen_of_row _ _ _ _ _ hn_2
    have f1 : v2.frozen? ⟨w2.heap.size, 1, none⟩ = false := frozen_of_row _ _ _ _ _ hn_2
    have f2 : v2.frozen? ⟨w2.heap.size, 2, none⟩ = false := frozen_of_row _ _ _ _ _ hn_2
    have f3 : v2.frozen? ⟨w2.heap.size, 3, none⟩ = false := frozen_of_row _ _ _ _ _ hn_2
    have f4 : v2.frozen? ⟨w2.heap.size, 4, none⟩ = false := frozen_of_row _ _ _ _ _ hn_2
    have f5 : v2.frozen? ⟨w2.heap.size, 5, none⟩ = false := frozen_of_row _ _ _ _ _ hn_2
    have f6 : v2.frozen? ⟨w2.heap.size, 6, none⟩ = false := frozen_of_row _ _ _ _ _ hn_2
    have hq2s0 := (heap_setCell_other _ ⟨w2.heap.size, 2, none⟩ (w.heap.size + 1) (.int .i64 dd) (by simp; omega)).trans hq_2
    have hr2s0 := (heap_setCell_other _ ⟨w2.heap.size, 2, none⟩ w.heap.size (.int .i64 dd) (by simp; omega)).trans hr_2
    have hn2s0 : (v2.setCell ⟨w2.heap.size, 2, none⟩ (.int .i64 dd)).heap[w2.heap.size]? = some (Obj.cells #[.int .u8 2, .int .u8 0, .int .i64 dd, .int .i64 0, .int .i64 0, .int .i64 0, .slice none 0 0] 86 (0, 0)) := heap_setCell_same _ w2.heap.size 2 _ _ (.int .i64 dd) hn_2
    have hG2s0 := grown_new hG_2 (Lb.grownBy_setCell _ w2.heap.size 2 (.int .i64 dd)) (fun k hk => by simp at hk; omega)
    have hR2s0 := rdr_kept hR2 (Lb.grownBy_setCell _ w2.heap.size 2 (.int .i64 dd)) (fun e => by simp at e; omega) (fun e => by simp at e; omega)
    have hq2s1 := (heap_setCell_other _ ⟨w2.heap.size, 3, none⟩ (w.heap.size + 1) (.int .i64 aa) (by simp; omega)).trans hq2s0
    have hr2s1 := (heap_setCell_other _ ⟨w2.heap.size, 3, none⟩ w.heap.size (.int .i64 aa) (by simp; omega)).trans hr2s0
    have hn2s1 : ((v2.setCell ⟨w2.heap.size, 2, none⟩ (.int .i64 dd)).setCell ⟨w2.heap.size, 3, none⟩ (.int .i64 aa)).heap[w2.heap.size]? = some (Obj.cells #[.int .u8 2, .int .u8 0, .int .i64 dd, .int .i64 aa, .int .i64 0, .int .i64 0, .slice none 0 0] 86 (0, 0)) := heap_setCell_same _ w2.heap.size 3 _ _ (.int .i64 aa) hn2s0
    have hG2s1 := grown_new hG2s0 (Lb.grownBy_setCell _ w2.heap.size 3 (.int .i64 aa)) (fun k hk => by simp at hk; omega)
    have hR2s1 := rdr_kept hR2s0 (Lb.grownBy_setCell _ w2.heap.size 3 (.int .i64 aa)) (fun e => by simp at e; omega) (fun e => by simp at e; omega)
    have z0 := hr2s1
    obtain ⟨r0, r1, r2, r3, r4, r5, r6⟩ := box7 hr2s1
    have g0 : ((v2.setCell ⟨w2.heap.size, 2, none⟩ (.int .i64 dd)).setCell ⟨w2.heap.size, 3, none⟩ (.int .i64 aa)).frozen? ⟨w.heap.size, 0, none⟩ = false := frozen_of_row _ _ _ _ _ hr2s1
    have g1 : ((v2.setCell ⟨w2.heap.size, 2, none⟩ (.int .i64 dd)).setCell ⟨w2.heap.size, 3, none⟩ (.int .i64 aa)).frozen? ⟨w.heap.size, 1, none⟩ = false := frozen_of_row _ _ _ _ _ hr2s1
    have g2 : ((v2.setCell ⟨w2.heap.size, 2, none⟩ (.int .i64 dd)).setCell ⟨w2.heap.size, 3, none⟩ (.int .i64 aa)).frozen? ⟨w.heap.size, 2, none⟩ = false := frozen_of_row _ _ _ _ _ hr2s1
    have g3 : ((v2.setCell ⟨w2.heap.size, 2, none⟩ (.int .i64 dd)).setCell ⟨w2.heap.size, 3, none⟩ (.int .i64 aa)).frozen? ⟨w.heap.size, 3, none⟩ = false := frozen_of_row _ _ _ _ _ hr2s1
    have g4 : ((v2.setCell ⟨w2.heap.size, 2, none⟩ (.int .i64 dd)).setCell ⟨w2.heap.size, 3, none⟩ (.int .i64 aa)).frozen? ⟨w.heap.size, 4, none⟩ = false := frozen_of_row _ _ _ _ _ hr2s1
    have g5 : ((v2.setCell ⟨w2.heap.size, 2, none⟩ (.int .i64 dd)).setCell ⟨w2.heap.size, 3, none⟩ (.int .i64 aa)).frozen? ⟨w.heap.size, 5, none⟩ = false := frozen_of_row _ _ _ _ _ hr2s1
    have g6 : ((v2.setCell ⟨w2.heap.size, 2, none⟩ (.int .i64 dd)).setCell ⟨w2.heap.size, 3, none⟩ (.int .i64 aa)).frozen? ⟨w.heap.size, 6, none⟩ = false := frozen_of_row _ _ _ _ _ hr2s1
    obtain ⟨b0, b1, b2, b3, b4, b5, b6⟩ := box7 hn2s1
    have hRow := hide (sbox7 (.int .u8 2) (.int .u8 0) (.int .i64 dd) (.int .i64 aa) (.int .i64 0) (.int .i64 0) (.slice none 0 0) hr2s1)
    have hFin := hide (And.intro (rdr_kept hR2s1 (gbox7 _ w.heap.size (.int .u8 2) (.int .u8 0) (.int .i64 dd) (.int .i64 aa) (.int .i64 0) (.int .i64 0) (.slice none 0 0)) (fun e => by simp at e; omega) (fun e => by simp at e; omega)) (grown_new hG2s1 (gbox7 _ w.heap.size (.int .u8 2) (.int .u8 0) (.int .i64 dd) (.int .i64 aa) (.int .i64 0) (.int .i64 0) (.slice none 0 0)) (fun k hk => by simp at hk; omega)))
    clear z0
    go_wp2_with fail
    obtain ⟨q0, q1, q2, q3, q4, q5, q6⟩ := box7 hRow.out
    refine bodyPost_ret (v := .agg #[.int .u8 2, .int .u8 0, .int .i64 dd, .int .i64 aa, .int .i64 0, .int .i64 0, .slice none 0 0]) (by simp [results, Try.results71, go_sem, q0, q1, q2, q3, q4, q5, q6]) rfl ?_
    exact ⟨⟨2, 0, dd, aa, 0, 0, []⟩, _, _, _, rfl, ⟨_, rfl, ArgsO.nil _ _⟩, took_insda (by omega) hT hT1 hT2, hFin.out.1, hFin.out.2⟩
  by_cases k4 : k = 4
  · subst k4
    have HC1 := hide (field_t p b (w.heap.size + 1) ys d (w2.alloc (.cells #[.int .u8 4, .int .u8 0, .int .i64 0, .int .i64 0, .int .i64 0, .int .i64 0, .slice none 0 0] 86)) hR hq2)
    go_wp2_with fail
    refine HC1.out.mono ?_
    rintro e v1 ⟨dd, u1, ys1, d1, rfl, ⟨rfl, hdd0, hdd1⟩, hT1, hR1, hg1⟩
    have hs1 := hg1.size
    have hq_1 := grown_row hg1 hq2 (by omega)
    have hr_1 := grown_row hg1 hr2 (by omega)
    have hn_1 := grown_row hg1 hn (by omega)
    have hG_1 := Lb.grownBy_trans hG1 hg1
    clear HC1 hq2 hr2 hn hG1 hR hg1
    have HC2 := hide (field_t p b (w.heap.size + 1) ys1 d1 v1 hR1 hq_1)
    go_wp2_with fail
    refine HC2.out.mono ?_
    rintro e v2 ⟨aa, u2, ys2, d2, rfl, ⟨rfl, haa0, haa1⟩, hT2, hR2, hg2⟩
    have hs2 := hg2.size
    have hq_2 := grown_row hg2 hq_1 (by omega)
    have hr_2 := grown_row hg2 hr_1 (by omega)
    have hn_2 := grown_row hg2 hn_1 (by omega)
    have hG_2 := Lb.grownBy_trans hG_1 hg2
    clear HC2 hq_1 hr_1 hn_1 hG_1 hR1 hg2
    obtain ⟨c0, c1, c2, c3, c4, c5, c6⟩ := box7 hn_2
    have f0 : v2.frozen? ⟨w2.heap.size, 0, none⟩ = false := frozen_of_row _ _ _ _ _ hn_2
    have f1 : v2.frozen? ⟨w2.heap.size, 1, none⟩ = false := frozen_of_row _ _ _ _ _ hn_2
    have f2 : v2.frozen? ⟨w2.heap.size, 2, none⟩ = false := frozen_of_row _ _ _ _ _ hn_2
    have f3 : v2.frozen? ⟨w2.heap.size, 3, none⟩ = false := frozen_of_row _ _ _ _ _ hn_2
    have f4 : v2.frozen? ⟨w2.heap.size, 4, none⟩ = false := frozen_of_row _ _ _ _ _ hn_2
    have f5 : v2.frozen? ⟨w2.heap.size, 5, none⟩ = false := frozen_of_row _ _ _ _ _ hn_2
    have f6 : v2.frozen? ⟨w2.heap.size, 6, none⟩ = false := frozen_of_row _ _ _ _ _ hn_2
    have hq2s0 := (heap_setCell_other _ ⟨w2.heap.size, 2, none⟩ (w.heap.size + 1) (.int .i64 dd) (by simp; omega)).trans hq_2
    have hr2s0 := (heap_setCell_other _ ⟨w2.heap.size, 2, none⟩ w.heap.size (.int .i64 dd) (by simp; omega)).trans hr_2
    have hn2s0 : (v2.setCell ⟨w2.heap.size, 2, none⟩ (.int .i64 dd)).heap[w2.heap.size]? = some (Obj.cells #[.int .u8 4, .int .u8 0, .int .i64 dd, .int .i64 0, .int .i64 0, .int .i64 0, .slice none 0 0] 86 (0, 0)) := heap_setCell_same _ w2.heap.size 2 _ _ (.int .i64 dd) hn_2
    have hG2s0 := grown_new hG_2 (Lb.grownBy_setCell _ w2.heap.size 2 (.int .i64 dd)) (fun k hk => by simp at hk; omega)
    have hR2s0 := rdr_kept hR2 (Lb.grownBy_setCell _ w2.heap.size 2 (.int .i64 dd)) (fun e => by simp at e; omega) (fun e => by simp at e; omega)
    have hq2s1 := (heap_setCell_other _ ⟨w2.heap.size, 3, none⟩ (w.heap.size + 1) (.int .i64 aa) (by simp; omega)).trans hq2s0
    have hr2s1 := (heap_setCell_other _ ⟨w2.heap.size, 3, none⟩ w.heap.size (.int .i64 aa) (by simp; omega)).trans hr2s0
    have hn2s1 : ((v2.setCell ⟨w2.heap.size, 2, none⟩ (.int .i64 dd)).setCell ⟨w2.heap.size, 3, none⟩ (.int .i64 aa)).heap[w2.heap.size]? = some (Obj.cells #[.int .u8 4, .int .u8 0, .int .i64 dd, .int .i64 aa, .int .i64 0, .int .i64 0, .slice none 0 0] 86 (0, 0)) := heap_setCell_same _ w2.heap.size 3 _ _ (.int .i64 aa) hn2s0
    have hG2s1 := grown_new hG2s0 (Lb.grownBy_setCell _ w2.heap.size 3 (.int .i64 aa)) (fun k hk => by simp at hk; omega)
    have hR2s1 := rdr_kept hR2s0 (Lb.grownBy_setCell _ w2.heap.size 3 (.int .i64 aa)) (fun e => by simp at e; omega) (fun e => by simp at e; omega)
    have z0 := hr2s1
    obtain ⟨r0, r1, r2, r3, r4, r5, r6⟩ := box7 hr2s1
    have g0 : ((v2.setCell ⟨w2.heap.size, 2, none⟩ (.int .i64 dd)).setCell ⟨w2.heap.size, 3, none⟩ (.int .i64 aa)).frozen? ⟨w.heap.size, 0, none⟩ = false := frozen_of_row _ _ _ _ _ hr2s1
    have g1 : ((v2.setCell ⟨w2.heap.size, 2, none⟩ (.int .i64 dd)).setCell ⟨w2.heap.size, 3, none⟩ (.int .i64 aa)).frozen? ⟨w.heap.size, 1, none⟩ = false := frozen_of_row _ _ _ _ _ hr2s1
    have g2 : ((v2.setCell ⟨w2.heap.size, 2, none⟩ (.int .i64 dd)).setCell ⟨w2.heap.size, 3, none⟩ (.int .i64 aa)).frozen? ⟨w.heap.size, 2, none⟩ = false := frozen_of_row _ _ _ _ _ hr2s1
    have g3 : ((v2.setCell ⟨w2.heap.size, 2, none⟩ (.int .i64 dd)).setCell ⟨w2.heap.size, 3, none⟩ (.int .i64 aa)).frozen? ⟨w.heap.size, 3, none⟩ = false := frozen_of_row _ _ _ _ _ hr2s1
    have g4 : ((v2.setCell ⟨w2.heap.size, 2, none⟩ (.int .i64 dd)).setCell ⟨w2.heap.size, 3, none⟩ (.int .i64 aa)).frozen? ⟨w.heap.size, 4, none⟩ = false := frozen_of_row _ _ _ _ _ hr2s1
    have g5 : ((v2.setCell ⟨w2.heap.size, 2, none⟩ (.int .i64 dd)).setCell ⟨w2.heap.size, 3, none⟩ (.int .i64 aa)).frozen? ⟨w.heap.size, 5, none⟩ = false := frozen_of_row _ _ _ _ _ hr2s1
    have g6 : ((v2.setCell ⟨w2.heap.size, 2, none⟩ (.int .i64 dd)).setCell ⟨w2.heap.size, 3, none⟩ (.int .i64 aa)).frozen? ⟨w.heap.size, 6, none⟩ = false := frozen_of_row _ _ _ _ _ hr2s1
    obtain ⟨b0, b1, b2, b3, b4, b5, b6⟩ := box7 hn2s1
    have hRow := hide (sbox7 (.int .u8 4) (.int .u8 0) (.int .i64 dd) (.int .i64 aa) (.int .i64 0) (.int .i64 0) (.slice none 0 0) hr2s1)
    have hFin := hide (And.intro (rdr_kept hR2s1 (gbox7 _ w.heap.size (.int .u8 4) (.int .u8 0) (.int .i64 dd) (.int .i64 aa) (.int .i64 0) (.int .i64 0) (.slice none 0 0)) (fun e => by simp at e; omega) (fun e => by simp at e; omega)) (grown_new hG2s1 (gbox7 _ w.heap.size (.int .u8 4) (.int .u8 0) (.int .i64 dd) (.int .i64 aa) (.int .i64 0) (.int .i64 0) (.slice none 0 0)) (fun k hk => by simp at hk; omega)))
    clear z0
    go_wp2_with fail
    obtain ⟨q0, q1, q2, q3, q4, q5, q6⟩ := box7 hRow.out
    refine bodyPost_ret (v := .agg #[.int .u8 4, .int .u8 0, .int .i64 dd, .int .i64 aa, .int .i64 0, .int .i64 0, .slice none 0 0]) (by simp [results, Try.results71, go_sem, q0, q1, q2, q3, q4, q5, q6]) rfl ?_
    exact ⟨⟨4, 0, dd, aa, 0, 0, []⟩, _, _, _, rfl, ⟨_, rfl, ArgsO.nil _ _⟩, took_insda (by omega) hT hT1 hT2, hFin.out.1, hFin.out.2⟩
  by_cases k7 : k = 7
  · subst k7
    have HC1 := hide (field_t p b (w.heap.size + 1) ys d (w2.alloc (.cells #[.int .u8 7, .int .u8 0, .int .i64 0, .int .i64 0, .int .i64 0, .int .i64 0, .slice none 0 0] 86)) hR hq2)
    go_wp2_with fail
    refine HC1.out.mono ?_
    rintro e v1 ⟨dd, u1, ys1, d1, rfl, ⟨rfl, hdd0, hdd1⟩, hT1, hR1, hg1⟩
    have hs1 := hg1.size
    have hq_1 := grown_row hg1 hq2 (by omega)
    have hr_1 := grown_row hg1 hr2 (by omega)
    have hn_1 := grown_row hg1 hn (by omega)
    have hG_1 := Lb.grownBy_trans hG1 hg1
    clear HC1 hq2 hr2 hn hG1 hR hg1
    have HC2 := hide (field_t p b (w.heap.size + 1) ys1 d1 v1 hR1 hq_1)
    go_wp2_with fail
    refine HC2.out.mono ?_
    rintro e v2 ⟨aa, u2, ys2, d2, rfl, ⟨rfl, haa0, haa1⟩, hT2, hR2, hg2⟩
    have hs2 := hg2.size
    have hq_2 := grown_row hg2 hq_1 (by omega)
    have hr_2 := grown_row hg2 hr_1 (by omega)
    have hn_2 := grown_row hg2 hn_1 (by omega)
    have hG_2 := Lb.grownBy_trans hG_1 hg2
    clear HC2 hq_1 hr_1 hn_1 hG_1 hR1 hg2
    obtain ⟨c0, c1, c2, c3, c4, c5, c6⟩ := box7 hn_2
    have f0 : v2.frozen? ⟨w2.heap.size, 0, none⟩ = false := frozen_of_row _ _ _ _ _ hn_2
    have f1 : v2.frozen? ⟨w2.heap.size, 1, none⟩ = false := frozen_of_row _ _ _ _ _ hn_2
    have f2 : v2.frozen? ⟨w2.heap.size, 2, none⟩ = false := frozen_of_row _ _ _ _ _ hn_2
    have f3 : v2.frozen? ⟨w2.heap.size, 3, none⟩ = false := frozen_of_row _ _ _ _ _ hn_2
    have f4 : v2.frozen? ⟨w2.heap.size, 4, none⟩ = false := frozen_of_row _ _ _ _ _ hn_2
    have f5 : v2.frozen? ⟨w2.heap.size, 5, none⟩ = false := frozen_of_row _ _ _ _ _ hn_2
    have f6 : v2.frozen? ⟨w2.heap.size, 6, none⟩ = false := frozen_of_row _ _ _ _ _ hn_2
    have hq2s0 := (heap_setCell_other _ ⟨w2.heap.size, 2, none⟩ (w.heap.size + 1) (.int .i64 dd) (by simp; omega)).trans hq_2
    have hr2s0 := (heap_setCell_other _ ⟨w2.heap.size, 2, none⟩ w.heap.size (.int .i64 dd) (by simp; omega)).trans hr_2
    have hn2s0 : (v2.setCell ⟨w2.heap.size, 2, none⟩ (.int .i64 dd)).heap[w2.heap.size]? = some (Obj.cells #[.int .u8 7, .int .u8 0, .int .i64 dd, .int .i64 0, .int .i64 0, .int .i64 0, .slice none 0 0] 86 (0, 0)) := heap_setCell_same _ w2.heap.size 2 _ _ (.int .i64 dd) hn_2
    have hG2s0 := grown_new hG_2 (Lb.grownBy_setCell _ w2.heap.size 2 (.int .i64 dd)) (fun k hk => by simp at hk; omega)
    have hR2s0 := rdr_kept hR2 (Lb.grownBy_setCell _ w2.heap.size 2 (.int .i64 dd)) (fun e => by simp at e; omega) (fun e => by simp at e; omega)
    have hq2s1 := (heap_setCell_other _ ⟨w2.heap.size, 3, none⟩ (w.heap.size + 1) (.int .i64 aa) (by simp; omega)).trans hq2s0
    have hr2s1 := (heap_setCell_other _ ⟨w2.heap.size, 3, none⟩ w.heap.size (.int .i64 aa) (by simp; omega)).trans hr2s0
    have hn2s1 : ((v2.setCell ⟨w2.heap.size, 2, none⟩ (.int .i64 dd)).setCell ⟨w2.heap.size, 3, none⟩ (.int .i64 aa)).heap[w2.heap.size]? = some (Obj.cells #[.int .u8 7, .int .u8 0, .int .i64 dd, .int .i64 aa, .int .i64 0, .int .i64 0, .slice none 0 0] 86 (0, 0)) := heap_setCell_same _ w2.heap.size 3 _ _ (.int .i64 aa) hn2s0
    have hG2s1 := grown_new hG2s0 (Lb.grownBy_setCell _ w2.heap.size 3 (.int .i64 aa)) (fun k hk => by simp at hk; omega)
    have hR2s1 := rdr_kept hR2s0 (Lb.grownBy_setCell _ w2.heap.size 3 (.int .i64 aa)) (fun e => by simp at e; omega) (fun e => by simp at e; omega)
    have z0 := hr2s1
    obtain ⟨r0, r1, r2, r3, r4, r5, r6⟩ := box7 hr2s1
    have g0 : ((v2.setCell ⟨w2.heap.size, 2, none⟩ (.int .i64 dd)).setCell ⟨w2.heap.size, 3, none⟩ (.int .i64 aa)).frozen? ⟨w.heap.size, 0, none⟩ = false := frozen_of_row _ _ _ _ _ hr2s1
    have g1 : ((v2.setCell ⟨w2.heap.size, 2, none⟩ (.int .i64 dd)).setCell ⟨w2.heap.size, 3, none⟩ (.int .i64 aa)).frozen? ⟨w.heap.size, 1, none⟩ = false := frozen_of_row _ _ _ _ _ hr2s1
    have g2 : ((v2.setCell ⟨w2.heap.size, 2, none⟩ (.int .i64 dd)).setCell ⟨w2.heap.size, 3, none⟩ (.int .i64 aa)).frozen? ⟨w.heap.size, 2, none⟩ = false := frozen_of_row _ _ _ _ _ hr2s1
    have g3 : ((v2.setCell ⟨w2.heap.size, 2, none⟩ (.int .i64 dd)).setCell ⟨w2.heap.size, 3, none⟩ (.int .i64 aa)).frozen? ⟨w.heap.size, 3, none⟩ = false := frozen_of_row _ _ _ _ _ hr2s1
    have g4 : ((v2.setCell ⟨w2.heap.size, 2, none⟩ (.int .i64 dd)).setCell ⟨w2.heap.size, 3, none⟩ (.int .i64 aa)).frozen? ⟨w.heap.size, 4, none⟩ = false := frozen_of_row _ _ _ _ _ hr2s1
    have g5 : ((v2.setCell ⟨w2.heap.size, 2, none⟩ (.int .i64 dd)).setCell ⟨w2.heap.size, 3, none⟩ (.int .i64 aa)).frozen? ⟨w.heap.size, 5, none⟩ = false := frozen_of_row _ _ _ _ _ hr2s1
    have g6 : ((v2.setCell ⟨w2.heap.size, 2, none⟩ (.int .i64 dd)).setCell ⟨w2.heap.size, 3, none⟩ (.int .i64 aa)).frozen? ⟨w.heap.size, 6, none⟩ = false := frozen_of_row _ _ _ _ _ hr2s1
    obtain ⟨b0, b1, b2, b3, b4, b5, b6⟩ := box7 hn2s1
    have hRow := hide (sbox7 (.int .u8 7) (.int .u8 0) (.int .i64 dd) (.int .i64 aa) (.int .i64 0) (.int .i64 0) (.slice none 0 0) hr2s1)
    have hFin := hide (And.intro (rdr_kept hR2s1 (gbox7 _ w.heap.size (.int .u8 7) (.int .u8 0) (.int .i64 dd) (.int .i64 aa) (.int .i64 0) (.int .i64 0) (.slice none 0 0)) (fun e => by simp at e; omega) (fun e => by simp at e; omega)) (grown_new hG2s1 (gbox7 _ w.heap.size (.int .u8 7) (.int .u8 0) (.int .i64 dd) (.int .i64 aa) (.int .i64 0) (.int .i64 0) (.slice none 0 0)) (fun k hk => by simp at hk; omega)))
    clear z0
    go_wp2_with fail
    obtain ⟨q0, q1, q2, q3, q4, q5, q6⟩ := box7 hRow.out
    refine bodyPost_ret (v := .agg #[.int .u8 7, .int .u8 0, .int .i64 dd, .int .i64 aa, .int .i64 0, .int .i64 0, .slice none 0 0]) (by simp [results, Try.results71, go_sem, q0, q1, q2, q3, q4, q5, q6]) rfl ?_
    exact ⟨⟨7, 0, dd, aa, 0, 0, []⟩, _, _, _, rfl, ⟨_, rfl, ArgsO.nil _ _⟩, took_insda (by omega) hT hT1 hT2, hFin.out.1, hFin.out.2⟩
  by_cases k8 : k = 8
  · subst k8
    have HC1 := hide (field_t p b (w.heap.size + 1) ys d (w2.alloc (.cells #[.int .u8 8, .int .u8 0, .int .i64 0, .int .i64 0, .int .i64 0, .int .i64 0, .slice none 0 0] 86)) hR hq2)
    go_wp2_with fail
    refine HC1.out.mono ?_
    rintro e v1 ⟨dd, u1, ys1, d1, rfl, ⟨rfl, hdd0, hdd1⟩, hT1, hR1, hg1⟩
    have hs1 := hg1.size
    have hq_1 := grown_row hg1 hq2 (by omega)
    have hr_1 := grown_row hg1 hr2 (by omega)
    have hn_1 := grown_row hg1 hn (by omega)
    have hG_1 := Lb.grownBy_trans hG1 hg1
    clear HC1 hq2 hr2 hn hG1 hR hg1
    have HC2 := hide (field_t p b (w.heap.size + 1) ys1 d1 v1 hR1 hq_1)
    go_wp2_with fail
    refine HC2.out.mono ?_
    rintro e v2 ⟨aa, u2, ys2, d2, rfl, ⟨rfl, haa0, haa1⟩, hT2, hR2, hg2⟩
    have hs2 := hg2.size
    have hq_2 := grown_row hg2 hq_1 (by omega)
    have hr_2 := grown_row hg2 hr_1 (by omega)
    have hn_2 := grown_row hg2 hn_1 (by omega)
    have hG_2 := Lb.grownBy_trans hG_1 hg2
    clear HC2 hq_1 hr_1 hn_1 hG_1 hR1 hg2
    obtain ⟨c0, c1, c2, c3, c4, c5, c6⟩ := box7 hn_2
    have f0 : v2.frozen? ⟨w2.heap.size, 0, none⟩ = false := frozen_of_row _ _ _ _ _ hn_2
    have f1 : v2.frozen? ⟨w2.heap.size, 1, none⟩ = false := frozen_of_row _ _ _ _ _ hn_2
    have f2 : v2.frozen? ⟨w2.heap.size, 2, none⟩ = false := frozen_of_row _ _ _ _ _ hn_2
    have f3 : v2.frozen? ⟨w2.heap.size, 3, none⟩ = false := frozen_of_row _ _ _ _ _ hn_2
    have f4 : v2.frozen? ⟨w2.heap.size, 4, none⟩ = false := frozen_of_row _ _ _ _ _ hn_2
    have f5 : v2.frozen? ⟨w2.heap.size, 5, none⟩ = false := frozen_of_row _ _ _ _ _ hn_2
    have f6 : v2.frozen? ⟨w2.heap.size, 6, none⟩ = false := frozen_of_row _ _ _ _ _ hn_2
    have hq2s0 := (heap_setCell_other _ ⟨w2.heap.size, 2, none⟩ (w.heap.size + 1) (.int .i64 dd) (by simp; omega)).trans hq_2
    have hr2s0 := (heap_setCell_other _ ⟨w2.heap.size, 2, none⟩ w.heap.size (.int .i64 dd) (by simp; omega)).trans hr_2
    have hn2s0 : (v2.setCell ⟨w2.heap.size, 2, none⟩ (.int .i64 dd)).heap[w2.heap.size]? = some (Obj.cells #[.int .u8 8, .int .u8 0, .int .i64 dd, .int .i64 0, .int .i64 0, .int .i64 0, .slice none 0 0] 86 (0, 0)) := heap_setCell_same _ w2.heap.size 2 _ _ (.int .i64 dd) hn_2
    have hG2s0 := grown_new hG_2 (Lb.grownBy_setCell _ w2.heap.size 2 (.int .i64 dd)) (fun k hk => by simp at hk; omega)
    have hR2s0 := rdr_kept hR2 (Lb.grownBy_setCell _ w2.heap.size 2 (.int .i64 dd)) (fun e => by simp at e; omega) (fun e => by simp at e; omega)
    have hq2s1 := (heap_setCell_other _ ⟨w2.heap.size, 3, none⟩ (w.heap.size + 1) (.int .i64 aa) (by simp; omega)).trans hq2s0
    have hr2s1 := (heap_setCell_other _ ⟨w2.heap.size, 3, none⟩ w.heap.size (.int .i64 aa) (by simp; omega)).trans hr2s0
    have hn2s1 : ((v2.setCell ⟨w2.heap.size, 2, none⟩ (.int .i64 dd)).setCell ⟨w2.heap.size, 3, none⟩ (.int .i64 aa)).heap[w2.heap.size]? = some (Obj.cells #[.int .u8 8, .int .u8 0, .int .i64 dd, .int .i64 aa, .int .i64 0, .int .i64 0, .slice none 0 0] 86 (0, 0)) := heap_setCell_same _ w2.heap.size 3 _ _ (.int .i64 aa) hn2s0
    have hG2s1 := grown_new hG2s0 (Lb.grownBy_setCell _ w2.heap.size 3 (.int .i64 aa)) (fun k hk => by simp at hk; omega)
    have hR2s1 := rdr_kept hR2s0 (Lb.grownBy_setCell _ w2.heap.size 3 (.int .i64 aa)) (fun e => by simp at e; omega) (fun e => by simp at e; omega)
    have z0 := hr2s1
    obtain ⟨r0, r1, r2, r3, r4, r5, r6⟩ := box7 hr2s1
    have g0 : ((v2.setCell ⟨w2.heap.size, 2, none⟩ (.int .i64 dd)).setCell ⟨w2.heap.size, 3, none⟩ (.int .i64 aa)).frozen? ⟨w.heap.size, 0, none⟩ = false := frozen_of_row _ _ _ _ _ hr2s1
    have g1 : ((v2.setCell ⟨w2.heap.size, 2, none⟩ (.int .i64 dd)).setCell ⟨w2.heap.size, 3, none⟩ (.int .i64 aa)).frozen? ⟨w.heap.size, 1, none⟩ = false := frozen_of_row _ _ _ _ _ hr2s1
    have g2 : ((v2.setCell ⟨w2.heap.size, 2, none⟩ (.int .i64 dd)).setCell ⟨w2.heap.size, 3, none⟩ (.int .i64 aa)).frozen? ⟨w.heap.size, 2, none⟩ = false := frozen_of_row _ _ _ _ _ hr2s1
    have g3 : ((v2.setCell ⟨w2.heap.size, 2, none⟩ (.int .i64 dd)).setCell ⟨w2.heap.size, 3, none⟩ (.int .i64 aa)).frozen? ⟨w.heap.size, 3, none⟩ = false := frozen_of_row _ _ _ _ _ hr2s1
    have g4 : ((v2.setCell ⟨w2.heap.size, 2, none⟩ (.int .i64 dd)).setCell ⟨w2.heap.size, 3, none⟩ (.int .i64 aa)).frozen? ⟨w.heap.size, 4, none⟩ = false := frozen_of_row _ _ _ _ _ hr2s1
    have g5 : ((v2.setCell ⟨w2.heap.size, 2, none⟩ (.int .i64 dd)).setCell ⟨w2.heap.size, 3, none⟩ (.int .i64 aa)).frozen? ⟨w.heap.size, 5, none⟩ = false := frozen_of_row _ _ _ _ _ hr2s1
    have g6 : ((v2.setCell ⟨w2.heap.size, 2, none⟩ (.int .i64 dd)).setCell ⟨w2.heap.size, 3, none⟩ (.int .i64 aa)).frozen? ⟨w.heap.size, 6, none⟩ = false := frozen_of_row _ _ _ _ _ hr2s1
    obtain ⟨b0, b1, b2, b3, b4, b5, b6⟩ := box7 hn2s1
    have hRow := hide (sbox7 (.int .u8 8) (.int .u8 0) (.int .i64 dd) (.int .i64 aa) (.int .i64 0) (.int .i64 0) (.slice none 0 0) hr2s1)
    have hFin := hide (And.intro (rdr_kept hR2s1 (gbox7 _ w.heap.size (.int .u8 8) (.int .u8 0) (.int .i64 dd) (.int .i64 aa) (.int .i64 0) (.int .i64 0) (.slice none 0 0)) (fun e => by simp at e; omega) (fun e => by simp at e; omega)) (grown_new hG2s1 (gbox7 _ w.heap.size (.int .u8 8) (.int .u8 0) (.int .i64 dd) (.int .i64 aa) (.int .i64 0) (.int .i64 0) (.slice none 0 0)) (fun k hk => by simp at hk; omega)))
    clear z0
    go_wp2_with fail
    obtain ⟨q0, q1, q2, q3, q4, q5, q6⟩ := box7 hRow.out
    refine bodyPost_ret (v := .agg #[.int .u8 8, .int .u8 0, .int .i64 dd, .int .i64 aa, .int .i64 0, .int .i64 0, .slice none 0 0]) (by simp [results, Try.results71, go_sem, q0, q1, q2, q3, q4, q5, q6]) rfl ?_
    exact ⟨⟨8, 0, dd, aa, 0, 0, []⟩, _, _, _, rfl, ⟨_, rfl, ArgsO.nil _ _⟩, took_insda (by omega) hT hT1 hT2, hFin.out.1, hFin.out.2⟩
  by_cases k3 : k = 3
  · subst k3
    have HC1 := hide (below_t p b ys d 256 (w2.alloc (.cells #[.int .u8 3, .int .u8 0, .int .i64 0, .int .i64 0, .int .i64 0, .int .i64 0, .slice none 0 0] 86)) hR (by omega) (by omega))
    go_wp2_with fail
    refine HC1.out.mono ?_
    rintro e v1 ⟨op, u1, ys1, d1, rfl, ⟨rfl, hop0, hop1⟩, hT1, hR1, hg1⟩
    have hs1 := hg1.size
    have hq_1 := grown_row hg1 hq2 (by omega)
    have hr_1 := grown_row hg1 hr2 (by omega)
    have hn_1 := grown_row hg1 hn (by omega)
    have hG_1 := Lb.grownBy_trans hG1 hg1
    clear HC1 hq2 hr2 hn hG1 hR hg1
    obtain ⟨c0, c1, c2, c3, c4, c5, c6⟩ := box7 hn_1
    have f0 : v1.frozen? ⟨w2.heap.size, 0, none⟩ = false := frozen_of_row _ _ _ _ _ hn_1
    have f1 : v1.frozen? ⟨w2.heap.size, 1, none⟩ = false := frozen_of_row _ _ _ _ _ hn_1
    have f2 : v1.frozen? ⟨w2.heap.size, 2, none⟩ = false := frozen_of_row _ _ _ _ _ hn_1
    have f3 : v1.frozen? ⟨w2.heap.size, 3, none⟩ = false := frozen_of_row _ _ _ _ _ hn_1
    have f4 : v1.frozen? ⟨w2.heap.size, 4, none⟩ = false := frozen_of_row _ _ _ _ _ hn_1
    have f5 : v1.frozen? ⟨w2.heap.size, 5, none⟩ = false := frozen_of_row _ _ _ _ _ hn_1
    have f6 : v1.frozen? ⟨w2.heap.size, 6, none⟩ = false := frozen_of_row _ _ _ _ _ hn_1
    have hq1s0 := (heap_setCell_other _ ⟨w2.heap.size, 1, none⟩ (w.heap.size + 1) (.int .u8 op) (by simp; omega)).trans hq_1
    have hr1s0 := (heap_setCell_other _ ⟨w2.heap.size, 1, none⟩ w.heap.size (.int .u8 op) (by simp; omega)).trans hr_1
    have hn1s0 : (v1.setCell ⟨w2.heap.size, 1, none⟩ (.int .u8 op)).heap[w2.heap.size]? = some (Obj.cells #[.int .u8 3, .int .u8 op, .int .i64 0, .int .i64 0, .int .i64 0, .int .i64 0, .slice none 0 0] 86 (0, 0)) := heap_setCell_same _ w2.heap.size 1 _ _ (.int .u8 op) hn_1
    have hG1s0 := grown_new hG_1 (Lb.grownBy_setCell _ w2.heap.size 1 (.int .u8 op)) (fun k hk => by simp at hk; omega)
    have hR1s0 := rdr_kept hR1 (Lb.grownBy_setCell _ w2.heap.size 1 (.int .u8 op)) (fun e => by simp at e; omega) (fun e => by simp at e; omega)
    have HC2 := hide (field_t p b (w.heap.size + 1) ys1 d1 (v1.setCell ⟨w2.heap.size, 1, none⟩ (.int .u8 op)) hR1s0 hq1s0)
    go_wp2_with fail
    refine HC2.out.mono ?_
    rintro e v2 ⟨dd, u2, ys2, d2, rfl, ⟨rfl, hdd0, hdd1⟩, hT2, hR2, hg2⟩
    have hs2 := hg2.size
    have hq_2 := grown_row hg2 hq1s0 (by omega)
    have hr_2 := grown_row hg2 hr1s0 (by omega)
    have hn_2 := grown_row hg2 hn1s0 (by omega)
    have hG_2 := Lb.grownBy_trans hG1s0 hg2
    clear HC2 hq1s0 hr1s0 hn1s0 hG1s0 hR1s0 hg2
    have HC3 := hide (field_t p b (w.heap.size + 1) ys2 d2 v2 hR2 hq_2)
    go_wp2_with fail
    refine HC3.out.mono ?_
    rintro e v3 ⟨aa, u3, ys3, d3, rfl, ⟨rfl, haa0, haa1⟩, hT3, hR3, hg3⟩
    have hs3 := hg3.size
    have hq_3 := grown_row hg3 hq_2 (by omega)
    have hr_3 := grown_row hg3 hr_2 (by omega)
    have hn_3 := grown_row hg3 hn_2 (by omega)
    have hG_3 := Lb.grownBy_trans hG_2 hg3
    clear HC3 hq_2 hr_2 hn_2 hG_2 hR2 hg3
    have HC4 := hide (field_t p b (w.heap.size + 1) ys3 d3 v3 hR3 hq_3)
    go_wp2_with fail
    refine HC4.out.mono ?_
    rintro e v4 ⟨bb, u4, ys4, d4, rfl, ⟨rfl, hbb0, hbb1⟩, hT4, hR4, hg4⟩
    have hs4 := hg4.size
    have hq_4 := grown_row hg4 hq_3 (by omega)
    have hr_4 := grown_row hg4 hr_3 (by omega)
    have hn_4 := grown_row hg4 hn_3 (by omega)
    have hG_4 := Lb.grownBy_trans hG_3 hg4
    clear HC4 hq_3 hr_3 hn_3 hG_3 hR3 hg4
    obtain ⟨c0, c1, c2, c3, c4, c5, c6⟩ := box7 hn_4
    have f0 : v4.frozen? ⟨w2.heap.size, 0, none⟩ = false := frozen_of_row _ _ _ _ _ hn_4
    have f1 : v4.frozen? ⟨w2.heap.size, 1, none⟩ = false := frozen_of_row _ _ _ _ _ hn_4
    have f2 : v4.frozen? ⟨w2.heap.size, 2, none⟩ = false := frozen_of_row _ _ _ _ _ hn_4
    have f3 : v4.frozen? ⟨w2.heap.size, 3, none⟩ = false := frozen_of_row _ _ _ _ _ hn_4
    have f4 : v4.frozen? ⟨w2.heap.size, 4, none⟩ = false := frozen_of_row _ _ _ _ _ hn_4
    have f5 : v4.frozen? ⟨w2.heap.size, 5, none⟩ = false := frozen_of_row _ _ _ _ _ hn_4
    have f6 : v4.frozen? ⟨w2.heap.size, 6, none⟩ = false := frozen_of_row _ _ _ _ _ hn_4
    have hq4s0 := (heap_setCell_other _ ⟨w2.heap.size, 2, none⟩ (w.heap.size + 1) (.int .i64 dd) (by simp; omega)).trans hq_4
    have hr4s0 := (heap_setCell_other _ ⟨w2.heap.size, 2, none⟩ w.heap.size (.int .i64 dd) (by simp; omega)).trans hr_4
    have hn4s0 : (v4.setCell ⟨w2.heap.size, 2, none⟩ (.int .i64 dd)).heap[w2.heap.size]? = some (Obj.cells #[.int .u8 3, .int .u8 op, .int .i64 dd, .int .i64 0, .int .i64 0, .int .i64 0, .slice none 0 0] 86 (0, 0)) := heap_setCell_same _ w2.heap.size 2 _ _ (.int .i64 dd) hn_4
    have hG4s0 := grown_new hG_4 (Lb.grownBy_setCell _ w2.heap.size 2 (.int .i64 dd)) (fun k hk => by simp at hk; omega)
    have hR4s0 := rdr_kept hR4 (Lb.grownBy_setCell _ w2.heap.size 2 (.int .i64 dd)) (fun e => by simp at e; omega) (fun e => by simp at e; omega)
    have hq4s1 := (heap_setCell_other _ ⟨w2.heap.size, 3, none⟩ (w.heap.size + 1) (.int .i64 aa) (by simp; omega)).trans hq4s0
    have hr4s1 := (heap_setCell_other _ ⟨w2.heap.size, 3, none⟩ w.heap.size (.int .i64 aa) (by simp; omega)).trans hr4s0
    have hn4s1 : ((v4.setCell ⟨w2.heap.size, 2, none⟩ (.int .i64 dd)).setCell ⟨w2.heap.size, 3, none⟩ (.int .i64 aa)).heap[w2.heap.size]? = some (Obj.cells #[.int .u8 3, .int .u8 op, .int .i64 dd, .int .i64 aa, .int .i64 0, .int .i64 0, .slice none 0 0] 86 (0, 0)) := heap_setCell_same _ w2.heap.size 3 _ _ (.int .i64 aa) hn4s0
    have hG4s1 := grown_new hG4s0 (Lb.grownBy_setCell _ w2.heap.size 3 (.int .i64 aa)) (fun k hk => by simp at hk; omega)
    have hR4s1 := rdr_kept hR4s0 (Lb.grownBy_setCell _ w2.heap.size 3 (.int .i64 aa)) (fun e => by simp at e; omega) (fun e => by simp at e; omega)
    have hq4s2 := (heap_setCell_other _ ⟨w2.heap.size, 4, none⟩ (w.heap.size + 1) (.int .i64 bb) (by simp; omega)).trans hq4s1
    have hr4s2 := (heap_setCell_other _ ⟨w2.heap.size, 4, none⟩ w.heap.size (.int .i64 bb) (by simp; omega)).trans hr4s1
    have hn4s2 : (((v4.setCell ⟨w2.heap.size, 2, none⟩ (.int .i64 dd)).setCell ⟨w2.heap.size, 3, none⟩ (.int .i64 aa)).setCell ⟨w2.heap.size, 4, none⟩ (.int .i64 bb)).heap[w2.heap.size]? = some (Obj.cells #[.int .u8 3, .int .u8 op, .int .i64 dd, .int .i64 aa, .int .i64 bb, .int .i64 0, .slice none 0 0] 86 (0, 0)) := heap_setCell_same _ w2.heap.size 4 _ _ (.int .i64 bb) hn4s1
    have hG4s2 := grown_new hG4s1 (Lb.grownBy_setCell _ w2.heap.size 4 (.int .i64 bb)) (fun k hk => by simp at hk; omega)
    have hR4s2 := rdr_kept hR4s1 (Lb.grownBy_setCell _ w2.heap.size 4 (.int .i64 bb)) (fun e => by simp at e; omega) (fun e => by simp at e; omega)
    have z0 := hr4s2
    obtain ⟨r0, r1, r2, r3, r4, r5, r6⟩ := box7 hr4s2
    have g0 : (((v4.setCell ⟨w2.heap.size, 2, none⟩ (.int .i64 dd)).setCell ⟨w2.heap.size, 3, none⟩ (.int .i64 aa)).setCell ⟨w2.heap.size, 4, none⟩ (.int .i64 bb)).frozen? ⟨w.heap.size, 0, none⟩ = false := frozen_of_row _ _ _ _ _ hr4s2
    have g1 : (((v4.setCell ⟨w2.heap.size, 2, none⟩ (.int .i64 dd)).setCell ⟨w2.heap.size, 3, none⟩ (.int .i64 aa)).setCell ⟨w2.heap.size, 4, none⟩ (.int .i64 bb)).frozen? ⟨w.heap.size, 1, none⟩ = false := frozen_of_row _ _ _ _ _ hr4s2
    have g2 : (((v4.setCell ⟨w2.heap.size, 2, none⟩ (.int .i64 dd)).setCell ⟨w2.heap.size, 3, none⟩ (.int .i64 aa)).setCell ⟨w2.heap.size, 4, none⟩ (.int .i64 bb)).frozen? ⟨w.heap.size, 2, none⟩ = false := frozen_of_row _ _ _ _ _ hr4s2
    have g3 : (((v4.setCell ⟨w2.heap.size, 2, none⟩ (.int .i64 dd)).setCell ⟨w2.heap.size, 3, none⟩ (.int .i64 aa)).setCell ⟨w2.heap.size, 4, none⟩ (.int .i64 bb)).frozen? ⟨w.heap.size, 3, none⟩ = false := frozen_of_row _ _ _ _ _ hr4s2
    have g4 : (((v4.setCell ⟨w2.heap.size, 2, none⟩ (.int .i64 dd)).setCell ⟨w2.heap.size, 3, none⟩ (.int .i64 aa)).setCell ⟨w2.heap.size, 4, none⟩ (.int .i64 bb)).frozen? ⟨w.heap.size, 4, none⟩ = false := frozen_of_row _ _ _ _ _ hr4s2
    have g5 : (((v4.setCell ⟨w2.heap.size, 2, none⟩ (.int .i64 dd)).setCell ⟨w2.heap.size, 3, none⟩ (.int .i64 aa)).setCell ⟨w2.heap.size, 4, none⟩ (.int .i64 bb)).frozen? ⟨w.heap.size, 5, none⟩ = false := frozen_of_row _ _ _ _ _ hr4s2
    have g6 : (((v4.setCell ⟨w2.heap.size, 2, none⟩ (.int .i64 dd)).setCell ⟨w2.heap.size, 3, none⟩ (.int .i64 aa)).setCell ⟨w2.heap.size, 4, none⟩ (.int .i64 bb)).frozen? ⟨w.heap.size, 6, none⟩ = false := frozen_of_row _ _ _ _ _ hr4s2
    obtain ⟨b0, b1, b2, b3, b4, b5, b6⟩ := box7 hn4s2
    have hRow := hide (sbox7 (.int .u8 3) (.int .u8 op) (.int .i64 dd) (.int .i64 aa) (.int .i64 bb) (.int .i64 0) (.slice none 0 0) hr4s2)
    have hFin := hide (And.intro (rdr_kept hR4s2 (gbox7 _ w.heap.size (.int .u8 3) (.int .u8 op) (.int .i64 dd) (.int .i64 aa) (.int .i64 bb) (.int .i64 0) (.slice none 0 0)) (fun e => by simp at e; omega) (fun e => by simp at e; omega)) (grown_new hG4s2 (gbox7 _ w.heap.size (.int .u8 3) (.int .u8 op) (.int .i64 dd) (.int .i64 aa) (.int .i64 bb) (.int .i64 0) (.slice none 0 0)) (fun k hk => by simp at hk; omega)))
    clear z0
    go_wp2_with fail
    obtain ⟨q0, q1, q2, q3, q4, q5, q6⟩ := box7 hRow.out
    refine bodyPost_ret (v := .agg #[.int .u8 3, .int .u8 op, .int .i64 dd, .int .i64 aa, .int .i64 bb, .int .i64 0, .slice none 0 0]) (by simp [results, Try.results71, go_sem, q0, q1, q2, q3, q4, q5, q6]) rfl ?_
    exact ⟨⟨3, op, dd, aa, bb, 0, []⟩, _, _, _, rfl, ⟨_, rfl, ArgsO.nil _ _⟩, took_ins3 hT hT1 hT2 hT3 hT4, hFin.out.1, hFin.out.2⟩
  by_cases k5 : k = 5
  · subst k5
    have HC1 := hide (field_t p b (w.heap.size + 1) ys d (w2.alloc (.cells #[.int .u8 5, .int .u8 0, .int .i64 0, .int .i64 0, .int .i64 0, .int .i64 0, .slice none 0 0] 86)) hR hq2)
    go_wp2_with fail
    refine HC1.out.mono ?_
    rintro e v1 ⟨aa, u1, ys1, d1, rfl, ⟨rfl, haa0, haa1⟩, hT1, hR1, hg1⟩
    have hs1 := hg1.size
    have hq_1 := grown_row hg1 hq2 (by omega)
    have hr_1 := grown_row hg1 hr2 (by omega)
    have hn_1 := grown_row hg1 hn (by omega)
    have hG_1 := Lb.grownBy_trans hG1 hg1
    clear HC1 hq2 hr2 hn hG1 hR hg1
    have HC2 := hide (field_t p b (w.heap.size + 1) ys1 d1 v1 hR1 hq_1)
    go_wp2_with fail
    refine HC2.out.mono ?_
    rintro e v2 ⟨bb, u2, ys2, d2, rfl, ⟨rfl, hbb0, hbb1⟩, hT2, hR2, hg2⟩
    have hs2 := hg2.size
    have hq_2 := grown_row hg2 hq_1 (by omega)
    have hr_2 := grown_row hg2 hr_1 (by omega)
    have hn_2 := grown_row hg2 hn_1 (by omega)
    have hG_2 := Lb.grownBy_trans hG_1 hg2
    clear HC2 hq_1 hr_1 hn_1 hG_1 hR1 hg2
    obtain ⟨c0, c1, c2, c3, c4, c5, c6⟩ := box7 hn_2
    have f0 : v2.frozen? ⟨w2.heap.size, 0, none⟩ = false := frozen_of_row _ _ _ _ _ hn_2
    have f1 : v2.frozen? ⟨w2.heap.size, 1, none⟩ = false := frozen_of_row _ _ _ _ _ hn_2
    have f2 : v2.frozen? ⟨w2.heap.size, 2, none⟩ = false := frozen_of_row _ _ _ _ _ hn_2
    have f3 : v2.frozen? ⟨w2.heap.size, 3, none⟩ = false := frozen_of_row _ _ _ _ _ hn_2
    have f4 : v2.frozen? ⟨w2.heap.size, 4, none⟩ = false := frozen_of_row _ _ _ _ _ hn_2
    have f5 : v2.frozen? ⟨w2.heap.size, 5, none⟩ = false := frozen_of_row _ _ _ _ _ hn_2
    have f6 : v2.frozen? ⟨w2.heap.size, 6, none⟩ = false := frozen_of_row _ _ _ _ _ hn_2
    have hq2s0 := (heap_setCell_other _ ⟨w2.heap.size, 3, none⟩ (w.heap.size + 1) (.int .i64 aa) (by simp; omega)).trans hq_2
    have hr2s0 := (heap_setCell_other _ ⟨w2.heap.size, 3, none⟩ w.heap.size (.int .i64 aa) (by simp; omega)).trans hr_2
    have hn2s0 : (v2.setCell ⟨w2.heap.size, 3, none⟩ (.int .i64 aa)).heap[w2.heap.size]? = some (Obj.cells #[.int .u8 5, .int .u8 0, .int .i64 0, .int .i64 aa, .int .i64 0, .int .i64 0, .slice none 0 0] 86 (0, 0)) := heap_setCell_same _ w2.heap.size 3 _ _ (.int .i64 aa) hn_2
    have hG2s0 := grown_new hG_2 (Lb.grownBy_setCell _ w2.heap.size 3 (.int .i64 aa)) (fun k hk => by simp at hk; omega)
    have hR2s0 := rdr_kept hR2 (Lb.grownBy_setCell _ w2.heap.size 3 (.int .i64 aa)) (fun e => by simp at e; omega) (fun e => by simp at e; omega)
    have hq2s1 := (heap_setCell_other _ ⟨w2.heap.size, 4, none⟩ (w.heap.size + 1) (.int .i64 bb) (by simp; omega)).trans hq2s0
    have hr2s1 := (heap_setCell_other _ ⟨w2.heap.size, 4, none⟩ w.heap.size (.int .i64 bb) (by simp; omega)).trans hr2s0
    have hn2s1 : ((v2.setCell ⟨w2.heap.size, 3, none⟩ (.int .i64 aa)).setCell ⟨w2.heap.size, 4, none⟩ (.int .i64 bb)).heap[w2.heap.size]? = some (Obj.cells #[.int .u8 5, .int .u8 0, .int .i64 0, .int .i64 aa, .int .i64 bb, .int .i64 0, .slice none 0 0] 86 (0, 0)) := heap_setCell_same _ w2.heap.size 4 _ _ (.int .i64 bb) hn2s0
    have hG2s1 := grown_new hG2s0 (Lb.grownBy_setCell _ w2.heap.size 4 (.int .i64 bb)) (fun k hk => by simp at hk; omega)
    have hR2s1 := rdr_kept hR2s0 (Lb.grownBy_setCell _ w2.heap.size 4 (.int .i64 bb)) (fun e => by simp at e; omega) (fun e => by simp at e; omega)
    have z0 := hr2s1
    obtain ⟨r0, r1, r2, r3, r4, r5, r6⟩ := box7 hr2s1
    have g0 : ((v2.setCell ⟨w2.heap.size, 3, none⟩ (.int .i64 aa)).setCell ⟨w2.heap.size, 4, none⟩ (.int .i64 bb)).frozen? ⟨w.heap.size, 0, none⟩ = false := frozen_of_row _ _ _ _ _ hr2s1
    have g1 : ((v2.setCell ⟨w2.heap.size, 3, none⟩ (.int .i64 aa)).setCell ⟨w2.heap.size, 4, none⟩ (.int .i64 bb)).frozen? ⟨w.heap.size, 1, none⟩ = false := frozen_of_row _ _ _ _ _ hr2s1
    have g2 : ((v2.setCell ⟨w2.heap.size, 3, none⟩ (.int .i64 aa)).setCell ⟨w2.heap.size, 4, none⟩ (.int .i64 bb)).frozen? ⟨w.heap.size, 2, none⟩ = false := frozen_of_row _ _ _ _ _ hr2s1
    have g3 : ((v2.setCell ⟨w2.heap.size, 3, none⟩ (.int .i64 aa)).setCell ⟨w2.heap.size, 4, none⟩ (.int .i64 bb)).frozen? ⟨w.heap.size, 3, none⟩ = false := frozen_of_row _ _ _ _ _ hr2s1
    have g4 : ((v2.setCell ⟨w2.heap.size, 3, none⟩ (.int .i64 aa)).setCell ⟨w2.heap.size, 4, none⟩ (.int .i64 bb)).frozen? ⟨w.heap.size, 4, none⟩ = false := frozen_of_row _ _ _ _ _ hr2s1
    have g5 : ((v2.setCell ⟨w2.heap.size, 3, none⟩ (.int .i64 aa)).setCell ⟨w2.heap.size, 4, none⟩ (.int .i64 bb)).frozen? ⟨w.heap.size, 5, none⟩ = false := frozen_of_row _ _ _ _ _ hr2s1
    have g6 : ((v2.setCell ⟨w2.heap.size, 3, none⟩ (.int .i64 aa)).setCell ⟨w2.heap.size, 4, none⟩ (.int .i64 bb)).frozen? ⟨w.heap.size, 6, none⟩ = false := frozen_of_row _ _ _ _ _ hr2s1
    obtain ⟨b0, b1, b2, b3, b4, b5, b6⟩ := box7 hn2s1
    have hRow := hide (sbox7 (.int .u8 5) (.int .u8 0) (.int .i64 0) (.int .i64 aa) (.int .i64 bb) (.int .i64 0) (.slice none 0 0) hr2s1)
    have hFin := hide (And.intro (rdr_kept hR2s1 (gbox7 _ w.heap.size (.int .u8 5) (.int .u8 0) (.int .i64 0) (.int .i64 aa) (.int .i64 bb) (.int .i64 0) (.slice none 0 0)) (fun e => by simp at e; omega) (fun e => by simp at e; omega)) (grown_new hG2s1 (gbox7 _ w.heap.size (.int .u8 5) (.int .u8 0) (.int .i64 0) (.int .i64 aa) (.int .i64 bb) (.int .i64 0) (.slice none 0 0)) (fun k hk => by simp at hk; omega)))
    clear z0
    go_wp2_with fail
    obtain ⟨q0, q1, q2, q3, q4, q5, q6⟩ := box7 hRow.out
    refine bodyPost_ret (v := .agg #[.int .u8 5, .int .u8 0, .int .i64 0, .int .i64 aa, .int .i64 bb, .int .i64 0, .slice none 0 0]) (by simp [results, Try.results71, go_sem, q0, q1, q2, q3, q4, q5, q6]) rfl ?_
    exact ⟨⟨5, 0, 0, aa, bb, 0, []⟩, _, _, _, rfl, ⟨_, rfl, ArgsO.nil _ _⟩, took_ins5 hT hT1 hT2, hFin.out.1, hFin.out.2⟩
  by_cases k6 : k = 6
  · subst k6
    have HC1 := hide (field_t p b (w.heap.size + 1) ys d (w2.alloc (.cells #[.int .u8 6, .int .u8 0, .int .i64 0, .int .i64 0, .int .i64 0, .int .i64 0, .slice none 0 0] 86)) hR hq2)
    go_wp2_with fail
    refine HC1.out.mono ?_
    rintro e v1 ⟨dd, u1, ys1, d1, rfl, ⟨rfl, hdd0, hdd1⟩, hT1, hR1, hg1⟩
    have hs1 := hg1.size
    have hq_1 := grown_row hg1 hq2 (by omega)
    have hr_1 := grown_row hg1 hr2 (by omega)
    have hn_1 := grown_row hg1 hn (by omega)
    have hG_1 := Lb.grownBy_trans hG1 hg1
    clear HC1 hq2 hr2 hn hG1 hR hg1
    have HC2 := hide (int_t p b ys1 d1 v1 hR1)
    go_wp2_with fail
    refine HC2.out.mono ?_
    rintro e v2 ⟨nn, u2, ys2, d2, rfl, rfl, hT2, hR2, hg2⟩
    have hs2 := hg2.size
    have hq_2 := grown_row hg2 hq_1 (by omega)
    have hr_2 := grown_row hg2 hr_1 (by omega)
    have hn_2 := grown_row hg2 hn_1 (by omega)
    have hG_2 := Lb.grownBy_trans hG_1 hg2
    clear HC2 hq_1 hr_1 hn_1 hG_1 hR1 hg2
    obtain ⟨c0, c1, c2, c3, c4, c5, c6⟩ := box7 hn_2
    have f0 : v2.frozen? ⟨w2.heap.size, 0, none⟩ = false := frozen_of_row _ _ _ _ _ hn_2
    have f1 : v2.frozen? ⟨w2.heap.size, 1, none⟩ = false := frozen_of_row _ _ _ _ _ hn_2
    have f2 : v2.frozen? ⟨w2.heap.size, 2, none⟩ = false := frozen_of_row _ _ _ _ _ hn_2
    have f3 : v2.frozen? ⟨w2.heap.size, 3, none⟩ = false := frozen_of_row _ _ _ _ _ hn_2
    have f4 : v2.frozen? ⟨w2.heap.size, 4, none⟩ = false := frozen_of_row _ _ _ _ _ hn_2
    have f5 : v2.frozen? ⟨w2.heap.size, 5, none⟩ = false := frozen_of_row _ _ _ _ _ hn_2
    have f6 : v2.frozen? ⟨w2.heap.size, 6, none⟩ = false := frozen_of_row _ _ _ _ _ hn_2
    have hq2s0 := (heap_setCell_other _ ⟨w2.heap.size, 2, none⟩ (w.heap.size + 1) (.int .i64 dd) (by simp; omega)).trans hq_2
    have hr2s0 := (heap_setCell_other _ ⟨w2.heap.size, 2, none⟩ w.heap.size (.int .i64 dd) (by simp; omega)).trans hr_2
    have hn2s0 : (v2.setCell ⟨w2.heap.size, 2, none⟩ (.int .i64 dd)).heap[w2.heap.size]? = some (Obj.cells #[.int .u8 6, .int .u8 0, .int .i64 dd, .int .i64 0, .int .i64 0, .int .i64 0, .slice none 0 0] 86 (0, 0)) := heap_setCell_same _ w2.heap.size 2 _ _ (.int .i64 dd) hn_2
    have hG2s0 := grown_new hG_2 (Lb.grownBy_setCell _ w2.heap.size 2 (.int .i64 dd)) (fun k hk => by simp at hk; omega)
    have hR2s0 := rdr_kept hR2 (Lb.grownBy_setCell _ w2.heap.size 2 (.int .i64 dd)) (fun e => by simp at e; omega) (fun e => by simp at e; omega)
    have hq2s1 := (heap_setCell_other _ ⟨w2.heap.size, 5, none⟩ (w.heap.size + 1) (.int .i64 nn) (by simp; omega)).trans hq2s0
    have hr2s1 := (heap_setCell_other _ ⟨w2.heap.size, 5, none⟩ w.heap.size (.int .i64 nn) (by simp; omega)).trans hr2s0
    have hn2s1 : ((v2.setCell ⟨w2.heap.size, 2, none⟩ (.int .i64 dd)).setCell ⟨w2.heap.size, 5, none⟩ (.int .i64 nn)).heap[w2.heap.size]? = some (Obj.cells #[.int .u8 6, .int .u8 0, .int .i64 dd, .int .i64 0, .int .i64 0, .int .i64 nn, .slice none 0 0] 86 (0, 0)) := heap_setCell_same _ w2.heap.size 5 _ _ (.int .i64 nn) hn2s0
    have hG2s1 := grown_new hG2s0 (Lb.grownBy_setCell _ w2.heap.size 5 (.int .i64 nn)) (fun k hk => by simp at hk; omega)
    have hR2s1 := rdr_kept hR2s0 (Lb.grownBy_setCell _ w2.heap.size 5 (.int .i64 nn)) (fun e => by simp at e; omega) (fun e => by simp at e; omega)
    have HC3 := hide (takeList_int (belP 4096) 3 p b (w.heap.size + 1) ys2 d2 ((v2.setCell ⟨w2.heap.size, 2, none⟩ (.int .i64 dd)).setCell ⟨w2.heap.size, 5, none⟩ (.int .i64 nn)) hR2s1 (Nat.lt_of_lt_of_le hb hG2s1.size) (by omega) (fun W zs c hg hR => (field_t p b (w.heap.size + 1) zs c W hR (grown_row hg hq2s1 (by omega))).mono (fun e w' ⟨x, u, l, c', e1, ⟨e2, e3, e4⟩, e5⟩ => ⟨x, u, l, c', e1, ⟨e2, e3, e4⟩, e5⟩)))
    go_wp2_with fail
    refine HC3.out.mono ?_
    rintro e v3 ⟨ar, u3, ys3, d3, rfl, hOar, hT3, hR3, hg3⟩
    have hs3 := hg3.size
    have hq_3 := grown_row hg3 hq2s1 (by omega)
    have hr_3 := grown_row hg3 hr2s1 (by omega)
    have hn_3 := grown_row hg3 hn2s1 (by omega)
    have hG_3 := Lb.grownBy_trans hG2s1 hg3
    have hOar2 : ArgsO w.heap.size v3 u3 ar := ArgsO.mono hOar (by have := hG2s1.size; omega)
    obtain ⟨au, nu, cu, rfl⟩ := owns_slice hOar2
    clear HC3 hq2s1 hr2s1 hn2s1 hG2s1 hR2s1 hg3
    obtain ⟨c0, c1, c2, c3, c4, c5, c6⟩ := box7 hn_3
    have f0 : v3.frozen? ⟨w2.heap.size, 0, none⟩ = false := frozen_of_row _ _ _ _ _ hn_3
    have f1 : v3.frozen? ⟨w2.heap.size, 1, none⟩ = false := frozen_of_row _ _ _ _ _ hn_3
    have f2 : v3.frozen? ⟨w2.heap.size, 2, none⟩ = false := frozen_of_row _ _ _ _ _ hn_3
    have f3 : v3.frozen? ⟨w2.heap.size, 3, none⟩ = false := frozen_of_row _ _ _ _ _ hn_3
    have f4 : v3.frozen? ⟨w2.heap.size, 4, none⟩ = false := frozen_of_row _ _ _ _ _ hn_3
    have f5 : v3.frozen? ⟨w2.heap.size, 5, none⟩ = false := frozen_of_row _ _ _ _ _ hn_3
    have f6 : v3.frozen? ⟨w2.heap.size, 6, none⟩ = false := frozen_of_row _ _ _ _ _ hn_3
    have hq3s0 := (heap_setCell_other _ ⟨w2.heap.size, 6, none⟩ (w.heap.size + 1) (.slice au nu cu) (by simp; omega)).trans hq_3
    have hr3s0 := (heap_setCell_other _ ⟨w2.heap.size, 6, none⟩ w.heap.size (.slice au nu cu) (by simp; omega)).trans hr_3
    have hn3s0 : (v3.setCell ⟨w2.heap.size, 6, none⟩ (.slice au nu cu)).heap[w2.heap.size]? = some (Obj.cells #[.int .u8 6, .int .u8 0, .int .i64 dd, .int .i64 0, .int .i64 0, .int .i64 nn, .slice au nu cu] 86 (0, 0)) := heap_setCell_same _ w2.heap.size 6 _ _ (.slice au nu cu) hn_3
    have hG3s0 := grown_new hG_3 (Lb.grownBy_setCell _ w2.heap.size 6 (.slice au nu cu)) (fun k hk => by simp at hk; omega)
    have hR3s0 := rdr_kept hR3 (Lb.grownBy_setCell _ w2.heap.size 6 (.slice au nu cu)) (fun e => by simp at e; omega) (fun e => by simp at e; omega)
    have hO3s0 : ArgsO w.heap.size (v3.setCell ⟨w2.heap.size, 6, none⟩ (.slice au nu cu)) _ _ := ArgsO.keeps hOar2 (Keeps.set hn_3 rfl _)
    have z0 := hr3s0
    obtain ⟨r0, r1, r2, r3, r4, r5, r6⟩ := box7 hr3s0
    have g0 : (v3.setCell ⟨w2.heap.size, 6, none⟩ (.slice au nu cu)).frozen? ⟨w.heap.size, 0, none⟩ = false := frozen_of_row _ _ _ _ _ hr3s0
    have g1 : (v3.setCell ⟨w2.heap.size, 6, none⟩ (.slice au nu cu)).frozen? ⟨w.heap.size, 1, none⟩ = false := frozen_of_row _ _ _ _ _ hr3s0
    have g2 : (v3.setCell ⟨w2.heap.size, 6, none⟩ (.slice au nu cu)).frozen? ⟨w.heap.size, 2, none⟩ = false := frozen_of_row _ _ _ _ _ hr3s0
    have g3 : (v3.setCell ⟨w2.heap.size, 6, none⟩ (.slice au nu cu)).frozen? ⟨w.heap.size, 3, none⟩ = false := frozen_of_row _ _ _ _ _ hr3s0
    have g4 : (v3.setCell ⟨w2.heap.size, 6, none⟩ (.slice au nu cu)).frozen? ⟨w.heap.size, 4, none⟩ = false := frozen_of_row _ _ _ _ _ hr3s0
    have g5 : (v3.setCell ⟨w2.heap.size, 6, none⟩ (.slice au nu cu)).frozen? ⟨w.heap.size, 5, none⟩ = false := frozen_of_row _ _ _ _ _ hr3s0
    have g6 : (v3.setCell ⟨w2.heap.size, 6, none⟩ (.slice au nu cu)).frozen? ⟨w.heap.size, 6, none⟩ = false := frozen_of_row _ _ _ _ _ hr3s0
    obtain ⟨b0, b1, b2, b3, b4, b5, b6⟩ := box7 hn3s0
    have hRow := hide (sbox7 (.int .u8 6) (.int .u8 0) (.int .i64 dd) (.int .i64 0) (.int .i64 0) (.int .i64 nn) (.slice au nu cu) hr3s0)
    have hFin := hide (And.intro (rdr_kept hR3s0 (gbox7 _ w.heap.size (.int .u8 6) (.int .u8 0) (.int .i64 dd) (.int .i64 0) (.int .i64 0) (.int .i64 nn) (.slice au nu cu)) (fun e => by simp at e; omega) (fun e => by simp at e; omega)) (grown_new hG3s0 (gbox7 _ w.heap.size (.int .u8 6) (.int .u8 0) (.int .i64 dd) (.int .i64 0) (.int .i64 0) (.int .i64 nn) (.slice au nu cu)) (fun k hk => by simp at hk; omega)))
    have hOw := hide (ArgsO.keeps hO3s0 (kbox7 (.int .u8 6) (.int .u8 0) (.int .i64 dd) (.int .i64 0) (.int .i64 0) (.int .i64 nn) (.slice au nu cu) hr3s0 (by decide)))
    clear z0
    go_wp2_with fail
    obtain ⟨q0, q1, q2, q3, q4, q5, q6⟩ := box7 hRow.out
    refine bodyPost_ret (v := .agg #[.int .u8 6, .int .u8 0, .int .i64 dd, .int .i64 0, .int .i64 0, .int .i64 nn, .slice au nu cu]) (by simp [results, Try.results71, go_sem, q0, q1, q2, q3, q4, q5, q6]) rfl ?_
    exact ⟨⟨6, 0, dd, 0, 0, nn, ar⟩, _, _, _, rfl, ⟨_, rfl, hOw.out⟩, took_ins6 hT hT1 hT2 hT3, hFin.out.1, hFin.out.2⟩
  · have HC := hide (Lb.fail_any p b ys d 20 (w2.alloc (.cells #[.int .u8 k, .int .u8 0, .int .i64 0, .int .i64 0, .int .i64 0, .int .i64 0, .slice none 0 0] 86)) hR)
    have bk1 : (k == 1) = false := by simp; omega
    have bk2 : (k == 2) = false := by simp; omega
    have bk3 : (k == 3) = false := by simp; omega
    have bk4 : (k == 4) = false := by simp; omega
    have bk5 : (k == 5) = false := by simp; omega
    have bk6 : (k == 6) = false := by simp; omega
    have bk7 : (k == 7) = false := by simp; omega
    have bk8 : (k == 8) = false := by simp; omega
    obtain ⟨c0, c1, c2, c3, c4, c5, c6⟩ := box7 hn
    go_wp2_with fail
    refine HC.out.mono ?_
    rintro e v1 ⟨rfl, hR1, hg1⟩
    have hq_1 := grown_row hg1 hq2 (by omega)
    have hr_1 := grown_row hg1 hr2 (by omega)
    have hn_1 := grown_row hg1 hn (by omega)
    have hG_1 := Lb.grownBy_trans hG1 hg1
    have hs1 := hg1.size
    clear HC c0 c1 c2 c3 c4 c5 c6 hq2 hr2 hn hG1 hR hg1
    have z0 := hr_1
    obtain ⟨r0, r1, r2, r3, r4, r5, r6⟩ := box7 hr_1
    have g0 : v1.frozen? ⟨w.heap.size, 0, none⟩ = false := frozen_of_row _ _ _ _ _ hr_1
    have g1 : v1.frozen? ⟨w.heap.size, 1, none⟩ = false := frozen_of_row _ _ _ _ _ hr_1
    have g2 : v1.frozen? ⟨w.heap.size, 2, none⟩ = false := frozen_of_row _ _ _ _ _ hr_1
    have g3 : v1.frozen? ⟨w.heap.size, 3, none⟩ = false := frozen_of_row _ _ _ _ _ hr_1
    have g4 : v1.frozen? ⟨w.heap.size, 4, none⟩ = false := frozen_of_row _ _ _ _ _ hr_1
    have g5 : v1.frozen? ⟨w.heap.size, 5, none⟩ = false := frozen_of_row _ _ _ _ _ hr_1
    have g6 : v1.frozen? ⟨w.heap.size, 6, none⟩ = false := frozen_of_row _ _ _ _ _ hr_1
    obtain ⟨b0, b1, b2, b3, b4, b5, b6⟩ := box7 hn_1
    have hRow := hide (sbox7 (.int .u8 k) (.int .u8 0) (.int .i64 0) (.int .i64 0) (.int .i64 0) (.int .i64 0) (.slice none 0 0) hr_1)
    have hFin := hide (And.intro (rdr_kept hR1 (gbox7 _ w.heap.size (.int .u8 k) (.int .u8 0) (.int .i64 0) (.int .i64 0) (.int .i64 0) (.int .i64 0) (.slice none 0 0)) (fun e => by simp at e; omega) (fun e => by simp at e; omega)) (grown_new hG_1 (gbox7 _ w.heap.size (.int .u8 k) (.int .u8 0) (.int .i64 0) (.int .i64 0) (.int .i64 0) (.int .i64 0) (.slice none 0 0)) (fun k hk => by simp at hk; omega)))
    clear z0
    go_wp2_with fail
    obtain ⟨q0, q1, q2, q3, q4, q5, q6⟩ := box7 hRow.out
    refine bodyPost_ret (v := .agg #[.int .u8 k, .int .u8 0, .int .i64 0, .int .i64 0, .int .i64 0, .int .i64 0, .slice none 0 0]) (by simp [results, Try.results71, go_sem, q0, q1, q2, q3, q4, q5, q6]) rfl ?_
    exact ⟨⟨k, 0, 0, 0, 0, 0, []⟩, _, _, _, rfl, ⟨_, rfl, ArgsO.nil _ _⟩, took_ins0 hT (by omega) _, hFin.out.1, hFin.out.2⟩
end Go.Proofs.Ytbjnhicikkjadaa
