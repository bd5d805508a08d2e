/- Made of layer 5: right code out of bytes. -/
import Derived.Test.YtbgedbahabbanaaReg5
import Derived.BigRegion
namespace Go.Proofs.Ytbgedbahabbanaa
open Go.RowKit Ir

/-- What is known of each temporary of 'i.D, i.A, i.B = at(i.D), at(i.A), at(i.B)'. -/
def G15 (pc gi k : Nat) (r xd xa xb : Int) : Tmp → Value → World → Prop
  | 68, xx, _ => xx = .pointer (some ⟨gi, k * 7, none⟩)
  | 69, xx, _ => xx = .pointer (some ⟨gi, k * 7, none⟩)
  | 70, xx, _ => xx = .pointer (some ⟨gi, k * 7, none⟩)
  | 71, xx, _ => xx = .func (.func 15) #[] #[.pointer (some ⟨pc, 0, none⟩)]
  | 72, xx, _ => xx = .pointer (some ⟨gi, k * 7, none⟩)
  | 73, xx, _ => xx = .pointer (some ⟨gi, k * 7, none⟩)
  | 74, xx, _ => xx = .pointer (some ⟨gi, k * 7 + 2, none⟩)
  | 75, xx, _ => xx = .int .i64 xd
  | 76, xx, _ => xx = .int .i64 (xd.tmod r)
  | 77, xx, _ => xx = .func (.func 15) #[] #[.pointer (some ⟨pc, 0, none⟩)]
  | 78, xx, _ => xx = .pointer (some ⟨gi, k * 7, none⟩)
  | 79, xx, _ => xx = .pointer (some ⟨gi, k * 7, none⟩)
  | 80, xx, _ => xx = .pointer (some ⟨gi, k * 7 + 3, none⟩)
  | 81, xx, _ => xx = .int .i64 xa
  | 82, xx, _ => xx = .int .i64 (xa.tmod r)
  | 83, xx, _ => xx = .func (.func 15) #[] #[.pointer (some ⟨pc, 0, none⟩)]
  | 84, xx, _ => xx = .pointer (some ⟨gi, k * 7, none⟩)
  | 85, xx, _ => xx = .pointer (some ⟨gi, k * 7, none⟩)
  | 86, xx, _ => xx = .pointer (some ⟨gi, k * 7 + 4, none⟩)
  | 87, xx, _ => xx = .int .i64 xb
  | 88, xx, _ => xx = .int .i64 (xb.tmod r)
  | 89, xx, _ => xx = .pointer (some ⟨gi, k * 7, none⟩)
  | 90, xx, _ => xx = .pointer (some ⟨gi, k * 7 + 2, none⟩)
  | 91, xx, _ => xx = .pointer (some ⟨gi, k * 7, none⟩)
  | 92, xx, _ => xx = .pointer (some ⟨gi, k * 7 + 3, none⟩)
  | 93, xx, _ => xx = .pointer (some ⟨gi, k * 7, none⟩)
  | 94, xx, _ => xx = .pointer (some ⟨gi, k * 7 + 4, none⟩)
  | _, _, _ => True

/-- What stands in the world while that is done. -/
structure S15 (B : Nat) (r : Int) (gi k : Nat) (d a b : Int) (ws : World) (l : Nat → Bool) (W : World) : Prop where
  md : Md B r ws W
  cd : W.cell? ⟨gi, k * 7 + 2, none⟩ = some (.int .i64 (if l 23 = true then d.tmod r else d))
  ca : W.cell? ⟨gi, k * 7 + 3, none⟩ = some (.int .i64 (if l 26 = true then a.tmod r else a))
  cb : W.cell? ⟨gi, k * 7 + 4, none⟩ = some (.int .i64 (if l 29 = true then b.tmod r else b))
section
variable {B : Nat} {r : Int} {gi k : Nat} {d a b : Int} {ws W : World} {l : Nat → Bool}
theorem S15.skip (h : S15 B r gi k d a b ws l W) {i : Nat} (h1 : i ≠ 23) (h2 : i ≠ 26) (h3 : i ≠ 29) : S15 B r gi k d a b ws (upd l i) W := by
  have u1 : upd l i 23 = l 23 := if_neg (fun e => h1 e.symm)
  have u2 : upd l i 26 = l 26 := if_neg (fun e => h2 e.symm)
  have u3 : upd l i 29 = l 29 := if_neg (fun e => h3 e.symm)
  exact ⟨h.md, by rw [u1]; exact h.cd, by rw [u2]; exact h.ca, by rw [u3]; exact h.cb⟩
theorem oth {W : World} {g o o' : Nat} {y c : Value} (hne : o ≠ o') (h : W.cell? ⟨g, o', none⟩ = some c) : (W.setCell ⟨g, o, none⟩ y).cell? ⟨g, o', none⟩ = some c :=
  (World.cell?_setCell_other (w := W) (a := ⟨g, o, none⟩) (b := ⟨g, o', none⟩) (v := y) (by simp only [ne_eq, Addr.mk.injEq, true_and, and_true]; exact hne)).trans h
theorem S15.stcd (h : S15 B r gi k d a b ws l W) (hm : Md B r ws (W.setCell ⟨gi, k * 7 + 2, none⟩ (.int .i64 (d.tmod r)))) {c : Value} (hc : W.cell? ⟨gi, k * 7 + 2, none⟩ = some c) : S15 B r gi k d a b ws (upd l 23) (W.setCell ⟨gi, k * 7 + 2, none⟩ (.int .i64 (d.tmod r))) := by
  have u2 : upd l 23 26 = l 26 := if_neg (by decide)
  have u3 : upd l 23 29 = l 29 := if_neg (by decide)
  refine ⟨hm, ?_, by rw [u2]; exact oth (by omega) h.ca, by rw [u3]; exact oth (by omega) h.cb⟩
  simp only [upd, if_true]
  exact World.cell?_setCell_same (w := W) (a := ⟨gi, k * 7 + 2, none⟩) (v := .int .i64 (d.tmod r)) hc
theorem S15.stca (h : S15 B r gi k d a b ws l W) (hm : Md B r ws (W.setCell ⟨gi, k * 7 + 3, none⟩ (.int .i64 (a.tmod r)))) {c : Value} (hc : W.cell? ⟨gi, k * 7 + 3, none⟩ = some c) : S15 B r gi k d a b ws (upd l 26) (W.setCell ⟨gi, k * 7 + 3, none⟩ (.int .i64 (a.tmod r))) := by
  have u2 : upd l 26 23 = l 23 := if_neg (by decide)
  have u3 : upd l 26 29 = l 29 := if_neg (by decide)
  refine ⟨hm, by rw [u2]; exact oth (by omega) h.cd, ?_, by rw [u3]; exact oth (by omega) h.cb⟩
  simp only [upd, if_true]
  exact World.cell?_setCell_same (w := W) (a := ⟨gi, k * 7 + 3, none⟩) (v := .int .i64 (a.tmod r)) hc
theorem S15.stcb (h : S15 B r gi k d a b ws l W) (hm : Md B r ws (W.setCell ⟨gi, k * 7 + 4, none⟩ (.int .i64 (b.tmod r)))) {c : Value} (hc : W.cell? ⟨gi, k * 7 + 4, none⟩ = some c) : S15 B r gi k d a b ws (upd l 29) (W.setCell ⟨gi, k * 7 + 4, none⟩ (.int .i64 (b.tmod r))) := by
  have u2 : upd l 29 23 = l 23 := if_neg (by decide)
  have u3 : upd l 29 26 = l 26 := if_neg (by decide)
  refine ⟨hm, by rw [u2]; exact oth (by omega) h.cd, by rw [u3]; exact oth (by omega) h.ca, ?_⟩
  simp only [upd, if_true]
  exact World.cell?_setCell_same (w := W) (a := ⟨gi, k * 7 + 4, none⟩) (v := .int .i64 (b.tmod r)) hc
end
/-- What is known of each temporary of 'i.Args[a] = at(i.Args[a])'. -/
def G19 (pc gi k ga na ca2 m : Nat) (r x : Int) : Tmp → Value → World → Prop
  | 103, xx, _ => xx = .pointer (some ⟨gi, k * 7, none⟩)
  | 104, xx, _ => xx = .pointer (some ⟨gi, k * 7, none⟩)
  | 105, xx, _ => xx = .pointer (some ⟨gi, k * 7 + 6, none⟩)
  | 106, xx, _ => xx = .slice (some ⟨ga, 0, none⟩) na ca2
  | 107, xx, _ => xx = .int .i64 (m : Nat)
  | 108, xx, _ => xx = .func (.func 15) #[] #[.pointer (some ⟨pc, 0, none⟩)]
  | 109, xx, _ => xx = .pointer (some ⟨gi, k * 7, none⟩)
  | 110, xx, _ => xx = .pointer (some ⟨gi, k * 7, none⟩)
  | 111, xx, _ => xx = .pointer (some ⟨gi, k * 7 + 6, none⟩)
  | 112, xx, _ => xx = .slice (some ⟨ga, 0, none⟩) na ca2
  | 113, xx, _ => xx = .int .i64 (m : Nat)
  | 114, xx, _ => xx = .pointer (some ⟨ga, m, none⟩)
  | 115, xx, _ => xx = .int .i64 x
  | 116, xx, _ => xx = .int .i64 (x.tmod r)
  | 117, xx, _ => xx = .pointer (some ⟨ga, m, none⟩)
  | _, _, _ => True

structure S19 (B : Nat) (r : Int) (ga m : Nat) (x : Int) (wt : World) (l : Nat → Bool) (W : World) : Prop where
  md : Md B r wt W
  cx : W.cell? ⟨ga, m, none⟩ = some (.int .i64 (if l 15 = true then x.tmod r else x))
theorem S19.skip {B : Nat} {r : Int} {ga m : Nat} {x : Int} {wt W : World} {l : Nat → Bool} (h : S19 B r ga m x wt l W) {i : Nat} (h1 : i ≠ 15) : S19 B r ga m x wt (upd l i) W := by
  have u1 : upd l i 15 = l 15 := if_neg (fun e => h1 e.symm)
  exact ⟨h.md, by rw [u1]; exact h.cx⟩
/-- A cell's number below r, as its row has it. -/
theorem Sm.cell {t : TypeId} {r x : Int} {w w' : World} {B g o : Nat} {cs : Array Value} (hm : Md B r w w') (hrow : w.heap[g]? = some (Obj.cells cs t (0, 0))) (hc : w'.cell? ⟨g, o, none⟩ = some (.int .i64 x)) (hx : 0 ≤ x ∧ x < r) : Sm t r w' g o := by
  obtain ⟨cs', e1, _, _⟩ := hm.cells g cs t hrow
  rw [cell_of_row _ _ _ _ _ _ e1] at hc
  exact ⟨cs', x, e1, hc, hx.1, hx.2⟩

/-- 'c.Params, c.Blocks = f.Params, f.Blocks', then c.Slots. -/
theorem start5 {w W : World} {B pc pr : Nat} {p r s : Int} {u v : Value} {bs : List Blk} (h1 : W.heap[pc]? = some (Obj.cells (rowC 0 r 0 (.slice none 0 0)) 24 (0, 0))) (h2 : W.heap[pr]? = some (Obj.cells (rowC 0 0 0 (.slice none 0 0)) 24 (0, 0))) (hne : pr ≠ pc) (hB : B ≤ pc) (hO : BlksO B W v bs) (hb : Below B w W) :
    (((W.setCell ⟨pc, 0, none⟩ (.int .i64 p)).setCell ⟨pc, 3, none⟩ u).drew).heap[pc]? = some (Obj.cells (rowC p r 0 u) 24 (0, 0)) ∧
    ((((W.setCell ⟨pc, 0, none⟩ (.int .i64 p)).setCell ⟨pc, 3, none⟩ u).drew).setCell ⟨pc, 2, none⟩ (.int .i64 s)).heap[pc]? = some (Obj.cells (rowC p r s u) 24 (0, 0)) ∧
    ((((W.setCell ⟨pc, 0, none⟩ (.int .i64 p)).setCell ⟨pc, 3, none⟩ u).drew).setCell ⟨pc, 2, none⟩ (.int .i64 s)).heap[pr]? = some (Obj.cells (rowC 0 0 0 (.slice none 0 0)) 24 (0, 0)) ∧
    BlksO B ((((W.setCell ⟨pc, 0, none⟩ (.int .i64 p)).setCell ⟨pc, 3, none⟩ u).drew).setCell ⟨pc, 2, none⟩ (.int .i64 s)) v bs ∧
    Below B w ((((W.setCell ⟨pc, 0, none⟩ (.int .i64 p)).setCell ⟨pc, 3, none⟩ u).drew).setCell ⟨pc, 2, none⟩ (.int .i64 s)) := by
  have a1 := heap_setCell_same W pc 0 _ _ (.int .i64 p) h1
  have a2 := heap_setCell_same _ pc 3 _ _ u a1
  have a2' : (((W.setCell ⟨pc, 0, none⟩ (.int .i64 p)).setCell ⟨pc, 3, none⟩ u).drew).heap[pc]? = some (Obj.cells (rowC p r 0 u) 24 (0, 0)) := a2
  have a3 := heap_setCell_same _ pc 2 _ _ (.int .i64 s) a2'
  have k1 : Keeps T41 W _ := Keeps.set h1 rfl (.int .i64 p) (off := 0)
  have k2 : Keeps T41 _ _ := Keeps.set a1 rfl u (off := 3)
  have k3 : Keeps T41 _ _ := Keeps.set a2' rfl (.int .i64 s) (off := 2)
  refine ⟨a2', a3, ?_, ((hO.keeps k1).keeps k2 |>.keeps (Keeps.drew _)).keeps k3, (((hb.setCell (p := ⟨pc, 0, none⟩) hB _).setCell (p := ⟨pc, 3, none⟩) hB _).drew).setCell (p := ⟨pc, 2, none⟩) hB _⟩
  rw [Below.heap_setCell _ _ _ _ (by simpa using hne)]
  show ((W.setCell ⟨pc, 0, none⟩ (.int .i64 p)).setCell ⟨pc, 3, none⟩ u).heap[pr]? = _
  rw [Below.heap_setCell _ _ _ _ (by simpa using hne), Below.heap_setCell _ _ _ _ (by simpa using hne)]
  exact h2
set_option maxHeartbeats 8000000 in
set_option maxRecDepth 100000 in
theorem made5_any (sp : Value) (a b c : Int) (bs : List Int) (rg sl : Int) (mv : Value) (ms : List Int) (w : World) (h : SpecV w sp a b c bs) (hrg : 0 ≤ rg ∧ rg < 256) (hsl : 0 ≤ sl ∧ sl < 256) (hm : Byt w mv ms) :
    Calls Try.prog 9 #[sp, .int .u8 rg, .int .u8 sl, mv] w fun e w' => ∃ (C : Cod) (u : Value), e = .returned (.agg #[.int .i64 C.p, .int .i64 C.r, .int .i64 C.s, u]) ∧ BlksO w.heap.size w' u C.bs ∧ mchk C = (0, 0, 0) ∧ (∀ b ∈ C.bs, b.ins.length ≤ 100) ∧ Below w.heap.size w w' := by
  obtain ⟨su, rfl, ha, hb, hc, hu⟩ := h
  obtain ⟨ao, cap, rfl⟩ := hu.slice
  obtain ⟨ma, mc, rfl⟩ := hm.slice
  have hmf : ∀ (fn : Fn) (first cap : Array Value) (w : World), (Instr.makeFunc fn first cap).run Try.prog w = .ok (.func fn first cap) w := fun _ _ _ _ => rfl
  have tr : rg.tmod 6 = rg % 6 := Int.tmod_eq_emod_of_nonneg hrg.1
  have ts : sl.tmod 8 = sl % 8 := Int.tmod_eq_emod_of_nonneg hsl.1
  generalize hrr : rg % 6 = rr at tr
  generalize hss : sl % 8 = ss at ts
  have hrr' : 0 ≤ rr ∧ rr < 6 := by omega
  have hss' : 0 ≤ ss ∧ ss < 8 := by omega
  have HMS := hide hm
  have B1 := bel1 w (.cells #[.int .u8 a, .int .u8 0, .int .u8 c, .slice ao bs.length cap] 27)
  have z1 : (w.alloc (.cells #[.int .u8 a, .int .u8 0, .int .u8 c, .slice ao bs.length cap] 27)).heap.size = w.heap.size + 1 := by simp
  have hu1 := hu.below B1
  generalize hW1 : w.alloc (.cells #[.int .u8 a, .int .u8 0, .int .u8 c, .slice ao bs.length cap] 27) = W1 at *
  have B2 := bel1 W1 (.cells (rowC 0 0 0 (.slice none 0 0)) 24)
  have z2 : (W1.alloc (.cells (rowC 0 0 0 (.slice none 0 0)) 24)).heap.size = w.heap.size + 1 + 1 := by simp [z1]
  have h2 := heap_alloc_new W1 (.cells (rowC 0 0 0 (.slice none 0 0)) 24)
  rw [z1] at h2
  have hu2 := hu1.below B2
  generalize hW2 : W1.alloc (.cells (rowC 0 0 0 (.slice none 0 0)) 24) = W2 at *
  have B3 := bel1 W2 (.cells (rowC 0 (3 + rr) 0 (.slice none 0 0)) 24)
  have z3 : (W2.alloc (.cells (rowC 0 (3 + rr) 0 (.slice none 0 0)) 24)).heap.size = w.heap.size + 1 + 1 + 1 := by simp [z2]
  have h3 := heap_alloc_new W2 (.cells (rowC 0 (3 + rr) 0 (.slice none 0 0)) 24)
  rw [z2] at h3
  have h23 : (W2.alloc (.cells (rowC 0 (3 + rr) 0 (.slice none 0 0)) 24)).heap[w.heap.size + 1]? = some (Obj.cells (rowC 0 0 0 (.slice none 0 0)) 24 (0, 0)) := by
    rw [B3.block _ (by omega)]
    exact h2
  have hu3 := hu2.below B3
  generalize hW3 : W2.alloc (.cells (rowC 0 (3 + rr) 0 (.slice none 0 0)) 24) = W3 at *
  have hM := hide (made_any _ a 0 c bs W3 ⟨_, rfl, ha, by omega, hc, hu3⟩)
  have HB3 := hide (bel_of (bel_of B1 B2) B3)
  have H3 := hide h3
  have H23 := hide h23
  have HZ3 := hide z3
  have HMB := hide (made_blocks a 0 c bs)
  have HML := hide (made_len a 0 c bs)
  have HMP : Hid ((made a 0 c bs).p = a % 5) := rfl
  rw [← hW3, ← hW2, ← hW1] at hM
  have E1 := hide hW1
  have E2 := hide hW2
  have E3 := hide hW3
  unfold rowC at hM
  clear hu hu1 hu2 hu3 B1 B2 B3 z1 z2 z3 h2 h3 h23 hW1 hW2 hW3 hm
  go_enter Try.func9, Try.ntmps9
  go_wp2_with fail
  refine hM.out.mono ?_
  rintro e w4 ⟨u, rfl, hO4, hB4⟩
  have e1 := E1.out
  have e2 := E2.out
  have e3 := E3.out
  unfold rowC at e2 e3
  rw [e1, e2, e3] at hO4 hB4
  clear e1 e2 e3 E1 E2 E3 hM
  have hBw := HB3.out
  have hO4 := BlksO.mono hO4 hBw.size
  have hmb := HMB.out
  have hml := HML.out
  have hmp := HMP.out
  generalize made a 0 c bs = F at *
  generalize hvv : vOf a 0 = vv at *
  obtain ⟨g, gc, rfl, hBg, hok⟩ := hO4.ok hmb (by omega)
  have hP : 0 ≤ F.p ∧ F.p ≤ 4 := by rw [hmp]; omega
  have hN : 1 ≤ F.bs.length ∧ F.bs.length ≤ 7 := by omega
  have hz3 := HZ3.out
  have hz4 := hB4.size
  have hr3 := hB4.block (w.heap.size + 1 + 1) (by omega)
  rw [H3.out] at hr3
  have hr2 := hB4.block (w.heap.size + 1) (by omega)
  rw [H23.out] at hr2
  have B5 := bel1 w4 (.cells #[.int .i64 F.p, .int .i64 F.v, .slice (some ⟨g, 0, none⟩) F.bs.length gc] 53)
  have hf := heap_alloc_new w4 (.cells #[.int .i64 F.p, .int .i64 F.v, .slice (some ⟨g, 0, none⟩) F.bs.length gc] 53)
  have hr35 := B5.block (w.heap.size + 1 + 1) (by omega)
  rw [hr3] at hr35
  have hr25 := B5.block (w.heap.size + 1) (by omega)
  rw [hr2] at hr25
  have HO5 := hide (hO4.below B5)
  have HB5 := hide (bel_to (bel_to hBw hB4 hBw.size) B5 (Nat.le_trans hBw.size hz4))
  have f0 : (w4.alloc (.cells #[.int .i64 F.p, .int .i64 F.v, .slice (some ⟨g, 0, none⟩) F.bs.length gc] 53)).cell? ⟨w4.heap.size, 0, none⟩ = some (.int .i64 F.p) := by rw [cell_of_row _ _ _ _ _ _ hf]; rfl
  have f2 : (w4.alloc (.cells #[.int .i64 F.p, .int .i64 F.v, .slice (some ⟨g, 0, none⟩) F.bs.length gc] 53)).cell? ⟨w4.heap.size, 2, none⟩ = some (.slice (some ⟨g, 0, none⟩) F.bs.length gc) := by rw [cell_of_row _ _ _ _ _ _ hf]; rfl
  obtain ⟨c0, c1, c2, c3⟩ := rowC_cells hr35
  have q0 := frozen_of_row _ _ 0 _ _ hr35
  have q2 := frozen_of_row _ _ 2 _ _ hr35
  have q3 := frozen_of_row _ _ 3 _ _ hr35
  have HR3 := hide hr35
  have HR2 := hide hr25
  have HZ4 : Hid (w.heap.size + 1 + 1 < w4.heap.size) := by show _ < _; omega
  have HMB2 := hide hmb
  have HML2 := hide hml
  clear hr35 hr25 hr3 hr2 hf B5 hO4 hB4 H3 H23 hmb hml hmp HMB HML hz3 hz4 hok HB3
  go_wp2_with fail
  generalize w4.alloc (.cells #[.int .i64 F.p, .int .i64 F.v, .slice (some ⟨g, 0, none⟩) F.bs.length gc] 53) = W5 at *
  generalize w4.heap.size = pf at *
  obtain ⟨mx, hmx⟩ : ∃ mx, mx = max F.p 1 := ⟨_, rfl⟩
  have hmax : ∀ (ts : Array TypeId) (t : TypeId) (W : World), (Builtin.max_ ts t #[.int .i64 F.p, .int .i64 1]).run Try.prog W = .ok (.int .i64 mx) W := by
    intro ts t W
    rw [run_max_int2, hmx]
    congr 2
    split <;> omega
  have hmx' : 1 ≤ mx ∧ mx < 5 ∧ F.p ≤ mx := by omega
  clear hmx
  obtain ⟨s1, s2, s3, s4, s5⟩ := start5 (p := F.p) (s := mx + ss) (u := .slice (some ⟨g, 0, none⟩) F.bs.length gc) HR3.out HR2.out (by omega) (by omega) HO5.out HB5.out
  go_region
  generalize ((W5.setCell ⟨w.heap.size + 1 + 1, 0, none⟩ (.int .i64 F.p)).setCell ⟨w.heap.size + 1 + 1, 3, none⟩ (.slice (some ⟨g, 0, none⟩) F.bs.length gc)).drew = W6 at *
  obtain ⟨k0, k1, k2, k3⟩ := rowC_cells s1
  have k4 := frozen_of_row _ _ 2 _ _ s1
  obtain ⟨m0, m1, m2, m3⟩ := rowC_cells s2
  have S2 := hide s2
  have S3 := hide s3
  have S4 := hide s4
  have S5 := hide s5
  clear s1 s2 s3 s4 s5 c0 c1 c2 c3 q0 q2 q3 f0 f2 HR2 HR3 HO5 HB5
  go_wp2_with fail
  generalize W6.setCell ⟨w.heap.size + 1 + 1, 2, none⟩ (.int .i64 (mx + ss)) = W0 at *
  obtain ⟨g', c', e', _, hok⟩ := S4.out.ok HMB2.out (by omega)
  simp only [Value.slice.injEq, Option.some.injEq, Addr.mk.injEq, and_true] at e'
  obtain ⟨rfl, _, rfl⟩ := e'
  have HOK := hide hok
  have hr0 : 0 < 3 + rr := by omega
  have hrb : 3 ≤ 3 + rr ∧ 3 + rr ≤ 8 := by omega
  have hsb : F.p ≤ mx + ss ∧ 1 ≤ mx + ss ∧ mx + ss ≤ 64 := by omega
  generalize 3 + rr = r at *
  generalize mx + ss = s at *
  generalize hnb : F.bs.length = nb at *
  have HNB := hide hnb
  have hpc0 : w.heap.size + 1 ≠ w.heap.size + 1 + 1 ∧ w.heap.size ≤ w.heap.size + 1 + 1 ∧ w.heap.size ≤ w.heap.size + 1 := by omega
  generalize hpce : w.heap.size + 1 + 1 = pc at *
  generalize hpre : w.heap.size + 1 = pr at *
  generalize hBe : w.heap.size = B at *
  clear hok k0 k1 k2 k3 k4 hmax hpce hpre hnb tr ts hrr hss HZ3 HZ4
  go_loopw [12, 13, 14, 15, 16, 47] (fun _ _ _ _ _ iv wr => ∃ j : Nat, j ≤ nb ∧ iv = .int .i64 j ∧ Md B r W0 wr ∧ ∀ j', j' < j → BlkDone r wr g (j' * 5)) (fun _ _ _ _ _ iv _ => nb - (intOf iv).toNat)
  case atStart => exact ⟨0, by omega, rfl, Md.refl _ _ _, fun j' h => by omega⟩
  case round =>
    rename World => wo
    obtain ⟨j, hj, rfl, hMd, hdone⟩ := hrel
    have hpc := hMd.keeps S2.out ⟨by decide, by decide, by decide⟩
    obtain ⟨m0, m1, m2, m3⟩ := rowC_cells hpc
    by_cases hlt : j < nb
    · obtain ⟨hN0, ua, n, uc, hSl, hn1000, hIs⟩ := (HOK.out j hlt).md hMd
      have hc0 := hSl.cell
      have HPC := hide hpc
      have HN0 := hide hN0
      have HSL := hide hSl
      have HIS := hide hIs
      have HMD := hide hMd
      have HDONE := hide hdone
      have hlt' : (j : Int) < (nb : Int) := by omega
      clear hN0 hSl hIs hMd hdone hpc
      go_wp2_with fail
      go_loopw [14, 15, 16, 59] (fun _ _ _ kv ws => ∃ k : Nat, k ≤ n ∧ kv = .int .i64 k ∧ Md B r wo ws ∧ InssDone r ws ua k) (fun _ _ _ kv _ => n - (intOf kv).toNat)
      case atStart => exact ⟨0, by omega, rfl, Md.refl _ _ _, fun k' h => by omega⟩
      case round =>
        rename World => ws
        obtain ⟨k, hk, rfl, hMd2, hdone2⟩ := hrel
        have hpc := HPC.out
        have hpc := hMd2.keeps hpc ⟨by decide, by decide, by decide⟩
        have hc0 := (HSL.out.md hMd2).cell
        by_cases hltk : k < n
        · obtain ⟨gi, rfl, hBi, hd0, ha0, hb0, ua2, na, ca2, hSl6, hna, hArgs⟩ := (HIS.out.md hMd2) k hltk
          obtain ⟨cs, xd, hrow, hcd, hd, hxd1⟩ := hd0.cell
          obtain ⟨_, xa, _, _, ha, hxa1⟩ := ha0.cell
          obtain ⟨_, xb, _, _, hb, hxb1⟩ := hb0.cell
          have hltk' : (k : Int) < (n : Int) := by omega
          have HA := hide hArgs
          have HMD2 := hide hMd2
          have HD2 := hide hdone2
          have HROW := hide hrow
          clear hArgs hMd2 hdone2 hd0 ha0 hb0 hcd HOK
          go_wp2_with fail
          refine L.wp_region_eachL (by kernel_rfl) (fun _ t y _ => G15 pc gi k r xd xa xb t y ws) (fun l W => S15 B r gi k xd xa xb ws l W) (by kernel_rfl) ⟨Md.drew _ _ _, hd, ha, hb⟩ ?_ ?_
          · refine And.intro ?_ (And.intro ?_ (And.intro ?_ (And.intro ?_ (And.intro ?_ (And.intro ?_ (And.intro ?_ (And.intro ?_ (And.intro ?_ (And.intro ?_ (And.intro ?_ (And.intro ?_ (And.intro ?_ (And.intro ?_ (And.intro ?_ (And.intro ?_ (And.intro ?_ (And.intro ?_ (And.intro ?_ (And.intro ?_ (And.intro ?_ (And.intro ?_ (And.intro ?_ (And.intro ?_ (And.intro ?_ (And.intro ?_ (And.intro ?_ (And.intro ?_ (And.intro ?_ (And.intro ?_ trivial)))))))))))))))))))))))))))))
            · refine L.asked_pure rfl rfl (fun _ _ h => h.skip (by decide) (by decide) (by decide)) (fun _ _ _ _ _ h => h) (fun _ _ _ => rfl) (fun l a W H => ?_)
              have e15 : a.eval (.tmp 15) = .pointer (some ⟨gi, k * 7, none⟩) := H.base 15 rfl
              exact run_move rfl e15
            · refine L.asked_pure rfl rfl (fun _ _ h => h.skip (by decide) (by decide) (by decide)) (fun _ _ _ _ _ h => h) (fun _ _ _ => rfl) (fun l a W H => ?_)
              have e15 : a.eval (.tmp 15) = .pointer (some ⟨gi, k * 7, none⟩) := H.base 15 rfl
              exact run_move rfl e15
            · refine L.asked_pure rfl rfl (fun _ _ h => h.skip (by decide) (by decide) (by decide)) (fun _ _ _ _ _ h => h) (fun _ _ _ => rfl) (fun l a W H => ?_)
              have e15 : a.eval (.tmp 15) = .pointer (some ⟨gi, k * 7, none⟩) := H.base 15 rfl
              exact run_move rfl e15
            · refine L.asked_pure rfl rfl (fun _ _ h => h.skip (by decide) (by decide) (by decide)) (fun _ _ _ _ _ h => h) (fun _ _ _ => rfl) (fun l a W H => ?_)
              have e11 : a.eval (.tmp 11) = .func (.func 15) #[] #[.pointer (some ⟨pc, 0, none⟩)] := H.base 11 rfl
              exact run_move rfl e11
            · refine L.asked_pure rfl rfl (fun _ _ h => h.skip (by decide) (by decide) (by decide)) (fun _ _ _ _ _ h => h) (fun _ _ _ => rfl) (fun l a W H => ?_)
              have e15 : a.eval (.tmp 15) = .pointer (some ⟨gi, k * 7, none⟩) := H.base 15 rfl
              exact run_move rfl e15
            · refine L.asked_pure rfl rfl (fun _ _ h => h.skip (by decide) (by decide) (by decide)) (fun _ _ _ _ _ h => h) (fun _ _ _ => rfl) (fun l a W H => ?_)
              have e72 : a.eval (.tmp 72) = .pointer (some ⟨gi, k * 7, none⟩) := H.facts 72 rfl
              (simp only [execOp]; try simp only [Option.map]); (try simp only [List.map_toArray, List.map_cons, List.map_nil]); (simp only [e72]; go_simp)
            · refine L.asked_pure rfl rfl (fun _ _ h => h.skip (by decide) (by decide) (by decide)) (fun _ _ _ _ _ h => h) (fun _ _ _ => rfl) (fun l a W H => ?_)
              have e73 : a.eval (.tmp 73) = .pointer (some ⟨gi, k * 7, none⟩) := H.facts 73 rfl
              (simp only [execOp]; try simp only [Option.map]); (try simp only [List.map_toArray, List.map_cons, List.map_nil]); (simp only [e73]; go_simp)
            · refine L.asked_pure rfl rfl (fun _ _ h => h.skip (by decide) (by decide) (by decide)) (fun _ _ _ _ _ h => h) (fun _ _ _ => rfl) (fun l a W H => ?_)
              have e74 : a.eval (.tmp 74) = .pointer (some ⟨gi, k * 7 + 2, none⟩) := H.facts 74 rfl
              have hl : l 23 = false := by
                cases hs : l 23 with
                | false => rfl
                | true =>
                  have h1 := H.closed 8 7 (by rfl) (H.closed 23 8 (by rfl) hs)
                  rw [H.new] at h1
                  cases h1
              have hcc := H.s.cd
              rw [hl] at hcc
              have hcc : W.cell? ⟨gi, k * 7 + 2, none⟩ = some (.int .i64 xd) := hcc
              (simp only [execOp]; try simp only [Option.map]); (try simp only [List.map_toArray, List.map_cons, List.map_nil]); (simp only [e74]; go_simp)
            · refine L.asked_clos (cap := #[.pointer (some ⟨pc, 0, none⟩)]) rfl Try.func15 (by kernel_rfl) (by kernel_rfl) rfl rfl (fun l a W H => ?_)
              have ef : a.eval (.tmp 71) = .func (.func 15) #[] #[.pointer (some ⟨pc, 0, none⟩)] := H.facts 71 rfl
              have ex : a.eval (.tmp 75) = .int .i64 xd := H.facts 75 rfl
              refine ⟨ef, ?_⟩
              have ea : (#[Operand.tmp 75] : Array Operand).map a.eval ++ #[Value.pointer (some ⟨pc, 0, none⟩)] = #[.int .i64 xd, .pointer (some ⟨pc, 0, none⟩)] := by simp [ex]
              rw [ea]
              refine (at_any xd r pc W ((rowC_cells (H.s.md.keeps hpc ⟨by decide, by decide, by decide⟩)).2.1) hr0).mono ?_
              rintro y w' ⟨rfl, rfl⟩
              exact ⟨_, rfl, rfl, H.s.skip (by decide) (by decide) (by decide), fun _ _ _ h => h⟩
            · refine L.asked_pure rfl rfl (fun _ _ h => h.skip (by decide) (by decide) (by decide)) (fun _ _ _ _ _ h => h) (fun _ _ _ => rfl) (fun l a W H => ?_)
              have e11 : a.eval (.tmp 11) = .func (.func 15) #[] #[.pointer (some ⟨pc, 0, none⟩)] := H.base 11 rfl
              exact run_move rfl e11
            · refine L.asked_pure rfl rfl (fun _ _ h => h.skip (by decide) (by decide) (by decide)) (fun _ _ _ _ _ h => h) (fun _ _ _ => rfl) (fun l a W H => ?_)
              have e15 : a.eval (.tmp 15) = .pointer (some ⟨gi, k * 7, none⟩) := H.base 15 rfl
              exact run_move rfl e15
            · refine L.asked_pure rfl rfl (fun _ _ h => h.skip (by decide) (by decide) (by decide)) (fun _ _ _ _ _ h => h) (fun _ _ _ => rfl) (fun l a W H => ?_)
              have e78 : a.eval (.tmp 78) = .pointer (some ⟨gi, k * 7, none⟩) := H.facts 78 rfl
              (simp only [execOp]; try simp only [Option.map]); (try simp only [List.map_toArray, List.map_cons, List.map_nil]); (simp only [e78]; go_simp)
            · refine L.asked_pure rfl rfl (fun _ _ h => h.skip (by decide) (by decide) (by decide)) (fun _ _ _ _ _ h => h) (fun _ _ _ => rfl) (fun l a W H => ?_)
              have e79 : a.eval (.tmp 79) = .pointer (some ⟨gi, k * 7, none⟩) := H.facts 79 rfl
              (simp only [execOp]; try simp only [Option.map]); (try simp only [List.map_toArray, List.map_cons, List.map_nil]); (simp only [e79]; go_simp)
            · refine L.asked_pure rfl rfl (fun _ _ h => h.skip (by decide) (by decide) (by decide)) (fun _ _ _ _ _ h => h) (fun _ _ _ => rfl) (fun l a W H => ?_)
              have e80 : a.eval (.tmp 80) = .pointer (some ⟨gi, k * 7 + 3, none⟩) := H.facts 80 rfl
              have hl : l 26 = false := by
                cases hs : l 26 with
                | false => rfl
                | true =>
                  have h1 := H.closed 14 13 (by rfl) (H.closed 26 14 (by rfl) hs)
                  rw [H.new] at h1
                  cases h1
              have hcc := H.s.ca
              rw [hl] at hcc
              have hcc : W.cell? ⟨gi, k * 7 + 3, none⟩ = some (.int .i64 xa) := hcc
              (simp only [execOp]; try simp only [Option.map]); (try simp only [List.map_toArray, List.map_cons, List.map_nil]); (simp only [e80]; go_simp)
            · refine L.asked_clos (cap := #[.pointer (some ⟨pc, 0, none⟩)]) rfl Try.func15 (by kernel_rfl) (by kernel_rfl) rfl rfl (fun l a W H => ?_)
              have ef : a.eval (.tmp 77) = .func (.func 15) #[] #[.pointer (some ⟨pc, 0, none⟩)] := H.facts 77 rfl
              have ex : a.eval (.tmp 81) = .int .i64 xa := H.facts 81 rfl
              refine ⟨ef, ?_⟩
              have ea : (#[Operand.tmp 81] : Array Operand).map a.eval ++ #[Value.pointer (some ⟨pc, 0, none⟩)] = #[.int .i64 xa, .pointer (some ⟨pc, 0, none⟩)] := by simp [ex]
              rw [ea]
              refine (at_any xa r pc W ((rowC_cells (H.s.md.keeps hpc ⟨by decide, by decide, by decide⟩)).2.1) hr0).mono ?_
              rintro y w' ⟨rfl, rfl⟩
              exact ⟨_, rfl, rfl, H.s.skip (by decide) (by decide) (by decide), fun _ _ _ h => h⟩
            · refine L.asked_pure rfl rfl (fun _ _ h => h.skip (by decide) (by decide) (by decide)) (fun _ _ _ _ _ h => h) (fun _ _ _ => rfl) (fun l a W H => ?_)
              have e11 : a.eval (.tmp 11) = .func (.func 15) #[] #[.pointer (some ⟨pc, 0, none⟩)] := H.base 11 rfl
              exact run_move rfl e11
            · refine L.asked_pure rfl rfl (fun _ _ h => h.skip (by decide) (by decide) (by decide)) (fun _ _ _ _ _ h => h) (fun _ _ _ => rfl) (fun l a W H => ?_)
              have e15 : a.eval (.tmp 15) = .pointer (some ⟨gi, k * 7, none⟩) := H.base 15 rfl
              exact run_move rfl e15
            · refine L.asked_pure rfl rfl (fun _ _ h => h.skip (by decide) (by decide) (by decide)) (fun _ _ _ _ _ h => h) (fun _ _ _ => rfl) (fun l a W H => ?_)
              have e84 : a.eval (.tmp 84) = .pointer (some ⟨gi, k * 7, none⟩) := H.facts 84 rfl
              (simp only [execOp]; try simp only [Option.map]); (try simp only [List.map_toArray, List.map_cons, List.map_nil]); (simp only [e84]; go_simp)
            · refine L.asked_pure rfl rfl (fun _ _ h => h.skip (by decide) (by decide) (by decide)) (fun _ _ _ _ _ h => h) (fun _ _ _ => rfl) (fun l a W H => ?_)
              have e85 : a.eval (.tmp 85) = .pointer (some ⟨gi, k * 7, none⟩) := H.facts 85 rfl
              (simp only [execOp]; try simp only [Option.map]); (try simp only [List.map_toArray, List.map_cons, List.map_nil]); (simp only [e85]; go_simp)
            · refine L.asked_pure rfl rfl (fun _ _ h => h.skip (by decide) (by decide) (by decide)) (fun _ _ _ _ _ h => h) (fun _ _ _ => rfl) (fun l a W H => ?_)
              have e86 : a.eval (.tmp 86) = .pointer (some ⟨gi, k * 7 + 4, none⟩) := H.facts 86 rfl
              have hl : l 29 = false := by
                cases hs : l 29 with
                | false => rfl
                | true =>
                  have h1 := H.closed 20 19 (by rfl) (H.closed 29 20 (by rfl) hs)
                  rw [H.new] at h1
                  cases h1
              have hcc := H.s.cb
              rw [hl] at hcc
              have hcc : W.cell? ⟨gi, k * 7 + 4, none⟩ = some (.int .i64 xb) := hcc
              (simp only [execOp]; try simp only [Option.map]); (try simp only [List.map_toArray, List.map_cons, List.map_nil]); (simp only [e86]; go_simp)
            · refine L.asked_clos (cap := #[.pointer (some ⟨pc, 0, none⟩)]) rfl Try.func15 (by kernel_rfl) (by kernel_rfl) rfl rfl (fun l a W H => ?_)
              have ef : a.eval (.tmp 83) = .func (.func 15) #[] #[.pointer (some ⟨pc, 0, none⟩)] := H.facts 83 rfl
              have ex : a.eval (.tmp 87) = .int .i64 xb := H.facts 87 rfl
              refine ⟨ef, ?_⟩
              have ea : (#[Operand.tmp 87] : Array Operand).map a.eval ++ #[Value.pointer (some ⟨pc, 0, none⟩)] = #[.int .i64 xb, .pointer (some ⟨pc, 0, none⟩)] := by simp [ex]
              rw [ea]
              refine (at_any xb r pc W ((rowC_cells (H.s.md.keeps hpc ⟨by decide, by decide, by decide⟩)).2.1) hr0).mono ?_
              rintro y w' ⟨rfl, rfl⟩
              exact ⟨_, rfl, rfl, H.s.skip (by decide) (by decide) (by decide), fun _ _ _ h => h⟩
            · refine L.asked_pure rfl rfl (fun _ _ h => h.skip (by decide) (by decide) (by decide)) (fun _ _ _ _ _ h => h) (fun _ _ _ => rfl) (fun l a W H => ?_)
              have e68 : a.eval (.tmp 68) = .pointer (some ⟨gi, k * 7, none⟩) := H.facts 68 rfl
              (simp only [execOp]; try simp only [Option.map]); (try simp only [List.map_toArray, List.map_cons, List.map_nil]); (simp only [e68]; go_simp)
            · refine L.asked_pure rfl rfl (fun _ _ h => h.skip (by decide) (by decide) (by decide)) (fun _ _ _ _ _ h => h) (fun _ _ _ => rfl) (fun l a W H => ?_)
              have e89 : a.eval (.tmp 89) = .pointer (some ⟨gi, k * 7, none⟩) := H.facts 89 rfl
              (simp only [execOp]; try simp only [Option.map]); (try simp only [List.map_toArray, List.map_cons, List.map_nil]); (simp only [e89]; go_simp)
            · refine L.asked_skip rfl rfl (fun l a W H => ?_)
              have ep : a.eval (.tmp 90) = .pointer (some ⟨gi, k * 7 + 2, none⟩) := H.facts 90 rfl
              have ev : a.eval (.tmp 76) = .int .i64 (xd.tmod r) := H.facts 76 rfl
              have hcc := H.s.cd
              rw [H.new] at hcc
              have hcc : W.cell? ⟨gi, k * 7 + 2, none⟩ = some (.int .i64 xd) := hcc
              obtain ⟨cs', e1, _, _⟩ := H.s.md.cells gi cs 46 hrow
              have hf : W.frozen? ⟨gi, k * 7 + 2, none⟩ = false := frozen_of_row _ _ _ _ _ e1
              have hci := hcc
              rw [cell_of_row _ _ _ _ _ _ e1] at hci
              refine ⟨W.setCell ⟨gi, k * 7 + 2, none⟩ (.int .i64 (xd.tmod r)), ?_, H.s.stcd (H.s.md.trans (Md.set e1 hci (by simp [may]) (Rm.tmod hr0 hxd1) hBi)) hcc, fun _ _ h => h⟩
              (simp only [execOp]; try simp only [Option.map]); (try simp only [List.map_toArray, List.map_cons, List.map_nil]); (simp only [ep, ev]; go_simp)
            · refine L.asked_pure rfl rfl (fun _ _ h => h.skip (by decide) (by decide) (by decide)) (fun _ _ _ _ _ h => h) (fun _ _ _ => rfl) (fun l a W H => ?_)
              have e69 : a.eval (.tmp 69) = .pointer (some ⟨gi, k * 7, none⟩) := H.facts 69 rfl
              (simp only [execOp]; try simp only [Option.map]); (try simp only [List.map_toArray, List.map_cons, List.map_nil]); (simp only [e69]; go_simp)
            · refine L.asked_pure rfl rfl (fun _ _ h => h.skip (by decide) (by decide) (by decide)) (fun _ _ _ _ _ h => h) (fun _ _ _ => rfl) (fun l a W H => ?_)
              have e91 : a.eval (.tmp 91) = .pointer (some ⟨gi, k * 7, none⟩) := H.facts 91 rfl
              (simp only [execOp]; try simp only [Option.map]); (try simp only [List.map_toArray, List.map_cons, List.map_nil]); (simp only [e91]; go_simp)
            · refine L.asked_skip rfl rfl (fun l a W H => ?_)
              have ep : a.eval (.tmp 92) = .pointer (some ⟨gi, k * 7 + 3, none⟩) := H.facts 92 rfl
              have ev : a.eval (.tmp 82) = .int .i64 (xa.tmod r) := H.facts 82 rfl
              have hcc := H.s.ca
              rw [H.new] at hcc
              have hcc : W.cell? ⟨gi, k * 7 + 3, none⟩ = some (.int .i64 xa) := hcc
              obtain ⟨cs', e1, _, _⟩ := H.s.md.cells gi cs 46 hrow
              have hf : W.frozen? ⟨gi, k * 7 + 3, none⟩ = false := frozen_of_row _ _ _ _ _ e1
              have hci := hcc
              rw [cell_of_row _ _ _ _ _ _ e1] at hci
              refine ⟨W.setCell ⟨gi, k * 7 + 3, none⟩ (.int .i64 (xa.tmod r)), ?_, H.s.stca (H.s.md.trans (Md.set e1 hci (by simp [may]) (Rm.tmod hr0 hxa1) hBi)) hcc, fun _ _ h => h⟩
              (simp only [execOp]; try simp only [Option.map]); (try simp only [List.map_toArray, List.map_cons, List.map_nil]); (simp only [ep, ev]; go_simp)
            · refine L.asked_pure rfl rfl (fun _ _ h => h.skip (by decide) (by decide) (by decide)) (fun _ _ _ _ _ h => h) (fun _ _ _ => rfl) (fun l a W H => ?_)
              have e70 : a.eval (.tmp 70) = .pointer (some ⟨gi, k * 7, none⟩) := H.facts 70 rfl
              (simp only [execOp]; try simp only [Option.map]); (try simp only [List.map_toArray, List.map_cons, List.map_nil]); (simp only [e70]; go_simp)
            · refine L.asked_pure rfl rfl (fun _ _ h => h.skip (by decide) (by decide) (by decide)) (fun _ _ _ _ _ h => h) (fun _ _ _ => rfl) (fun l a W H => ?_)
              have e93 : a.eval (.tmp 93) = .pointer (some ⟨gi, k * 7, none⟩) := H.facts 93 rfl
              (simp only [execOp]; try simp only [Option.map]); (try simp only [List.map_toArray, List.map_cons, List.map_nil]); (simp only [e93]; go_simp)
            · refine L.asked_skip rfl rfl (fun l a W H => ?_)
              have ep : a.eval (.tmp 94) = .pointer (some ⟨gi, k * 7 + 4, none⟩) := H.facts 94 rfl
              have ev : a.eval (.tmp 88) = .int .i64 (xb.tmod r) := H.facts 88 rfl
              have hcc := H.s.cb
              rw [H.new] at hcc
              have hcc : W.cell? ⟨gi, k * 7 + 4, none⟩ = some (.int .i64 xb) := hcc
              obtain ⟨cs', e1, _, _⟩ := H.s.md.cells gi cs 46 hrow
              have hf : W.frozen? ⟨gi, k * 7 + 4, none⟩ = false := frozen_of_row _ _ _ _ _ e1
              have hci := hcc
              rw [cell_of_row _ _ _ _ _ _ e1] at hci
              refine ⟨W.setCell ⟨gi, k * 7 + 4, none⟩ (.int .i64 (xb.tmod r)), ?_, H.s.stcb (H.s.md.trans (Md.set e1 hci (by simp [may]) (Rm.tmod hr0 hxb1) hBi)) hcc, fun _ _ h => h⟩
              (simp only [execOp]; try simp only [Option.map]); (try simp only [List.map_toArray, List.map_cons, List.map_nil]); (simp only [ep, ev]; go_simp)
          · intro l s5 w2 hall hS _
            have hmd := hS.md
            have t1 := hS.cd
            have t2 := hS.ca
            have t3 := hS.cb
            rw [hall 23 (by decide)] at t1
            rw [hall 26 (by decide)] at t2
            rw [hall 29 (by decide)] at t3
            have D1 := hide (Sm.cell hmd HROW.out t1 (tmod_in hr0 hxd1))
            have D2 := hide (Sm.cell hmd HROW.out t2 (tmod_in hr0 hxa1))
            have D3 := hide (Sm.cell hmd HROW.out t3 (tmod_in hr0 hxb1))
            have HSL6 := hide (hSl6.md hmd)
            have hc6 := (hSl6.md hmd).cell
            have HA2 := hide (HA.out.md hmd)
            have HMD3 := hide (HMD2.out.trans hmd)
            have HD3 := hide (HD2.out.md hmd)
            have HPC2 := hide (hmd.keeps hpc ⟨by decide, by decide, by decide⟩)
            clear hS hall t1 t2 t3 hmd hd ha hb hpc HROW HMD2 HD2 HA hSl6 hc0 m0 m1 m2 m3 hrow hxd1 hxa1 hxb1
            simp [overlay, dstsOf]
            go_wp2_with fail
            go_loopw [16, 100] (fun _ mv wt => ∃ m : Nat, m ≤ na ∧ mv = .int .i64 m ∧ Md B r w2 wt ∧ ArgsDone r wt ua2 m) (fun _ mv _ => na - (intOf mv).toNat)
            case atStart => exact ⟨0, by omega, rfl, Md.refl _ _ _, fun k' h => by omega⟩
            case round =>
              rename World => wt
              obtain ⟨m, hm, rfl, hMd4, hdone4⟩ := hrel
              have hSl6 := HSL6.out.md hMd4
              by_cases hltm : m < na
              · obtain ⟨ga, rfl, hBa, hx0⟩ := (HA2.out.md hMd4) m hltm
                obtain ⟨csx, x, hrx, _, hx, hx1⟩ := hx0.cell
                have hpc := hMd4.keeps HPC2.out ⟨by decide, by decide, by decide⟩
                have hltm' : (m : Int) < (na : Int) := by omega
                have HMD4 := hide hMd4
                have HD4 := hide hdone4
                clear hMd4 hdone4 hx0
                go_wp2_with fail
                refine L.wp_region_eachL (by kernel_rfl) (fun _ t y _ => G19 pc gi k ga na ca2 m r x t y wt) (fun l W => S19 B r ga m x wt l W) (by kernel_rfl) ⟨Md.drew _ _ _, hx⟩ ?_ ?_
                · refine And.intro ?_ (And.intro ?_ (And.intro ?_ (And.intro ?_ (And.intro ?_ (And.intro ?_ (And.intro ?_ (And.intro ?_ (And.intro ?_ (And.intro ?_ (And.intro ?_ (And.intro ?_ (And.intro ?_ (And.intro ?_ (And.intro ?_ (And.intro ?_ trivial)))))))))))))))
                  · refine L.asked_pure rfl rfl (fun _ _ h => h.skip (by decide)) (fun _ _ _ _ _ h => h) (fun _ _ _ => rfl) (fun l a W H => ?_)
                    have e15 : a.eval (.tmp 15) = .pointer (some ⟨gi, k * 7, none⟩) := H.base 15 rfl
                    exact run_move rfl e15
                  · refine L.asked_pure rfl rfl (fun _ _ h => h.skip (by decide)) (fun _ _ _ _ _ h => h) (fun _ _ _ => rfl) (fun l a W H => ?_)
                    have e103 : a.eval (.tmp 103) = .pointer (some ⟨gi, k * 7, none⟩) := H.facts 103 rfl
                    (simp only [execOp]; try simp only [Option.map]); (try simp only [List.map_toArray, List.map_cons, List.map_nil]); (simp only [e103]; go_simp)
                  · refine L.asked_pure rfl rfl (fun _ _ h => h.skip (by decide)) (fun _ _ _ _ _ h => h) (fun _ _ _ => rfl) (fun l a W H => ?_)
                    have e104 : a.eval (.tmp 104) = .pointer (some ⟨gi, k * 7, none⟩) := H.facts 104 rfl
                    (simp only [execOp]; try simp only [Option.map]); (try simp only [List.map_toArray, List.map_cons, List.map_nil]); (simp only [e104]; go_simp)
                  · refine L.asked_pure rfl rfl (fun _ _ h => h.skip (by decide)) (fun _ _ _ _ _ h => h) (fun _ _ _ => rfl) (fun l a W H => ?_)
                    have e105 : a.eval (.tmp 105) = .pointer (some ⟨gi, k * 7 + 6, none⟩) := H.facts 105 rfl
                    have hcc := (hSl6.md H.s.md).cell
                    (simp only [execOp]; try simp only [Option.map]); (try simp only [List.map_toArray, List.map_cons, List.map_nil]); (simp only [e105]; go_simp)
                  · refine L.asked_pure rfl rfl (fun _ _ h => h.skip (by decide)) (fun _ _ _ _ _ h => h) (fun _ _ _ => rfl) (fun l a W H => ?_)
                    have e16 : a.eval (.tmp 16) = .int .i64 (m : Nat) := H.base 16 rfl
                    exact run_move rfl e16
                  · refine L.asked_pure rfl rfl (fun _ _ h => h.skip (by decide)) (fun _ _ _ _ _ h => h) (fun _ _ _ => rfl) (fun l a W H => ?_)
                    have e11 : a.eval (.tmp 11) = .func (.func 15) #[] #[.pointer (some ⟨pc, 0, none⟩)] := H.base 11 rfl
                    exact run_move rfl e11
                  · refine L.asked_pure rfl rfl (fun _ _ h => h.skip (by decide)) (fun _ _ _ _ _ h => h) (fun _ _ _ => rfl) (fun l a W H => ?_)
                    have e15 : a.eval (.tmp 15) = .pointer (some ⟨gi, k * 7, none⟩) := H.base 15 rfl
                    exact run_move rfl e15
                  · refine L.asked_pure rfl rfl (fun _ _ h => h.skip (by decide)) (fun _ _ _ _ _ h => h) (fun _ _ _ => rfl) (fun l a W H => ?_)
                    have e109 : a.eval (.tmp 109) = .pointer (some ⟨gi, k * 7, none⟩) := H.facts 109 rfl
                    (simp only [execOp]; try simp only [Option.map]); (try simp only [List.map_toArray, List.map_cons, List.map_nil]); (simp only [e109]; go_simp)
                  · refine L.asked_pure rfl rfl (fun _ _ h => h.skip (by decide)) (fun _ _ _ _ _ h => h) (fun _ _ _ => rfl) (fun l a W H => ?_)
                    have e110 : a.eval (.tmp 110) = .pointer (some ⟨gi, k * 7, none⟩) := H.facts 110 rfl
                    (simp only [execOp]; try simp only [Option.map]); (try simp only [List.map_toArray, List.map_cons, List.map_nil]); (simp only [e110]; go_simp)
                  · refine L.asked_pure rfl rfl (fun _ _ h => h.skip (by decide)) (fun _ _ _ _ _ h => h) (fun _ _ _ => rfl) (fun l a W H => ?_)
                    have e111 : a.eval (.tmp 111) = .pointer (some ⟨gi, k * 7 + 6, none⟩) := H.facts 111 rfl
                    have hcc := (hSl6.md H.s.md).cell
                    (simp only [execOp]; try simp only [Option.map]); (try simp only [List.map_toArray, List.map_cons, List.map_nil]); (simp only [e111]; go_simp)
                  · refine L.asked_pure rfl rfl (fun _ _ h => h.skip (by decide)) (fun _ _ _ _ _ h => h) (fun _ _ _ => rfl) (fun l a W H => ?_)
                    have e16 : a.eval (.tmp 16) = .int .i64 (m : Nat) := H.base 16 rfl
                    exact run_move rfl e16
                  · refine L.asked_pure rfl rfl (fun _ _ h => h.skip (by decide)) (fun _ _ _ _ _ h => h) (fun _ _ _ => rfl) (fun l a W H => ?_)
                    have e112 : a.eval (.tmp 112) = .slice (some ⟨ga, 0, none⟩) na ca2 := H.facts 112 rfl
                    have e113 : a.eval (.tmp 113) = .int .i64 (m : Nat) := H.facts 113 rfl
                    have hm' : (m : Int) < (na : Int) := by omega
                    (simp only [execOp]; try simp only [Option.map]); (try simp only [List.map_toArray, List.map_cons, List.map_nil]); (simp only [e112, e113]; go_simp)
                  · refine L.asked_pure rfl rfl (fun _ _ h => h.skip (by decide)) (fun _ _ _ _ _ h => h) (fun _ _ _ => rfl) (fun l a W H => ?_)
                    have e114 : a.eval (.tmp 114) = .pointer (some ⟨ga, m, none⟩) := H.facts 114 rfl
                    have hl : l 15 = false := by
                      cases hs : l 15 with
                      | false => rfl
                      | true =>
                        have h1 := H.closed 13 12 (by rfl) (H.closed 15 13 (by rfl) hs)
                        rw [H.new] at h1
                        cases h1
                    have hcc := H.s.cx
                    rw [hl] at hcc
                    have hcc : W.cell? ⟨ga, m, none⟩ = some (.int .i64 x) := hcc
                    (simp only [execOp]; try simp only [Option.map]); (try simp only [List.map_toArray, List.map_cons, List.map_nil]); (simp only [e114]; go_simp)
                  · refine L.asked_clos (cap := #[.pointer (some ⟨pc, 0, none⟩)]) rfl Try.func15 (by kernel_rfl) (by kernel_rfl) rfl rfl (fun l a W H => ?_)
                    have ef : a.eval (.tmp 108) = .func (.func 15) #[] #[.pointer (some ⟨pc, 0, none⟩)] := H.facts 108 rfl
                    have ex : a.eval (.tmp 115) = .int .i64 x := H.facts 115 rfl
                    refine ⟨ef, ?_⟩
                    have ea : (#[Operand.tmp 115] : Array Operand).map a.eval ++ #[Value.pointer (some ⟨pc, 0, none⟩)] = #[.int .i64 x, .pointer (some ⟨pc, 0, none⟩)] := by simp [ex]
                    rw [ea]
                    refine (at_any x r pc W ((rowC_cells (H.s.md.keeps hpc ⟨by decide, by decide, by decide⟩)).2.1) hr0).mono ?_
                    rintro y w' ⟨rfl, rfl⟩
                    exact ⟨_, rfl, rfl, H.s.skip (by decide), fun _ _ _ h => h⟩
                  · refine L.asked_pure rfl rfl (fun _ _ h => h.skip (by decide)) (fun _ _ _ _ _ h => h) (fun _ _ _ => rfl) (fun l a W H => ?_)
                    have e106 : a.eval (.tmp 106) = .slice (some ⟨ga, 0, none⟩) na ca2 := H.facts 106 rfl
                    have e107 : a.eval (.tmp 107) = .int .i64 (m : Nat) := H.facts 107 rfl
                    have hm' : (m : Int) < (na : Int) := by omega
                    (simp only [execOp]; try simp only [Option.map]); (try simp only [List.map_toArray, List.map_cons, List.map_nil]); (simp only [e106, e107]; go_simp)
                  · refine L.asked_skip rfl rfl (fun l a W H => ?_)
                    have ep : a.eval (.tmp 117) = .pointer (some ⟨ga, m, none⟩) := H.facts 117 rfl
                    have ev : a.eval (.tmp 116) = .int .i64 (x.tmod r) := H.facts 116 rfl
                    have hcc := H.s.cx
                    rw [H.new] at hcc
                    have hcc : W.cell? ⟨ga, m, none⟩ = some (.int .i64 x) := hcc
                    obtain ⟨cs', e1, _, _⟩ := H.s.md.cells ga csx 3 hrx
                    have hf : W.frozen? ⟨ga, m, none⟩ = false := frozen_of_row _ _ _ _ _ e1
                    have hci := hcc
                    rw [cell_of_row _ _ _ _ _ _ e1] at hci
                    refine ⟨W.setCell ⟨ga, m, none⟩ (.int .i64 (x.tmod r)), ?_, ⟨H.s.md.trans (Md.set e1 hci (by simp [may]) (Rm.tmod hr0 hx1) hBa), by simp only [upd, if_true]; exact World.cell?_setCell_same (w := W) (a := ⟨ga, m, none⟩) (v := .int .i64 (x.tmod r)) hcc⟩, fun _ _ h => h⟩
                    (simp only [execOp]; try simp only [Option.map]); (try simp only [List.map_toArray, List.map_cons, List.map_nil]); (simp only [ep, ev]; go_simp)
                · intro l s9 w5 hall hS _
                  have hmd := hS.md
                  have t1 := hS.cx
                  rw [hall 15 (by decide)] at t1
                  have D4 := Sm.cell hmd hrx t1 (tmod_in hr0 hx1)
                  have hMd5 := HMD4.out.trans hmd
                  have hD5 : ArgsDone r w5 (some ⟨ga, 0, none⟩) (m + 1) := by
                    intro m' hm'
                    by_cases e : m' = m
                    · subst e
                      exact ⟨ga, rfl, D4⟩
                    · exact (HD4.out.md hmd) m' (by omega)
                  clear hS hall t1 D4 hmd HMD4 HD4 hx hrx hpc hSl6
                  simp [overlay, dstsOf]
                  go_wp2_with fail
                  go_roundw
                  case rel => exact ⟨m + 1, by omega, by go_num, hMd5, hD5⟩
                  case measure => simp [intOf]; omega
              · obtain rfl : m = na := by omega
                have hMd5 := HMD3.out.trans hMd4
                have hI5 : InsDone r wt gi (k * 7) := ⟨D1.out.md hMd4, D2.out.md hMd4, D3.out.md hMd4, _, _, _, hSl6, hdone4⟩
                have hD5 : InssDone r wt (some ⟨gi, 0, none⟩) (k + 1) := by
                  intro k' hk'
                  by_cases e : k' = k
                  · subst e
                    exact ⟨gi, rfl, hI5⟩
                  · exact (HD3.out.md hMd4) k' (by omega)
                clear hI5 hMd4 hdone4 HMD3 HD3 D1 D2 D3 HSL6 HA2
                go_wp2_with fail
                go_roundw
                case rel => exact ⟨k + 1, by omega, by go_num, hMd5, hD5⟩
                case measure => simp [intOf]; omega
        · obtain rfl : k = n := by omega
          obtain ⟨csA, xA, hrA, hiA, hcA, hA1⟩ := (HN0.out.md hMd2).cell
          have hfA : ws.frozen? ⟨g, j * 5 + 2, none⟩ = false := frozen_of_row _ _ _ _ _ hrA
          have hat := hide (at_any xA r pc ws (rowC_cells hpc).2.1 hr0)
          have hset : Md B r ws (ws.setCell ⟨g, j * 5 + 2, none⟩ (.int .i64 (xA.tmod r))) := Md.set hrA hiA (by simp [may]) (Rm.tmod hr0 hA1) hBg
          have hsm := Sm.cell hset hrA (World.cell?_setCell_same (w := ws) (a := ⟨g, j * 5 + 2, none⟩) (v := .int .i64 (xA.tmod r)) hcA) (tmod_in hr0 hA1)
          have HB2 : Hid (BlkDone r (ws.setCell ⟨g, j * 5 + 2, none⟩ (.int .i64 (xA.tmod r))) g (j * 5)) := ⟨hsm, _, _, _, (HSL.out.md hMd2).md hset, hdone2.md hset⟩
          have HMF := hide ((HMD.out.trans hMd2).trans hset)
          have HDF : Hid (∀ j', j' < j + 1 → BlkDone r (ws.setCell ⟨g, j * 5 + 2, none⟩ (.int .i64 (xA.tmod r))) g (j' * 5)) := by
            intro j' hj'
            by_cases e : j' = j
            · subst e
              exact HB2.out
            · exact ((HDONE.out j' (by omega)).md hMd2).md hset
          generalize xA.tmod r = yA at *
          clear hset hsm HB2 hMd2 hdone2 HMD HDONE hpc hc0 m0 m1 m2 m3 HOK hA1
          go_wp2_with fail
          refine hat.out.mono ?_
          rintro y w7 ⟨rfl, rfl⟩
          clear hat
          go_wp2_with fail
          go_roundw
          case rel => exact ⟨j + 1, by omega, by go_num, HMF.out, HDF.out⟩
          case measure => simp [intOf]; omega
    · obtain rfl : j = nb := by omega
      have hF := S4.out.fit s HMB2.out hMd (g0 := g) (c0 := gc) (by rw [HNB.out]) (by rw [HNB.out]; exact hdone)
      obtain ⟨bs1, hl1, hO1, hR1⟩ := hF
      have hpr := hMd.keeps S3.out ⟨by decide, by decide, by decide⟩
      have HI0 : Hid (I5 B pc pr g gc j F.p r s w 0 bs1 wo) := ⟨hO1, by rw [hl1, HNB.out], fun b hb => ⟨by have := (hR1 b hb).1; rw [← HML2.out] at this; exact this, by have := (hR1 b hb).2; omega⟩, hpc, hpr, S5.out.trans hMd.below, by have h1 := S5.out.size; have h2 := hMd.below.size; rw [← hBe]; exact Nat.le_trans h1 h2⟩
      clear hl1 hO1 hR1 hpr hMd hdone hpc HOK S2 S3 S4 S5 HMB2 m0 m1 m2 m3 hlt hO4
      go_wp2_with fail
      go_loopw [17, 18, 20] (fun iv _ _ wr => ∃ (i : Nat) (bs2 : List Blk), i ≤ 62 ∧ iv = .int .i64 i ∧ I5 B pc pr g gc j F.p r s w i bs2 wr) (fun iv _ _ _ => 100 - (intOf iv).toNat)
      case atStart => exact ⟨0, bs1, by omega, rfl, HI0.out⟩
      case round =>
        rename World => wa
        obtain ⟨i, bs2, hi, rfl, hI⟩ := hrel
        have hms : Byt wa (.slice ma ms.length mc) ms := HMS.out.below (by rw [hBe]; exact hI.below)
        by_cases h12 : i + 2 < ms.length ∧ i < 60
        · obtain ⟨h1, h2⟩ := h12
          obtain ⟨m0, m1, m2, m3⟩ := rowC_cells hI.pcr
          have h1' : (i : Int) + 2 < (ms.length : Int) := by omega
          have h2' : (i : Int) < 60 := by omega
          obtain ⟨mb, mo, x0, x1, x2, rfl, ⟨y0, hx0⟩, ⟨y1, hx1⟩, ⟨y2, hx2⟩⟩ := bytes3 hms h1
          obtain ⟨jb, hjb, hjl⟩ := modN (j := j) hx0.1 (by omega)
          have hjb2 : jb < bs2.length := by rw [hI.len]; exact hjl
          obtain ⟨ua, ci, ps, hc0, hown, hps, hargs, hpl⟩ := block5 hI h2 hjb2
          obtain ⟨z1, t1, e1⟩ := modZ (r := s) hx1.1 (by omega)
          obtain ⟨z2, t2, e2⟩ := modZ (r := r) hx2.1 hr0
          obtain ⟨z3, t3, e3⟩ := modZ (r := r) hx1.1 hr0
          obtain ⟨z4, t4, e4⟩ := modZ (r := s) hx2.1 (by omega)
          obtain ⟨xq, kk, tq, hxq, hkk, hkn⟩ := divQ hx0 ps.length
          obtain ⟨xp, tp⟩ : ∃ xp, x0.tmod 2 = xp := ⟨_, rfl⟩
          have hsl : ∀ p ∈ ps, ∃ a n c, p.2 = .slice a n c := fun p hp => by
            obtain ⟨q1, q2, q3⟩ := (hargs p hp).v.slice
            exact ⟨_, _, _, q3⟩
          have HI := hide hI
          have HOWN := hide hown
          have HSL := hide hsl
          have HARGS := hide hargs
          have HPS := hide hps
          have HT := hide (And.intro t1 (And.intro t2 (And.intro t3 t4)))
          have HTQ := hide (And.intro tq hkk)
          have HJB := hide hjb
          have HC0 := hide hc0
          have HM := hide (And.intro m1 (And.intro m2 m3))
          clear hms hI HI0 hown hsl hargs hps t1 t2 t3 t4 tq hkk hjb hc0 m0 m1 m2 m3
          go_wp2_with fail
          refine r27_ok (pc := pc) (g := g) (j := j) (gc := gc) (jb := jb) rfl rfl rfl rfl HM.out.2.2 y0 hx0 (by omega) HJB.out (by omega) ?_
          intro s27 hs27
          simp [overlay, dstsOf, ops27, hs27]
          go_wp2_with fail
          refine r28_ok (wb := wa.drew) (pc := pc) (r := r) (s := s) rfl rfl rfl rfl HM.out.1 HM.out.2.1 y1 y2 hx1 hx2 h1' h2' hr0 (by omega) HT.out.1 HT.out.2.1 ?_
          intro s28 WX hs28 hb28 hrow28
          have hb28 : Below wa.heap.size wa WX := bel_of (Below.refl wa.heap.size wa).drew hb28
          have hrow28 : WX.heap[wa.heap.size]? = some (Obj.cells (rowI ⟨7, 0, z1, z2, 0, 0, []⟩ (.slice none 0 0)) 46 (0, 0)) := hrow28
          have hs28 : s28 19 = .pointer (some ⟨wa.heap.size, 0, none⟩) := hs28
          have y0x := cell_below hb28 y0
          simp [overlay, dstsOf, ops28, hs28]
          by_cases hp : xp = 1
          · have hp1 : (xp == 1) = true := by simp [hp]
            clear hp
            go_wp2_with fail
            clear y0x
            refine r30_ok (wb := wa) (pn := wa.heap.size) (pc := pc) (r := r) (s := s) rfl rfl rfl rfl HM.out.1 HM.out.2.1 y1 y2 hx1 hx2 h1' h2' hr0 (by omega) HT.out.2.2.1 HT.out.2.2.2 rfl hb28 (Nat.le_refl _) hrow28 ?_
            clear hb28 hrow28
            intro s30 WX hb28 hrow28
            simp [overlay, dstsOf, ops30]
            have hI5 := HI.out.next hb28
            have hown := HOWN.out
            have hsl := HSL.out
            have hps := HPS.out
            have hc0 := HC0.out
            have tq := HTQ.out.1
            have hkk := HTQ.out.2
            have hargs5 : ∀ q ∈ ps, ArgsO B WX q.2 q.1.args := fun q hq => (HARGS.out q hq).keeps (Keeps.below hb28)
            go_wp2_with fail
            refine r31_ok (wa := WX) (kk := kk) (n := ps.length) (ci := ci) (ua := ua) rfl rfl rfl rfl (cell_below hb28 y0) (cell_below hb28 hc0) (by omega) tq hxq hpl hkk ?_
            intro s31 hs31
            simp [overlay, dstsOf, ops31, hs31]
            go_wp2_with fail
            refine r32_ok (wd := WX.drew) (B := B) (g := g) (jb := jb) (n := ps.length) (ci := ci) (ua := ua) (kk := kk) (pn := wa.heap.size) (X := ⟨8, 0, z3, z4, 0, 0, []⟩) (ps := ps) rfl rfl rfl rfl (cell_below hb28 hc0) (hI5.own.row.2) (row_cells hrow28) (owns_below hown (bel_of hb28 (Below.refl _ _).drew)) hpl hkn hsl ?_
            intro s32 W1 v32 hb32 hv32
            have hb32 : Below WX.heap.size WX W1 := bel_of (Below.refl WX.heap.size WX).drew hb32
            have hfin := hI5.step hjb2 hps hargs5 (fill_right e3 e4) rfl h2 kk hb32 hv32
            simp [overlay, dstsOf, ops32]
            go_wp2_with fail
            go_roundw
            case rel => exact ⟨i + 3, _, by omega, by go_num, hfin⟩
            case measure => simp [intOf]; omega
          · have hp1 : (xp == 1) = false := by simp [hp]
            clear hp
            go_wp2_with fail
            clear y0x
            have hI5 := HI.out.next hb28
            have hown := HOWN.out
            have hsl := HSL.out
            have hps := HPS.out
            have hc0 := HC0.out
            have tq := HTQ.out.1
            have hkk := HTQ.out.2
            have hargs5 : ∀ q ∈ ps, ArgsO B WX q.2 q.1.args := fun q hq => (HARGS.out q hq).keeps (Keeps.below hb28)
            refine r31_ok (wa := WX) (kk := kk) (n := ps.length) (ci := ci) (ua := ua) rfl rfl rfl rfl (cell_below hb28 y0) (cell_below hb28 hc0) (by omega) tq hxq hpl hkk ?_
            intro s31 hs31
            simp [overlay, dstsOf, ops31, hs31]
            go_wp2_with fail
            refine r32_ok (wd := WX.drew) (B := B) (g := g) (jb := jb) (n := ps.length) (ci := ci) (ua := ua) (kk := kk) (pn := wa.heap.size) (X := ⟨7, 0, z1, z2, 0, 0, []⟩) (ps := ps) rfl rfl rfl rfl (cell_below hb28 hc0) (hI5.own.row.2) (row_cells hrow28) (owns_below hown (bel_of hb28 (Below.refl _ _).drew)) hpl hkn hsl ?_
            intro s32 W1 v32 hb32 hv32
            have hb32 : Below WX.heap.size WX W1 := bel_of (Below.refl WX.heap.size WX).drew hb32
            have hfin := hI5.step hjb2 hps hargs5 (spill_right e1 e2) rfl h2 kk hb32 hv32
            simp [overlay, dstsOf, ops32]
            go_wp2_with fail
            go_roundw
            case rel => exact ⟨i + 3, _, by omega, by go_num, hfin⟩
            case measure => simp [intOf]; omega
        · have hmch : Hid (mchk ⟨F.p, r, s, bs2⟩ = (0, 0, 0)) := by
            refine mchk_zero ?_ fun b hb => ?_
            · simp only [msz, decide_eq_true_eq, hI.len]
              omega
            · simp only [hI.len]
              exact (hI.right b hb).1
          have hsmall : Hid (∀ b ∈ bs2, b.ins.length ≤ 100) := fun b hb => by have := (hI.right b hb).2; omega
          obtain ⟨m0, m1, m2, m3⟩ := rowC_cells hI.pcr
          obtain ⟨q0, q1, q2, q3⟩ := rowC_cells hI.prr
          have f0 := frozen_of_row _ _ 0 _ _ hI.prr
          have f1 := frozen_of_row _ _ 1 _ _ hI.prr
          have f2 := frozen_of_row _ _ 2 _ _ hI.prr
          have f3 := frozen_of_row _ _ 3 _ _ hI.prr
          obtain ⟨v0, v1, v2, v3⟩ := set4 (.int .i64 F.p) (.int .i64 r) (.int .i64 s) (.slice (some ⟨g, 0, none⟩) j gc) q0 q1 q2 q3
          have HOf := hide (hI.own.keeps (keeps_set4 hI.prr (.int .i64 F.p) (.int .i64 r) (.int .i64 s) (.slice (some ⟨g, 0, none⟩) j gc)))
          have HBf := hide (bel_set4 hI.below hpc0.2.2 (.int .i64 F.p) (.int .i64 r) (.int .i64 s) (.slice (some ⟨g, 0, none⟩) j gc))
          clear hI hms HI0
          have hcase : i + 2 < ms.length → ¬ i < 60 := fun a b => h12 ⟨a, b⟩
          clear h12
          by_cases h1 : i + 2 < ms.length
          · have h2 := hcase h1
            have h1' : (i : Int) + 2 < (ms.length : Int) := by omega
            have h2' : 60 ≤ (i : Int) := by omega
            clear hcase
            go_wp2_with fail
            refine bodyPost_ret (v := .agg #[.int .i64 F.p, .int .i64 r, .int .i64 s, .slice (some ⟨g, 0, none⟩) j gc]) (by simp [results, Try.results9, go_sem, v0, v1, v2, v3]) rfl ?_
            subst hBe
            exact ⟨⟨F.p, r, s, bs2⟩, _, rfl, HOf.out, hmch.out, hsmall.out, HBf.out⟩
          · have h1' : (ms.length : Int) ≤ (i : Int) + 2 := by omega
            clear hcase
            go_wp2_with fail
            refine bodyPost_ret (v := .agg #[.int .i64 F.p, .int .i64 r, .int .i64 s, .slice (some ⟨g, 0, none⟩) j gc]) (by simp [results, Try.results9, go_sem, v0, v1, v2, v3]) rfl ?_
            subst hBe
            exact ⟨⟨F.p, r, s, bs2⟩, _, rfl, HOf.out, hmch.out, hsmall.out, HBf.out⟩
end Go.Proofs.Ytbgedbahabbanaa
