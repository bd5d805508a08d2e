/- ir.Copied: a block's copy reads the same and is all its own. -/
import Derived.Test.YteidejcaoboejaaRowI
import Derived.Test.YteidejcaoboejaaStore
import Derived.Test.YteidejcaoboejaaCheck
namespace Go.Proofs.Yteidejcaoboejaa
open Go.RowKit Ir
/-- What is known of each temporary of 'b.Ins[n].Args = slices.Clone(b.Ins[n].Args)'. -/
def GC (B p1 g n cap j : Nat) (x : Value) (args : List Int) : Tmp → Value → World → Prop
  | 14, xx, _ => xx = .pointer (some ⟨p1, 0, none⟩)
  | 15, xx, _ => xx = .slice (some ⟨g, 0, none⟩) n cap
  | 16, xx, _ => xx = .int .i64 (j : Nat)
  | 17, xx, _ => xx = .pointer (some ⟨p1, 0, none⟩)
  | 18, xx, _ => xx = .slice (some ⟨g, 0, none⟩) n cap
  | 19, xx, _ => xx = .int .i64 (j : Nat)
  | 20, xx, _ => xx = .pointer (some ⟨g, j * 7, none⟩)
  | 21, xx, _ => xx = .pointer (some ⟨g, j * 7 + 6, none⟩)
  | 22, xx, _ => xx = x
  | 23, xx, ww => ArgsO B ww xx args
  | 24, xx, _ => xx = .pointer (some ⟨g, j * 7, none⟩)
  | 25, xx, _ => xx = .pointer (some ⟨g, j * 7 + 6, none⟩)
  | _, _, _ => True

theorem GC_keeps {B p1 g n cap j : Nat} {x : Value} {args : List Int} {W W' : World} {t : Tmp} {y : Value} (h : GC B p1 g n cap j x args t y W) (hk : Keeps T3 W W') : GC B p1 g n cap j x args t y W' := by
  unfold GC at h ⊢
  split
  all_goals
    first
      | exact h
      | exact ArgsO.keeps h hk
      | trivial
/-- What stands in the world while that is done. -/
structure SC (B g j : Nat) (args : List Int) (wo : World) (l : Nat → Bool) (W : World) : Prop where
  below : l 12 = false → Below wo.heap.size wo W
  done : l 12 = true → ∃ W1 u, Below wo.heap.size wo W1 ∧ ArgsO B W1 u args ∧ W = W1.setCell ⟨g, j * 7 + 6, none⟩ u
theorem SC.skip {B g j : Nat} {args : List Int} {wo : World} {l : Nat → Bool} {W : World} (h : SC B g j args wo l W) {i : Nat} (hi : i ≠ 12) : SC B g j args wo (upd l i) W := by
  have u12 : upd l i 12 = l 12 := if_neg (fun e => hi e.symm)
  exact ⟨by rw [u12]; exact h.below, by rw [u12]; exact h.done⟩
theorem IntsV.set {W : World} {v : Value} {xs : List Int} {g off n c : Nat} {a : Option Addr} (h : IntsV W v xs) (hc : W.cell? ⟨g, off, none⟩ = some (.slice a n c)) (u : Value) : IntsV (W.setCell ⟨g, off, none⟩ u) v xs := by
  refine SlV.mono h fun b o x hx => ?_
  unfold IntAt at hx ⊢
  rw [World.cell?_setCell_other _ _ _ _ (by intro e; rw [← e, hc] at hx; simp at hx)]
  exact hx
theorem owns_len {w : World} {B : Nat} {e : TypeId} {s : Nat} {v : Value} {n : Nat} {xs : List Value} (h : w.ownsRow B e s v n xs) : ∃ a c, v = .slice a n c := by
  rcases h.2 with ⟨rfl, rfl⟩ | ⟨g, cap, cur, rfl, _⟩
  · exact ⟨_, _, rfl⟩
  · exact ⟨_, _, rfl⟩
def rowC (u : Value) (e : En) : Array Value := #[u, .int .u8 e.k, .int .i64 e.a, .int .i64 e.to, .int .i64 e.el]
structure CInv (B p1 p2 : Nat) (e : En) (is : List Ins) (uc : Value) (w : World) (ps : List (Ins × Value)) (j : Nat) (wr : World) : Prop where
  map : ps.map (·.1) = is
  own : wr.ownsRow B 46 7 uc ps.length (cellsI ps)
  done : ∀ k (h : k < ps.length), k < j → ArgsO B wr ps[k].2 ps[k].1.args
  args : ∀ p ∈ ps, IntsV wr p.2 p.1.args
  box : wr.heap[p1]? = some (Obj.cells (rowC uc e) 41 (0, 0))
  res : wr.heap[p2]? = some (Obj.cells (rowC (.slice none 0 0) ⟨0, 0, 0, 0⟩) 41 (0, 0))
  below : Below B w wr
  sz : B ≤ wr.heap.size
theorem CInv.step {B p1 p2 g n cap j : Nat} {e : En} {is : List Ins} {w wo W1 : World} {ps : List (Ins × Value)} {u : Value} (h : CInv B p1 p2 e is (.slice (some ⟨g, 0, none⟩) n cap) w ps j wo) (hj : j < ps.length) (hb : Below wo.heap.size wo W1) (hO : ArgsO B W1 u ps[j].1.args) :
    CInv B p1 p2 e is (.slice (some ⟨g, 0, none⟩) n cap) w (ps.set j (ps[j].1, u)) (j + 1) (W1.setCell ⟨g, j * 7 + 6, none⟩ u) := by
  have own1 := owns_below h.own hb
  obtain ⟨cur, hbg, hg1⟩ : ∃ cur, B ≤ g ∧ W1.heap[g]? = some (Obj.cells cur 46 (0, 0)) := by
    rcases own1.2 with ⟨h0, _⟩ | ⟨g', cap', cur, hv, hb', hg', _⟩
    · simp at h0
    · simp only [Value.slice.injEq, Option.some.injEq, Addr.mk.injEq] at hv
      obtain ⟨⟨rfl, _⟩, _, _⟩ := hv
      exact ⟨cur, hb', hg'⟩
  have hk3 : Keeps T3 W1 (W1.setCell ⟨g, j * 7 + 6, none⟩ u) := Keeps.set hg1 rfl u
  have hk : Keeps (fun t => t != 46) W1 (W1.setCell ⟨g, j * 7 + 6, none⟩ u) := Keeps.set hg1 rfl u
  have hk0 : Keeps (fun _ => true) wo W1 := Keeps.below hb
  have hp : ps[j]? = some ps[j] := List.getElem?_eq_getElem hj
  obtain ⟨_, _, _, _, _, _, g6⟩ := cellsI_get ps j _ hp
  have hc6 := own1.cells (g := g) rfl _ _ g6
  rw [Addr.add_lit, Nat.zero_add] at hc6
  obtain ⟨xa, xc, hxe⟩ := (h.args _ (List.getElem_mem hj)).slice
  rw [hxe] at hc6
  refine ⟨?_, row_set own1 j hj u, fun k hk' hkj => ?_, fun p hp => ?_, hk _ _ _ _ rfl (hk0 _ _ _ _ rfl h.box), hk _ _ _ _ rfl (hk0 _ _ _ _ rfl h.res), (h.below.trans (hb.mono h.sz)).setCell (p := ⟨g, j * 7 + 6, none⟩) hbg u, by simpa using Nat.le_trans h.sz hb.size⟩
  · rw [List.map_set, ← h.map]
    apply List.ext_getElem
    · simp
    · intro i h1 h2
      by_cases hij : j = i
      · subst hij
        simp
      · simp [List.getElem_set_ne hij]
  · by_cases hkj' : j = k
    · subst hkj'
      rw [List.getElem_set_self]
      exact hO.keeps hk3
    · rw [List.getElem_set_ne hkj']
      rw [List.length_set] at hk'
      exact ((h.done k hk' (by omega)).keeps (Keeps.below hb)).keeps hk3
  · rcases List.mem_or_eq_of_mem_set hp with hp | rfl
    · exact ((h.args p hp).below hb).set hc6 u
    · exact (hO.keeps hk3).v

theorem set5 {w : World} {g : Nat} {x0 x1 x2 x3 x4 : Value} (y0 y1 y2 y3 y4 : Value) (r0 : w.cell? ⟨g, 0, none⟩ = some x0) (r1 : w.cell? ⟨g, 1, none⟩ = some x1) (r2 : w.cell? ⟨g, 2, none⟩ = some x2) (r3 : w.cell? ⟨g, 3, none⟩ = some x3) (r4 : w.cell? ⟨g, 4, none⟩ = some x4) : (w.setCell ⟨g, 0, none⟩ y0).cell? ⟨g, 0, none⟩ = some y0 ∧ ((w.setCell ⟨g, 0, none⟩ y0).setCell ⟨g, 1, none⟩ y1).cell? ⟨g, 1, none⟩ = some y1 ∧ (((w.setCell ⟨g, 0, none⟩ y0).setCell ⟨g, 1, none⟩ y1).setCell ⟨g, 2, none⟩ y2).cell? ⟨g, 2, none⟩ = some y2 ∧ ((((w.setCell ⟨g, 0, none⟩ y0).setCell ⟨g, 1, none⟩ y1).setCell ⟨g, 2, none⟩ y2).setCell ⟨g, 3, none⟩ y3).cell? ⟨g, 3, none⟩ = some y3 ∧ (((((w.setCell ⟨g, 0, none⟩ y0).setCell ⟨g, 1, none⟩ y1).setCell ⟨g, 2, none⟩ y2).setCell ⟨g, 3, none⟩ y3).setCell ⟨g, 4, none⟩ y4).cell? ⟨g, 4, none⟩ = some y4 := by
  have other : ∀ (W : World) (i j : Nat) (y u : Value), i ≠ j → W.cell? ⟨g, j, none⟩ = some u → (W.setCell ⟨g, i, none⟩ y).cell? ⟨g, j, none⟩ = some u := fun W i j y u hij h => (World.cell?_setCell_other (w := W) (a := ⟨g, i, none⟩) (b := ⟨g, j, none⟩) (v := y) (by simp <;> omega)).trans h
  have s0 := World.cell?_setCell_same (w := w) (a := ⟨g, 0, none⟩) (v := y0) r0
  have s1 := World.cell?_setCell_same (w := (w.setCell ⟨g, 0, none⟩ y0)) (a := ⟨g, 1, none⟩) (v := y1) (other _ 0 1 y0 x1 (by decide) r1)
  have s2 := World.cell?_setCell_same (w := ((w.setCell ⟨g, 0, none⟩ y0).setCell ⟨g, 1, none⟩ y1)) (a := ⟨g, 2, none⟩) (v := y2) (other _ 1 2 y1 x2 (by decide) (other _ 0 2 y0 x2 (by decide) r2))
  have s3 := World.cell?_setCell_same (w := (((w.setCell ⟨g, 0, none⟩ y0).setCell ⟨g, 1, none⟩ y1).setCell ⟨g, 2, none⟩ y2)) (a := ⟨g, 3, none⟩) (v := y3) (other _ 2 3 y2 x3 (by decide) (other _ 1 3 y1 x3 (by decide) (other _ 0 3 y0 x3 (by decide) r3)))
  have s4 := World.cell?_setCell_same (w := ((((w.setCell ⟨g, 0, none⟩ y0).setCell ⟨g, 1, none⟩ y1).setCell ⟨g, 2, none⟩ y2).setCell ⟨g, 3, none⟩ y3)) (a := ⟨g, 4, none⟩) (v := y4) (other _ 3 4 y3 x4 (by decide) (other _ 2 4 y2 x4 (by decide) (other _ 1 4 y1 x4 (by decide) (other _ 0 4 y0 x4 (by decide) r4))))
  exact ⟨s0, s1, s2, s3, s4⟩
theorem keeps_set5 {w : World} {g : Nat} {cs : Array Value} (h : w.heap[g]? = some (Obj.cells cs 41 (0, 0))) (y0 y1 y2 y3 y4 : Value) : Keeps T46 w (((((w.setCell ⟨g, 0, none⟩ y0).setCell ⟨g, 1, none⟩ y1).setCell ⟨g, 2, none⟩ y2).setCell ⟨g, 3, none⟩ y3).setCell ⟨g, 4, none⟩ y4) :=
  (((((Keeps.set h rfl y0).trans (Keeps.set (heap_setCell_same _ g 0 _ _ y0 h) rfl y1)).trans (Keeps.set (heap_setCell_same _ g 1 _ _ y1 (heap_setCell_same _ g 0 _ _ y0 h)) rfl y2)).trans (Keeps.set (heap_setCell_same _ g 2 _ _ y2 (heap_setCell_same _ g 1 _ _ y1 (heap_setCell_same _ g 0 _ _ y0 h))) rfl y3)).trans (Keeps.set (heap_setCell_same _ g 3 _ _ y3 (heap_setCell_same _ g 2 _ _ y2 (heap_setCell_same _ g 1 _ _ y1 (heap_setCell_same _ g 0 _ _ y0 h)))) rfl y4))
theorem bel_set5 {B : Nat} {w0 w : World} {g : Nat} (hb : Below B w0 w) (hg : B ≤ g) (y0 y1 y2 y3 y4 : Value) : Below B w0 (((((w.setCell ⟨g, 0, none⟩ y0).setCell ⟨g, 1, none⟩ y1).setCell ⟨g, 2, none⟩ y2).setCell ⟨g, 3, none⟩ y3).setCell ⟨g, 4, none⟩ y4) :=
  (((((hb.setCell (p := ⟨g, 0, none⟩) hg y0).setCell (p := ⟨g, 1, none⟩) hg y1).setCell (p := ⟨g, 2, none⟩) hg y2).setCell (p := ⟨g, 3, none⟩) hg y3).setCell (p := ⟨g, 4, none⟩) hg y4)

set_option maxHeartbeats 4000000 in
set_option maxRecDepth 100000 in
theorem copied_any (is : List Ins) (e : En) (u : Value) (w : World) (hu : InssV w u is) (hl : is.length ≤ 1000000) (hsm : ∀ i ∈ is, i.args.length ≤ 1000000000) :
    Calls Try.prog 24 #[blkV u e] w fun r w' => ∃ u', r = .returned (blkV u' e) ∧ InssO w.heap.size w' u' is ∧ Below w.heap.size w w' := by
  obtain ⟨ua, ca, rfl⟩ := hu.slice
  have hB0 := bel2 w (.cells #[.slice ua is.length ca, .int .u8 e.k, .int .i64 e.a, .int .i64 e.to, .int .i64 e.el] 41) (.cells #[.slice none 0 0, .int .u8 0, .int .i64 0, .int .i64 0, .int .i64 0] 41)
  have hC := hide (cloneI_any _ is _ (hu.below hB0) hl)
  have HB0 := hide hB0
  have HSM := hide hsm
  have hr1 : ((w.alloc (.cells #[.slice ua is.length ca, .int .u8 e.k, .int .i64 e.a, .int .i64 e.to, .int .i64 e.el] 41)).alloc (.cells #[.slice none 0 0, .int .u8 0, .int .i64 0, .int .i64 0, .int .i64 0] 41)).heap[w.heap.size]? = some (Obj.cells (rowC (.slice ua is.length ca) e) 41 (0, 0)) := by
    have h1 := heap_alloc_new w (.cells #[.slice ua is.length ca, .int .u8 e.k, .int .i64 e.a, .int .i64 e.to, .int .i64 e.el] 41)
    rw [(bel1 (w.alloc (.cells #[.slice ua is.length ca, .int .u8 e.k, .int .i64 e.a, .int .i64 e.to, .int .i64 e.el] 41)) (.cells #[.slice none 0 0, .int .u8 0, .int .i64 0, .int .i64 0, .int .i64 0] 41)).block _ (Array.getElem?_eq_some_iff.1 h1).1]
    exact h1
  have hr2 : ((w.alloc (.cells #[.slice ua is.length ca, .int .u8 e.k, .int .i64 e.a, .int .i64 e.to, .int .i64 e.el] 41)).alloc (.cells #[.slice none 0 0, .int .u8 0, .int .i64 0, .int .i64 0, .int .i64 0] 41)).heap[w.heap.size + 1]? = some (Obj.cells (rowC (.slice none 0 0) ⟨0, 0, 0, 0⟩) 41 (0, 0)) := by
    have h1 := heap_alloc_new (w.alloc (.cells #[.slice ua is.length ca, .int .u8 e.k, .int .i64 e.a, .int .i64 e.to, .int .i64 e.el] 41)) (.cells #[.slice none 0 0, .int .u8 0, .int .i64 0, .int .i64 0, .int .i64 0] 41)
    rw [World.size_alloc] at h1
    exact h1
  have HR1 := hide hr1
  have HR2 := hide hr2
  unfold blkV
  clear hu hsm hB0 hr1 hr2
  go_enter Try.func24, Try.ntmps24
  go_wp2_with fail
  refine hC.out.mono ?_
  rintro r w1 ⟨uc, ps, rfl, hps, hO, hargs, hB1⟩
  generalize hwe : (w.alloc (.cells #[.slice ua is.length ca, .int .u8 e.k, .int .i64 e.a, .int .i64 e.to, .int .i64 e.el] 41)).alloc (.cells #[.slice none 0 0, .int .u8 0, .int .i64 0, .int .i64 0, .int .i64 0] 41) = w0 at *
  have hq1 := hB1.block _ (Array.getElem?_eq_some_iff.1 HR1.out).1
  rw [HR1.out] at hq1
  have hq2 := hB1.block _ (Array.getElem?_eq_some_iff.1 HR2.out).1
  rw [HR2.out] at hq2
  obtain ⟨ao, cap, rfl⟩ := owns_len hO
  have hpl : ps.length = is.length := by rw [← hps, List.length_map]
  rw [hpl] at hO
  have hc0 : w1.cell? ⟨w.heap.size, 0, none⟩ = some (.slice ua is.length ca) := by rw [cell_of_row _ _ _ _ _ _ hq1]; rfl
  have hf0 : w1.frozen? ⟨w.heap.size, 0, none⟩ = false := frozen_of_row _ _ _ _ _ hq1
  have hI0 : CInv w.heap.size w.heap.size (w.heap.size + 1) e is (.slice ao ps.length cap) w ps 0 (w1.setCell ⟨w.heap.size, 0, none⟩ (.slice ao ps.length cap)) := by
    have hk46 : Keeps T46 w1 (w1.setCell ⟨w.heap.size, 0, none⟩ (.slice ao ps.length cap)) := Keeps.set hq1 rfl _
    have hBw := bel_of HB0.out hB1
    refine ⟨hps, ?_, fun k _ h => by omega, fun p hp => ((hargs p hp).below hB1).set hc0 _, ?_, ?_, hBw.setCell (p := ⟨w.heap.size, 0, none⟩) (Nat.le_refl _) _, by simpa using hBw.size⟩
    · rw [← hpl] at hO
      exact owns_mono (owns_keeps hO hk46 rfl) HB0.out.size
    · rw [heap_setCell_same w1 _ 0 _ _ _ hq1]
      rfl
    · rw [Below.heap_setCell _ _ _ _ (by simp)]
      exact hq2
  rw [hpl] at hI0 ⊢
  have HI0 := hide hI0
  have HC0 : Hid ((w1.setCell ⟨w.heap.size, 0, none⟩ (.slice ao is.length cap)).cell? ⟨w.heap.size, 0, none⟩ = some (.slice ao is.length cap)) := World.cell?_setCell_same (w := w1) (a := ⟨w.heap.size, 0, none⟩) (v := .slice ao is.length cap) hc0
  clear hC hO hargs hB1 hq1 hq2 hps hI0 hpl
  go_wp2_with fail
  generalize (w1.setCell ⟨w.heap.size, 0, none⟩ (.slice ao is.length cap)) = w2 at *
  clear hc0 hf0
  generalize hBe : w.heap.size = B at *
  go_loopw [3, 11] (fun _ iv wr => ∃ (j : Nat) (qs : List (Ins × Value)), j ≤ is.length ∧ iv = .int .i64 j ∧ CInv B B (B + 1) e is (.slice ao is.length cap) w qs j wr) (fun _ iv _ => is.length - (intOf iv).toNat)
  case atStart => exact ⟨0, ps, by omega, rfl, HI0.out⟩
  case round =>
    rename World => wo
    obtain ⟨j, qs, hj, rfl, hI⟩ := hrel
    have hql : qs.length = is.length := by rw [← hI.map, List.length_map]
    by_cases hlt : j < is.length
    · have hjq : j < qs.length := by omega
      obtain ⟨g, rfl, cs, hg⟩ : ∃ g, ao = some ⟨g, 0, none⟩ ∧ ∃ cs, wo.heap[g]? = some (Obj.cells cs 46 (0, 0)) := by
        rcases hI.own.2 with ⟨_, h0⟩ | ⟨g', cap', cur, hv, hb', hg', _⟩
        · omega
        · simp only [Value.slice.injEq] at hv
          exact ⟨g', hv.1, cur, hg'⟩
      have hp : qs[j]? = some qs[j] := List.getElem?_eq_getElem hjq
      obtain ⟨_, _, _, _, _, _, g6⟩ := cellsI_get qs j _ hp
      have hc6 := hI.own.cells (g := g) rfl _ _ g6
      rw [Addr.add_lit, Nat.zero_add] at hc6
      have hx := hI.args _ (List.getElem_mem hjq)
      have hxs : ∃ xa xn xc, qs[j].2 = .slice xa xn xc := by
        obtain ⟨q1, q2, q3⟩ := hx.slice
        exact ⟨_, _, _, q3⟩
      have hal : qs[j].1.args.length ≤ 1000000000 := HSM.out _ (by rw [← hI.map]; exact List.mem_map_of_mem (List.getElem_mem hjq))
      have hc0 : wo.cell? ⟨B, 0, none⟩ = some (.slice (some ⟨g, 0, none⟩) is.length cap) := by rw [cell_of_row _ _ _ _ _ _ hI.box]; rfl
      have hBo := hI.sz
      have HI := hide hI
      have hlt' : (j : Int) < (is.length : Int) := by omega
      have HSTEP : Hid (∀ W1 u, Below wo.heap.size wo W1 → ArgsO B W1 u qs[j].1.args → CInv B B (B + 1) e is (.slice (some ⟨g, 0, none⟩) is.length cap) w (qs.set j (qs[j].1, u)) (j + 1) (W1.setCell ⟨g, j * 7 + 6, none⟩ u)) := fun W1 u h1 h2 => hI.step hjq h1 h2
      generalize qs[j].2 = x at *
      generalize qs[j].1.args = args at *
      have HG := hide hg
      have HC6 := hide hc6
      have HX := hide hx
      clear hI hp g6 hql HI0 HC0 hBe
      go_wp2_with fail
      refine wp_region_each (by kernel_rfl) (fun t y W => GC B B g is.length cap j x args t y W) (fun l W => SC B g j args wo l W) (by kernel_rfl) ⟨fun _ => (Below.refl _ _).drew, fun h => by simp at h⟩ ?_ ?_
      · refine And.intro ?_ (And.intro ?_ (And.intro ?_ (And.intro ?_ (And.intro ?_ (And.intro ?_ (And.intro ?_ (And.intro ?_ (And.intro ?_ (And.intro ?_ (And.intro ?_ (And.intro ?_ (And.intro ?_ trivial))))))))))))
        · refine asked_pure rfl rfl (fun _ _ h => h.skip (by decide)) (fun _ _ _ => rfl) (fun l a W H => ?_)
          have e1 : a.eval (.tmp 1) = .pointer (some ⟨B, 0, none⟩) := H.base 1 rfl
          (simp only [execOp]; try simp only [Option.map]); (try simp only [List.map_toArray, List.map_cons, List.map_nil]); (simp only [e1]; go_simp)
        · refine asked_any rfl (fun l a W H => ?_)
          have e14 : a.eval (.tmp 14) = .pointer (some ⟨B, 0, none⟩) := H.facts 14 rfl
          have hl12 : l 12 = false := by
            cases h12 : l 12 with
            | false => rfl
            | true =>
              have h1 := H.closed 10 1 (by rfl) (H.closed 11 10 (by rfl) (H.closed 12 11 (by rfl) h12))
              rw [H.new] at h1
              cases h1
          have hcc := cell_below (H.s.below hl12) hc0
          refine ⟨.slice (some ⟨g, 0, none⟩) is.length cap, W, ?_, fun d hd => by cases hd; exact rfl, H.s.skip (by decide), fun _ _ _ h => h⟩
          (simp only [execOp]; try simp only [Option.map]); (try simp only [List.map_toArray, List.map_cons, List.map_nil]); (simp only [e14]; go_simp)
        · refine asked_pure rfl rfl (fun _ _ h => h.skip (by decide)) (fun _ _ _ => rfl) (fun l a W H => ?_)
          have e3 : a.eval (.tmp 3) = .int .i64 (j : Nat) := H.base 3 rfl
          exact run_move rfl e3
        · refine asked_pure rfl rfl (fun _ _ h => h.skip (by decide)) (fun _ _ _ => rfl) (fun l a W H => ?_)
          have e1 : a.eval (.tmp 1) = .pointer (some ⟨B, 0, none⟩) := H.base 1 rfl
          (simp only [execOp]; try simp only [Option.map]); (try simp only [List.map_toArray, List.map_cons, List.map_nil]); (simp only [e1]; go_simp)
        · refine asked_any rfl (fun l a W H => ?_)
          have e17 : a.eval (.tmp 17) = .pointer (some ⟨B, 0, none⟩) := H.facts 17 rfl
          have hl12 : l 12 = false := by
            cases h12 : l 12 with
            | false => rfl
            | true =>
              have h1 := H.closed 6 4 (by rfl) (H.closed 7 6 (by rfl) (H.closed 8 7 (by rfl) (H.closed 9 8 (by rfl) (H.closed 12 9 (by rfl) h12))))
              rw [H.new] at h1
              cases h1
          have hcc := cell_below (H.s.below hl12) hc0
          refine ⟨.slice (some ⟨g, 0, none⟩) is.length cap, W, ?_, fun d hd => by cases hd; exact rfl, H.s.skip (by decide), fun _ _ _ h => h⟩
          (simp only [execOp]; try simp only [Option.map]); (try simp only [List.map_toArray, List.map_cons, List.map_nil]); (simp only [e17]; go_simp)
        · refine asked_pure rfl rfl (fun _ _ h => h.skip (by decide)) (fun _ _ _ => rfl) (fun l a W H => ?_)
          have e3 : a.eval (.tmp 3) = .int .i64 (j : Nat) := H.base 3 rfl
          exact run_move rfl e3
        · refine asked_pure rfl rfl (fun _ _ h => h.skip (by decide)) (fun _ _ _ => rfl) (fun l a W H => ?_)
          have e18 : a.eval (.tmp 18) = .slice (some ⟨g, 0, none⟩) is.length cap := H.facts 18 rfl
          have e19 : a.eval (.tmp 19) = .int .i64 (j : Nat) := H.facts 19 rfl
          have hjn' : (j : Int) < (is.length : Int) := by omega
          (simp only [execOp]; try simp only [Option.map]); (try simp only [List.map_toArray, List.map_cons, List.map_nil]); (simp only [e18, e19]; go_simp)
        · refine asked_pure rfl rfl (fun _ _ h => h.skip (by decide)) (fun _ _ _ => rfl) (fun l a W H => ?_)
          have e20 : a.eval (.tmp 20) = .pointer (some ⟨g, j * 7, none⟩) := H.facts 20 rfl
          (simp only [execOp]; try simp only [Option.map]); (try simp only [List.map_toArray, List.map_cons, List.map_nil]); (simp only [e20]; go_simp)
        · refine asked_any rfl (fun l a W H => ?_)
          have e21 : a.eval (.tmp 21) = .pointer (some ⟨g, j * 7 + 6, none⟩) := H.facts 21 rfl
          have hl12 : l 12 = false := by
            cases h12 : l 12 with
            | false => rfl
            | true =>
              have h1 := H.closed 9 8 (by rfl) (H.closed 12 9 (by rfl) h12)
              rw [H.new] at h1
              cases h1
          have hcc := cell_below (H.s.below hl12) hc6
          refine ⟨x, W, ?_, fun d hd => by cases hd; exact rfl, H.s.skip (by decide), fun _ _ _ h => h⟩
          obtain ⟨xa, xn, xc, rfl⟩ := hxs
          (simp only [execOp]; try simp only [Option.map]); (try simp only [List.map_toArray, List.map_cons, List.map_nil]); (simp only [e21]; go_simp)
        · refine asked_call rfl Try.func33 (by kernel_rfl) (by kernel_rfl) rfl rfl (fun l a W H => ?_)
          have e22 : a.eval (.tmp 22) = x := H.facts 22 rfl
          have hl12 : l 12 = false := by
            cases h12 : l 12 with
            | false => rfl
            | true =>
              have h1 := H.closed 12 9 (by rfl) h12
              rw [H.new] at h1
              cases h1
          have hb := H.s.below hl12
          have hE : (#[Operand.tmp 22] : Array Operand).map a.eval = #[x] := by simp [e22]
          rw [hE]
          refine (clone_any x args W (hx.below hb) hal).mono ?_
          rintro y w' ⟨u, rfl, hO, hB⟩
          exact ⟨u, rfl, owns_mono hO (Nat.le_trans hBo hb.size), ⟨fun _ => bel_of hb hB, fun h => by have h' : l 12 = true := h; rw [hl12] at h'; cases h'⟩, fun _ _ _ h => GC_keeps h (Keeps.below hB)⟩
        · refine asked_pure rfl rfl (fun _ _ h => h.skip (by decide)) (fun _ _ _ => rfl) (fun l a W H => ?_)
          have e15 : a.eval (.tmp 15) = .slice (some ⟨g, 0, none⟩) is.length cap := H.facts 15 rfl
          have e16 : a.eval (.tmp 16) = .int .i64 (j : Nat) := H.facts 16 rfl
          have hjn' : (j : Int) < (is.length : Int) := by omega
          (simp only [execOp]; try simp only [Option.map]); (try simp only [List.map_toArray, List.map_cons, List.map_nil]); (simp only [e15, e16]; go_simp)
        · refine asked_pure rfl rfl (fun _ _ h => h.skip (by decide)) (fun _ _ _ => rfl) (fun l a W H => ?_)
          have e24 : a.eval (.tmp 24) = .pointer (some ⟨g, j * 7, none⟩) := H.facts 24 rfl
          (simp only [execOp]; try simp only [Option.map]); (try simp only [List.map_toArray, List.map_cons, List.map_nil]); (simp only [e24]; go_simp)
        · refine asked_skip rfl rfl (fun l a W H => ?_)
          have e25 : a.eval (.tmp 25) = .pointer (some ⟨g, j * 7 + 6, none⟩) := H.facts 25 rfl
          have hO : ArgsO B W (a.eval (.tmp 23)) args := H.facts 23 rfl
          generalize e23 : a.eval (.tmp 23) = y at hO
          obtain ⟨ya, yc, rfl⟩ := hO.v.slice
          have hb := H.s.below H.new
          have hcc := cell_below hb hc6
          have hrow := hb.block g (Array.getElem?_eq_some_iff.1 hg).1
          rw [hg] at hrow
          have hf : W.frozen? ⟨g, j * 7 + 6, none⟩ = false := frozen_of_row _ _ _ _ _ hrow
          refine ⟨W.setCell ⟨g, j * 7 + 6, none⟩ (.slice ya args.length yc), ?_, ⟨fun h => by simp [upd] at h, fun _ => ⟨W, _, hb, hO, rfl⟩⟩, fun _ _ h => GC_keeps h (Keeps.set hrow rfl _)⟩
          obtain ⟨xa, xn, xc, rfl⟩ := hxs
          (simp only [execOp]; try simp only [Option.map]); (try simp only [List.map_toArray, List.map_cons, List.map_nil]); (simp only [e23, e25]; go_simp)
      · intro l s W hall hS _
        obtain ⟨W1, u1, q1, q2, rfl⟩ := hS.done (hall 12 (by decide))
        have hI2 := HSTEP.out W1 u1 q1 q2
        clear hS hall HSTEP hc0 hc6 hg hx
        simp [overlay, dstsOf]
        go_wp2_with fail
        go_roundw
        case rel => exact ⟨j + 1, _, by omega, by go_num, hI2⟩
        case measure => simp [intOf]; omega
    · obtain rfl : j = is.length := by omega
      have hOf : InssO B wo (.slice ao is.length cap) is := by
        refine ⟨qs, hI.map, hI.own, fun p hp => ?_⟩
        obtain ⟨k, hk, rfl⟩ := List.mem_iff_getElem.1 hp
        exact hI.done k hk (by omega)
      have b0 : wo.cell? ⟨B, 0, none⟩ = some (.slice ao is.length cap) := by rw [cell_of_row _ _ _ _ _ _ hI.box]; rfl
      have z0 : wo.cell? ⟨B + 1, 0, none⟩ = some (.slice none 0 0) := by rw [cell_of_row _ _ _ _ _ _ hI.res]; rfl
      have f0 : wo.frozen? ⟨B + 1, 0, none⟩ = false := frozen_of_row _ _ _ _ _ hI.res
      have b1 : wo.cell? ⟨B, 1, none⟩ = some (.int .u8 e.k) := by rw [cell_of_row _ _ _ _ _ _ hI.box]; rfl
      have z1 : wo.cell? ⟨B + 1, 1, none⟩ = some (.int .u8 0) := by rw [cell_of_row _ _ _ _ _ _ hI.res]; rfl
      have f1 : wo.frozen? ⟨B + 1, 1, none⟩ = false := frozen_of_row _ _ _ _ _ hI.res
      have b2 : wo.cell? ⟨B, 2, none⟩ = some (.int .i64 e.a) := by rw [cell_of_row _ _ _ _ _ _ hI.box]; rfl
      have z2 : wo.cell? ⟨B + 1, 2, none⟩ = some (.int .i64 0) := by rw [cell_of_row _ _ _ _ _ _ hI.res]; rfl
      have f2 : wo.frozen? ⟨B + 1, 2, none⟩ = false := frozen_of_row _ _ _ _ _ hI.res
      have b3 : wo.cell? ⟨B, 3, none⟩ = some (.int .i64 e.to) := by rw [cell_of_row _ _ _ _ _ _ hI.box]; rfl
      have z3 : wo.cell? ⟨B + 1, 3, none⟩ = some (.int .i64 0) := by rw [cell_of_row _ _ _ _ _ _ hI.res]; rfl
      have f3 : wo.frozen? ⟨B + 1, 3, none⟩ = false := frozen_of_row _ _ _ _ _ hI.res
      have b4 : wo.cell? ⟨B, 4, none⟩ = some (.int .i64 e.el) := by rw [cell_of_row _ _ _ _ _ _ hI.box]; rfl
      have z4 : wo.cell? ⟨B + 1, 4, none⟩ = some (.int .i64 0) := by rw [cell_of_row _ _ _ _ _ _ hI.res]; rfl
      have f4 : wo.frozen? ⟨B + 1, 4, none⟩ = false := frozen_of_row _ _ _ _ _ hI.res
      obtain ⟨s0, s1, s2, s3, s4⟩ := set5 (.slice ao is.length cap) (.int .u8 e.k) (.int .i64 e.a) (.int .i64 e.to) (.int .i64 e.el) z0 z1 z2 z3 z4
      have HOf := hide (hOf.keeps (keeps_set5 hI.res (.slice ao is.length cap) (.int .u8 e.k) (.int .i64 e.a) (.int .i64 e.to) (.int .i64 e.el)))
      have HBf := hide (bel_set5 hI.below (Nat.le_succ B) (.slice ao is.length cap) (.int .u8 e.k) (.int .i64 e.a) (.int .i64 e.to) (.int .i64 e.el))
      clear hI hOf hql HI0 HC0
      go_wp2_with fail
      refine bodyPost_ret (v := blkV (.slice ao is.length cap) e) (by simp [blkV, results, Try.results24, go_sem, s0, s1, s2, s3, s4]) rfl ?_
      subst hBe
      exact ⟨_, rfl, HOf.out, HBf.out⟩
end Go.Proofs.Yteidejcaoboejaa
