/- run.Do: a run from its input to its output. -/
import Derived.Test.YtepmbkiojpffpaaLd
namespace Go.Proofs.Ytepmbkiojpffpaa
open Go.RowKit Ir

namespace Ir
structure Inp where
  args : List Int
  mem : List Int
  ans : List Int
  fuel : Int
def memOf (xs : List Int) : List Int := splice (List.replicate 64 0) 0 (xs.take 64)
def fuelOf (f : Int) : Nat := (min (max f 0) 1048576).toNat
/-- How a run begins. -/
def st0 (n : Nat) (first : Int) (I : Inp) : St := ⟨laidL n first I.args, memOf I.mem, [], fuelOf I.fuel, I.ans⟩
theorem memOf_len (xs : List Int) : (memOf xs).length = 64 := by
  unfold memOf
  rw [length_splice]
  · simp
  · simp; omega
end Ir
def InpV (w : World) (v : Value) (I : Inp) : Prop := ∃ a b c, v = .agg #[a, b, c, .int .i64 I.fuel] ∧ IntsV w a I.args ∧ IntsV w b I.mem ∧ IntsV w c I.ans
theorem InpV.below {w w' : World} {v : Value} {I : Inp} (h : InpV w v I) (hB : Below w.heap.size w w') : InpV w' v I := by
  obtain ⟨a, b, c, h1, h2, h3, h4⟩ := h
  exact ⟨a, b, c, h1, h2.below hB, h3.below hB, h4.below hB⟩
def OutV (w : World) (v : Value) (o : Out) : Prop := ∃ cv, v = .agg (outL o.how o.val cv o.mem o.left).toArray ∧ CallsV w cv o.calls ∧ o.mem.length = 64
theorem OutV.below {w w' : World} {v : Value} {o : Out} (h : OutV w v o) (hB : Below w.heap.size w w') : OutV w' v o := by
  obtain ⟨cv, h1, h2, h3⟩ := h
  exact ⟨cv, h1, h2.below hB, h3⟩
/-- An output of the call's own. -/
def OutO (B : Nat) (w : World) (v : Value) (o : Out) : Prop := ∃ cv gp, v = .agg (outL o.how o.val cv o.mem o.left).toArray ∧ CallsO B gp w cv o.calls ∧ o.mem.length = 64
theorem OutO.v {B : Nat} {w : World} {v : Value} {o : Out} (h : OutO B w v o) : OutV w v o := by
  obtain ⟨cv, gp, h1, h2, h3⟩ := h
  exact ⟨cv, h1, h2.v, h3⟩
theorem CallsO.less {B B' gp : Nat} {w : World} {v : Value} {cs : List Cl} (h : CallsO B gp w v cs) (hB : B' ≤ B) : CallsO B' gp w v cs := by
  obtain ⟨ps, h1, h2, h3⟩ := h
  exact ⟨ps, h1, owns_mono h2 hB, fun p hp => ⟨owns_mono (h3 p hp).1 hB, (h3 p hp).2⟩⟩
theorem size37 : (Try.prog.info? 37).map (·.size) = some 68 := by kernel_rfl
theorem size86 : (Try.prog.info? 88).map (·.size) = some 71 := by kernel_rfl

theorem rowL_splice {how val : Int} {cv : Value} {mem : List Int} {left r : Int} {pv av : Value} (h : mem.length = 64) (xs : List Int) : splice (rowL how val cv mem left r pv av) 3 (nums (xs.take 64)) = rowL how val cv (splice mem 0 (xs.take 64)) left r pv av := by
  have hl : (xs.take 64).length ≤ 64 := by simp; omega
  generalize xs.take 64 = ys at *
  unfold splice rowL outL
  have e3 : (3 + (nums ys).length) = ys.length + 3 := by rw [nums_len]; omega
  rw [e3]
  simp only [List.cons_append, List.take_succ_cons, List.take_zero, List.drop_succ_cons, List.nil_append]
  rw [Nat.zero_add, List.append_assoc, List.drop_append_of_le_length (by rw [nums_len]; omega)]
  simp [nums, List.map_drop]
/-- The input's box, behind. -/
theorem inp_box {w Wo : World} {go : Nat} {a b c d : Value} {t : TypeId} {P : Prop} (h : Hid (go = (w.alloc (.cells #[a, b, c, d] t)).heap.size ∧ P ∧ Below go (w.alloc (.cells #[a, b, c, d] t)) Wo)) :
    Wo.cell? ⟨w.heap.size, 0, none⟩ = some a ∧ Wo.cell? ⟨w.heap.size, 1, none⟩ = some b ∧ Wo.cell? ⟨w.heap.size, 2, none⟩ = some c ∧ Wo.cell? ⟨w.heap.size, 3, none⟩ = some d := by
  obtain ⟨rfl, _, hB⟩ := h.out
  refine ⟨?_, ?_, ?_, ?_⟩
  all_goals
    refine cell_below hB ?_
    rw [cell_of_row _ _ _ _ _ _ (heap_alloc_new w _)]
    rfl
/-- What is left, and whether it is under way: it falls. -/
def muR (g : Nat) (w : World) : Nat := 2 * (match w.cell? ⟨g, 67, none⟩ with | some (.int _ q) => q.toNat | _ => 0) + (match w.cell? ⟨g, 0, none⟩ with | some (.int _ q) => (if q = 0 then 1 else 0) | _ => 0)
theorem RunAt.mu {B g gp : Nat} {r : Int} {w : World} {how val : Int} {s : St} {cv av : Value} (h : RunAt B g gp r w how val s cv av) : muR g w = 2 * s.left + (if how = 0 then 1 else 0) := by
  unfold muR
  rw [h.c67, h.c0]
  simp

/-- A change that leaves rows of calls and of numbers. -/
theorem CallsO.kept {B gp : Nat} {w w' : World} {v : Value} {cs : List Cl} (h : CallsO B gp w v cs) (hk : ∀ (k : Nat) (cs : Array Value) (t : TypeId), t = 75 ∨ t = 2 → w.heap[k]? = some (Obj.cells cs t (0, 0)) → w'.heap[k]? = some (Obj.cells cs t (0, 0))) : CallsO B gp w' v cs := by
  obtain ⟨ps, h1, h2, h3⟩ := h
  refine ⟨ps, h1, ⟨h2.1, ?_⟩, fun p hp => ⟨(h3 p hp).1.kept fun k e => ?_, (h3 p hp).2⟩⟩
  · rcases h2.2 with h | ⟨g, cap, cur, hv, hb, hg, r⟩
    · exact .inl h
    · exact .inr ⟨g, cap, cur, hv, hb, hk g cur 75 (.inl rfl) hg, r⟩
  · obtain ⟨_, _, cs, hc⟩ := (h3 p hp).1.own k e
    rw [hc]
    exact hk k cs 2 (.inr rfl) hc
/-- The run's block is written anew, with another memory. -/
theorem RunAt.memd {B g gp : Nat} {r : Int} {w w' : World} {how val : Int} {s : St} {cv av : Value} {mem' : List Int} (h : RunAt B g gp r w how val s cv av) (hm : mem'.length = 64) (hr : w'.heap[g]? = some (Obj.cells (rowL how val cv mem' s.left r (.slice (some ⟨gp, 0, none⟩) s.p.length s.p.length) av).toArray 88 (0, 0))) (hg : w.grownBy w' (some g)) :
    RunAt B g gp r w' how val { s with mem := mem' } cv av ∧ Mv B gp w w' := by
  have hne : ∀ (k : Nat) (cs : Array Value) (t : TypeId), t ≠ 88 → w.heap[k]? = some (Obj.cells cs t (0, 0)) → w'.heap[k]? = some (Obj.cells cs t (0, 0)) := by
    intro k cs t ht hk
    rw [hg.block k (Array.getElem?_eq_some_iff.1 hk).1 (fun e => ?_)]
    · exact hk
    · simp only [Option.some.injEq] at e
      subst e
      rw [h.row] at hk
      simp only [Option.some.injEq, Obj.cells.injEq] at hk
      exact ht hk.2.1.symm
  have hmv : Mv B gp w w' := by
    refine ⟨(Below.refl _ _).grown hg h.size.1 fun k e => by simp at e; have := h.hg; omega, fun k cs t fr ht hk => ?_, fun k cs _ hk => hne k cs 2 (by decide) hk⟩
    rw [hg.block k (Array.getElem?_eq_some_iff.1 hk).1 (fun e => ?_)]
    · exact hk
    · simp only [Option.some.injEq] at e
      subst e
      rw [h.row] at hk
      simp only [Option.some.injEq, Obj.cells.injEq] at hk
      rw [← hk.2.1] at ht
      simp at ht
  exact ⟨⟨hr, h.calls.mv hmv fun k cs hk => hne k cs 75 (by decide) hk, h.ans.below hmv.below, hm, hne gp _ 2 (by decide) h.places, h.hg, h.hp, h.small⟩, hmv⟩

set_option maxHeartbeats 4000000 in
set_option maxRecDepth 100000 in
theorem do_any (u : Value) (bs : List Blk) (r slots first : Int) (v : Value) (I : Inp) (n : Nat) (w : World) (hu : BlksV w u bs) (hI : InpV w v I) (hb : Okay r n bs) (hn : r + rm bs slots = (n : Int)) (hn2 : n ≤ 1000000) (hr : 0 ≤ r ∧ r ≤ 1000000) (hbl : 1 ≤ bs.length ∧ bs.length ≤ 1000) :
    Calls Try.prog 22 #[u, .int .i64 r, .int .i64 slots, .int .i64 first, v] w fun e w' => ∃ x, e = .returned x ∧ OutO w.heap.size w' x (play r bs 0 (st0 n first I)) ∧ Below w.heap.size w w' := by
  obtain ⟨a, b, c, rfl, ha, hm, hc⟩ := hI
  obtain ⟨ub, cb, rfl⟩ := hu.slice
  obtain ⟨aa, ac, rfl⟩ := ha.slice
  obtain ⟨ma, mc, rfl⟩ := hm.slice
  obtain ⟨ca, cc, rfl⟩ := hc.slice
  have hz37 := (zero_of_info zero37).1
  have hz86 := (zero_of_info zero86).1
  obtain ⟨Z37, hZ37⟩ : ∃ Z, Z = (out0 0).toArray := ⟨_, rfl⟩
  obtain ⟨Z86, hZ86⟩ : ∃ Z, Z = (row0 0 (.slice none 0 0)).toArray := ⟨_, rfl⟩
  obtain ⟨R86, hR86⟩ : ∃ Z, Z = (row0 r (.slice ca I.ans.length cc)).toArray := ⟨_, rfl⟩
  simp only [← hZ37] at hz37
  simp only [← hZ86] at hz86
  have HZ := hide (And.intro hZ37 (And.intro hZ86 hR86))
  have hs86 : Z86.size = R86.size ∧ R86.size = 71 := by rw [hZ86, hR86]; simp [row0, rowL_len, z64]
  have HS := hide hs86
  have H1 : Hid (∀ v ∈ R86.toList, v.oneCell' = true) := by
    show ∀ v ∈ R86.toList, v.oneCell' = true
    rw [hR86]
    simpa [row0] using rowL_one (how := 0) (val := 0) (mem := z64) (left := 0) (r := r) (cv := .slice none 0 0) (pv := .slice none 0 0) (av := .slice ca I.ans.length cc) rfl rfl rfl
  have hbx : ∀ W, (Instr.build 88 #[(1, .int .i64 r), (3, .slice ca I.ans.length cc)]).run Try.prog W = .ok (.agg R86) W := fun W => by rw [hR86]; exact build86 r ca I.ans.length cc W
  have HBX := hide hbx
  have HZ37 := hide hz37
  have HZ86 := hide hz86
  clear hZ37 hZ86 hR86 hs86 hbx hz37 hz86
  go_enter Try.func22, Try.ntmps22
  go_wp2_with (first | (refine wpList_alloc' rfl 37 rfl Z37 HZ37.out ?_; intro go Wo ho; obtain ⟨i0, i1, i2, i3⟩ := inp_box ho) | (refine wpList_build2 rfl 88 1 3 (.tmp 13) (.tmp 15) rfl (.int .i64 r) (.slice ca I.ans.length cc) (.agg R86) rfl rfl (HBX.out _) ?_) | (refine wpList_alloc' rfl 88 rfl Z86 HZ86.out ?_; intro g Wg hg) | (refine wpList_store_whole rfl 88 (.tmp 11) (.tmp 16) rfl g 88 Z86 R86 rfl rfl hg.out.2.1 (by rw [HS.out.2]; exact size86) HS.out.1 H1.out g Wg (Below.refl _ _) (Nat.le_refl _) ?_; intro W1 hrow hgr hbel))
  have hsz1 : (w.alloc (.cells #[.slice aa I.args.length ac, .slice ma I.mem.length mc, .slice ca I.ans.length cc, .int .i64 I.fuel] 27)).heap.size = w.heap.size + 1 := by simp
  have hgo : go = w.heap.size + 1 := ho.out.1.trans hsz1
  have hbo : Below (w.heap.size + 1) (w.alloc (.cells #[.slice aa I.args.length ac, .slice ma I.mem.length mc, .slice ca I.ans.length cc, .int .i64 I.fuel] 27)) Wo := by have := ho.out.2.2; rwa [hgo] at this
  have hgW : go < Wo.heap.size := (Array.getElem?_eq_some_iff.1 ho.out.2.1).1
  have hgg : w.heap.size + 2 ≤ g := by rw [hg.out.1]; omega
  have hB1 : Below (w.heap.size + 2) Wo W1 := (hg.out.2.2.mono hgg).trans (hbel.out.mono hgg)
  have hBw : Below w.heap.size w W1 := ((bel1' w _).trans (hbo.mono (by omega))).trans (hB1.mono (by omega))
  have hgr1 : W1.heap[go]? = some (Obj.cells Z37 37 (0, 0)) := (hB1.block go (by omega)).trans ho.out.2.1
  have hj : ∀ j v, Wo.cell? ⟨w.heap.size, j, none⟩ = some v → W1.cell? ⟨w.heap.size, j, none⟩ = some v := fun j v h => (hB1.cell (p := ⟨w.heap.size, j, none⟩) (by simp)).trans h
  have hR86 : R86 = (row0 r (.slice ca I.ans.length cc)).toArray := HZ.out.2.2
  have hrw : W1.heap[g]? = some (Obj.cells (row0 r (.slice ca I.ans.length cc)).toArray 88 (0, 0)) := by rw [← hR86]; exact hrow.out
  have hc69 : W1.cell? ⟨g, 69, none⟩ = some (.slice none 0 0) := by rw [cell_of_row _ _ _ _ _ _ hrw]; rfl
  have hf69 : W1.frozen? ⟨g, 69, none⟩ = false := frozen_of_row _ _ _ _ _ hrw
  have hglt : g < W1.heap.size := (Array.getElem?_eq_some_iff.1 hrw).1
  have HC := hide (And.intro (hj 1 _ i1) (hj 3 _ i3))
  have HGOE := hide hgo
  have HW1 := hide (And.intro hBw (And.intro hgr1 (And.intro hrw (And.intro hgg hgo))))
  refine do2_ok (g := g) (gi := w.heap.size) (n := n) (args := I.args) rfl rfl rfl rfl rfl rfl rfl (hu.below hBw) (fun b hb' => ⟨(hb b hb').1, fun i hi => okS_of ((hb b hb').2.1 i hi)⟩) hbl.2 (ha.below hBw) (hj 0 _ i0) hn2 hn hc69 hf69 hglt ?_
  clear hc69 hf69 i0 i1 i2 i3 hj hB1 hgW hbo hsz1 ho hg hgr hbel hrow hBw hgr1 hrw hgg hgo HBX H1 HS HZ86
  intro q gp W2 hB2 hgp2 hrow2
  simp [overlay, dstsOf, ops_do2_ok, Act.put]
  have hrw := HW1.out.2.2.1
  have hgg := HW1.out.2.2.2.1
  have hgpg : gp ≠ g := by omega
  have hR1 : RunAt w.heap.size g gp r (W2.setCell ⟨g, 69, none⟩ (.slice (some ⟨gp, 0, none⟩) n n)) 0 0 ⟨laidL n first I.args, z64, [], 0, I.ans⟩ (.slice none 0 0) (.slice ca I.ans.length cc) := by
    have hrw2 : W2.heap[g]? = some (Obj.cells (row0 r (.slice ca I.ans.length cc)).toArray 88 (0, 0)) := (hB2.block g hglt).trans hrw
    refine ⟨?_, CallsO.nil _ _ _, ?_, by simp [z64], ?_, by omega, by omega, by simp only [laidL_len]; omega⟩
    · rw [heap_setCell_same W2 g 69 _ _ _ hrw2]
      simp only [row0, List.setIfInBounds_toArray, rowL_set_pv (show z64.length = 64 by simp [z64]), laidL_len]
      rfl
    · refine ((NumsB.of hc (Nat.le_refl _)).below (HW1.out.1.trans (hB2.mono HW1.out.1.size))).below ((Below.refl _ _).setCell (by simp only; omega) _)
    · rw [Below.heap_setCell _ _ _ _ (by simpa using hgpg)]
      exact hrow2
  have hB3 : Below w.heap.size w (W2.setCell ⟨g, 69, none⟩ (.slice (some ⟨gp, 0, none⟩) n n)) := (HW1.out.1.trans (hB2.mono HW1.out.1.size)).setCell (by simp only; omega) _
  have hgo3 : (W2.setCell ⟨g, 69, none⟩ (.slice (some ⟨gp, 0, none⟩) n n)).heap[go]? = some (Obj.cells Z37 37 (0, 0)) := by
    have hgo := HW1.out.2.2.2.2
    rw [Below.heap_setCell _ _ _ _ (by simp only; omega), hB2.block go (by omega)]
    exact HW1.out.2.1
  have hi1 : (W2.setCell ⟨g, 69, none⟩ (.slice (some ⟨gp, 0, none⟩) n n)).cell? ⟨w.heap.size, 1, none⟩ = some (.slice ma I.mem.length mc) := (((Below.refl (w.heap.size + 1) W2).setCell (p := ⟨g, 69, none⟩) (by simp only; omega) _).cell (p := ⟨w.heap.size, 1, none⟩) (by simp)).trans (cell_below hB2 HC.out.1)
  have hi3 : (W2.setCell ⟨g, 69, none⟩ (.slice (some ⟨gp, 0, none⟩) n n)).cell? ⟨w.heap.size, 3, none⟩ = some (.int .i64 I.fuel) := (((Below.refl (w.heap.size + 1) W2).setCell (p := ⟨g, 69, none⟩) (by simp only; omega) _).cell (p := ⟨w.heap.size, 3, none⟩) (by simp)).trans (cell_below hB2 HC.out.2)
  generalize W2.setCell ⟨g, 69, none⟩ (.slice (some ⟨gp, 0, none⟩) n n) = W3 at *
  have hdr : Below W3.heap.size W3 W3.drew := (Below.refl _ _).drew
  have hRd := hR1.of hdr
  obtain ⟨kk, W4, hrun, hrow4, hg4⟩ := run_copy2 W3.drew g 3 64 64 _ 88 ma mc I.mem hRd.row ((hm.below hB3).below hdr) (by rw [rowL_len hRd.mem]; omega)
  rw [rowL_splice hRd.mem] at hrow4
  obtain ⟨hR4, hM4⟩ := hRd.memd (mem' := memOf I.mem) (memOf_len _) hrow4 hg4
  have HB4 := hide (And.intro (hB3.trans ((hdr.mono hB3.size).trans hM4.below)) (And.intro (hM4.keeps _ _ _ _ rfl ((hdr.block go (Array.getElem?_eq_some_iff.1 hgo3).1).trans hgo3)) ((hg4.block _ (World.block_lt_of_cell? W3 _ hi3) (by simp; omega)))))
  have hi34 : W4.cell? ⟨w.heap.size, 3, none⟩ = some (.int .i64 I.fuel) := (World.cell?_of_block (a := ⟨w.heap.size, 3, none⟩) HB4.out.2.2).trans hi3
  have HR4 := hide hR4
  have HI := hide (And.intro hi1 (And.intro hrun hgg))
  clear hR4 hM4 hg4 hrow4 hRd hdr hR1 hB3 hgo3 hi1 hi3 hrun hrw hB2 hgp2 hrow2 HW1 HC hgpg hgg hglt
  go_wp2_with fail
  refine do3_ok (g := g) (gi := w.heap.size) rfl rfl rfl HI.out.1 HI.out.2.1 ?_
  intro q3
  simp [overlay, dstsOf, ops_do3_ok]
  clear HI
  generalize row0 r (.slice ca I.ans.length cc) = RR at *
  obtain ⟨m1, hm1⟩ : ∃ m1, m1 = max I.fuel 0 := ⟨_, rfl⟩
  obtain ⟨m2, hm2⟩ : ∃ m2, m2 = min m1 1048576 := ⟨_, rfl⟩
  have hmx : ∀ ts t W, (Builtin.max_ ts t #[.int .i64 I.fuel, .int .i64 0]).run Try.prog W = .ok (.int .i64 m1) W := by
    intro ts t W
    rw [run_max_int2, hm1]
    congr 2
    split <;> omega
  have hmn : ∀ ts t W, (Builtin.min_ ts t #[.int .i64 m1, .int .i64 1048576]).run Try.prog W = .ok (.int .i64 m2) W := by
    intro ts t W
    rw [run_min_int2, hm2]
    congr 2
    split <;> omega
  have hfu : ((fuelOf I.fuel : Nat) : Int) = m2 := by unfold fuelOf; rw [hm2, hm1]; omega
  have hfl : fuelOf I.fuel ≤ 1048576 := by unfold fuelOf; omega
  have hR4 := HR4.out
  obtain ⟨hR5, hM5⟩ := hR4.put (j := 67) (u := .int .i64 m2) (how' := 0) (val' := 0) (mem' := memOf I.mem) (left' := fuelOf I.fuel) hR4.calls hR4.ans hR4.mem (by rw [← hfu]; exact rowL_set_left hR4.mem _)
  have c67 := hR4.c67
  have f67 := hR4.fr 67
  have HR5 : Hid (RunAt w.heap.size g gp r (W4.setCell ⟨g, 67, none⟩ (.int .i64 m2)) 0 0 (st0 n first I) (.slice none 0 0) (.slice ca I.ans.length cc)) := hR5
  have HB5 := hide (And.intro (HB4.out.1.trans hM5.below) (hM5.keeps _ _ _ _ rfl HB4.out.2.1))
  clear hR4 hR5 hM5 hm1 hm2 hfu HR4 HB4
  go_wp2_with fail
  clear c67 f67 hmx hmn hi34
  generalize W4.setCell ⟨g, 67, none⟩ (.int .i64 m2) = W5 at *
  have hlen0 : (st0 n first I).p.length = n := laidL_len _ _ _
  have hsane0 : (st0 n first I).calls.length + (st0 n first I).left ≤ 1048576 := by show 0 + fuelOf I.fuel ≤ 1048576; omega
  generalize hs0 : st0 n first I = s0 at *
  have HS0 := hide hs0
  clear hs0
  have hgoK : ∀ W, Mv w.heap.size gp W5 W → W.heap[go]? = some (Obj.cells Z37 37 (0, 0)) := fun W hM => hM.keeps _ _ _ _ rfl HB5.out.2
  have HGO := hide hgoK
  clear hgoK
  go_loopw [12] (fun iv wr => Mv w.heap.size gp W5 wr ∧ ((∃ (t : Int) (sx : St) (cx ax : Value), iv = .int .i64 t ∧ RunAt w.heap.size g gp r wr 0 0 sx cx ax ∧ play r bs 0 s0 = play r bs t sx ∧ (0 ≤ t ∧ t < (bs.length : Int)) ∧ sx.p.length = n ∧ sx.calls.length + sx.left ≤ 1048576) ∨ (∃ t : Int, iv = .int .i64 t) ∧ Ended w.heap.size g gp r wr (play r bs 0 s0) ∧ (play r bs 0 s0).how ≠ 0)) (fun _ wr => muR g wr)
  case atStart => exact ⟨Mv.refl _ _ _, .inl ⟨0, s0, _, _, rfl, HR5.out, rfl, by omega, hlen0, hsane0⟩⟩
  case round =>
    obtain ⟨hM, hrel | hrel⟩ := hrel
    · obtain ⟨t, sx, cx, ax, rfl, hR, hpl, ht, hsl, hsn⟩ := hrel
      obtain ⟨tn, rfl, ht2⟩ := nat_of ht
      have hBr : Below w.heap.size w wr := HB5.out.1.trans hM.below
      obtain ⟨gb, off, rfl, ui, hcells0, hui0⟩ := SlV.at hu tn ht2
      obtain ⟨q1, q2, q3⟩ := hb _ (show bs.getD tn Blk.zero ∈ bs by simp [List.getElem?_eq_getElem ht2])
      have hpe := play_eq r bs (tn : Int) sx
      rw [Int.toNat_natCast] at hpe
      generalize bs.getD tn Blk.zero = bb at *
      have hC := hide (block_any w.heap.size g gp r w wr sx cx ax bb ui bs.length hR rfl hBr hui0 ⟨q1, by rw [hsl]; exact q2, by rw [hsl]; exact q3⟩ hr.1 hsn)
      obtain ⟨is, e⟩ := bb
      obtain ⟨c0, c1, c2, c3, c4⟩ := hcells0.below hBr
      simp only at c0 c1 c2 c3 c4 hui0 q3
      obtain ⟨ai, ci, rfl⟩ := hui0.slice
      unfold blkV at hC
      simp only at hC
      have hz0 := hR.c0
      have HPE := hide (hpl.trans hpe)
      have HMU := hide hR.mu
      have HM := hide hM
      have HSN := hide hsn
      have htl : (tn : Int) < (bs.length : Int) := by omega
      clear hR hM hBr hui0 hcells0 hpl hpe q1 q2 hsn
      go_wp2_with fail
      refine hC.out.mono ?_
      rintro x W6 ⟨hmv, hx⟩
      cases hbk : blk r ⟨is, e⟩ sx with
      | inl y =>
        obtain ⟨t', s'⟩ := y
        rw [hbk] at hx HPE
        obtain ⟨rfl, cn, an, hR6⟩ := hx
        obtain ⟨k1, k2, k3⟩ := blk_keeps hbk
        have k4 := blk_left hbk
        have k5 := blk_to q3 hbk
        have HK := hide (And.intro k1 (And.intro k3 (And.intro k4 k5)))
        have HR6 := hide hR6
        have HM6 := hide (HM.out.trans hmv)
        clear hR6 k1 k2 k3 k4 k5 hmv hbk hC hz0 c0 c1 c2 c3 c4 HM
        go_wp2_with fail
        go_roundw
        case rel => exact ⟨HM6.out, .inl ⟨t', s', _, _, rfl, HR6.out, HPE.out, HK.out.2.2.2, by rw [HK.out.1]; exact hsl, by have := HK.out.2.1; have := HSN.out; omega⟩⟩
        case measure =>
          show muR g W6 < muR g wr
          rw [HR6.out.mu, HMU.out]
          have := HK.out.2.2.1
          simp
          omega
      | inr o =>
        rw [hbk] at hx HPE
        obtain ⟨⟨t', rfl⟩, sE, cE, aE, hRE, e1, e2, e3⟩ := hx
        have HK := hide (blk_fin hbk)
        have HM6 := hide (HM.out.trans hmv)
        have HE6 := hide (And.intro hRE (And.intro e1 (And.intro e2 e3)))
        clear hRE e1 e2 e3 hmv hbk hC hz0 c0 c1 c2 c3 c4 HM
        go_wp2_with fail
        go_roundw
        case rel => exact ⟨HM6.out, .inr ⟨⟨t', rfl⟩, by rw [HPE.out]; exact ⟨_, _, _, HE6.out⟩, by rw [HPE.out]; exact HK.out.2⟩⟩
        case measure =>
          show muR g W6 < muR g wr
          rw [HE6.out.1.mu, HMU.out, if_neg HK.out.2, HE6.out.2.2.2]
          have := HK.out.1
          simp
          omega
    · obtain ⟨⟨t, rfl⟩, hEnd, hne⟩ := hrel
      generalize hpo : play r bs 0 s0 = o at *
      have HPO := hide hpo
      clear hpo
      obtain ⟨sE, cE, aE, hRE, e1, e2, e3⟩ := hEnd
      have hz0 := hRE.c0
      have hnb : (o.how == 0) = false := by simpa using hne
      obtain ⟨OL, hOL⟩ : ∃ OL, OL = outL o.how o.val cE sE.mem sE.left := ⟨_, rfl⟩
      have hlen : OL.length = 68 := by rw [hOL]; exact outL_len hRE.mem
      have hrange : wr.rangeAt g 0 OL := by
        intro j v hj
        have hjl : j < 68 := by have := (List.getElem?_eq_some_iff.1 hj).1; omega
        rw [Nat.zero_add]
        refine hRE.cell ?_
        rw [rowL, List.getElem?_append_left (by rw [outL_len hRE.mem]; exact hjl), ← hOL]
        exact hj
      have hCO := hRE.calls
      have hcE : ∃ ao cap, cE = .slice ao sE.calls.length cap := hCO.v.slice
      have hone : ∀ v ∈ OL, v.oneCell' = true := by
        rw [hOL]
        obtain ⟨ao, cap, rfl⟩ := hcE
        exact outL_one rfl
      have hgo5 := HGO.out wr hM
      have hzl : Z37.size = 68 := by rw [HZ.out.1]; simp [out0, outL_len, z64]
      have hBr : Below w.heap.size w wr := HB5.out.1.trans hM.below
      have HF := hide (And.intro hlen (And.intro hrange (And.intro hone (And.intro hgo5 (And.intro hzl hBr)))))
      have HEND := hide (And.intro hRE (And.intro e1 (And.intro e2 (And.intro e3 hOL))))
      clear hlen hrange hone hgo5 hzl hBr hRE hCO hcE e1 e2 e3 hOL hne hM
      go_wp2_with (first | (refine wpList_load_mid rfl 37 (.tmp 48) rfl g 0 rfl OL _ HF.out.2.1 Try.underlying37 rfl (by rw [HF.out.1]; exact size37) ?_) | (refine wpList_store_whole rfl 37 (.tmp 10) (.tmp 49) rfl go 37 Z37 OL.toArray rfl rfl HF.out.2.2.2.1 (by simp only [List.size_toArray, HF.out.1]; exact size37) (by simp only [List.size_toArray, HF.out.1]; exact HF.out.2.2.2.2.1) (by simpa using HF.out.2.2.1) w.heap.size w HF.out.2.2.2.2.2 (by rw [HGOE.out]; omega) ?_; intro W7 hrow7 hgr7 hbel7))
      refine bodyPost_ret (results_cell_row rfl _ W7 go 37 OL.toArray (0, 0) _ rfl hrow7.out Try.underlying37 rfl (by simp only [List.size_toArray, HF.out.1]; exact size37)) rfl ?_
      refine ⟨_, rfl, ?_, hbel7.out⟩
      rw [HS0.out, HPO.out]
      obtain ⟨hRE, e1, e2, e3, hOL⟩ := HEND.out
      refine ⟨cE, gp, by rw [hOL, e2, e3], ?_, by rw [← e2]; exact hRE.mem⟩
      rw [← e1]
      refine hRE.calls.kept fun k cs t ht hk => ?_
      rw [hgr7.out.block k (Array.getElem?_eq_some_iff.1 hk).1 (fun e => ?_)]
      · exact hk
      · simp only [Option.some.injEq] at e
        subst e
        rw [HF.out.2.2.2.1] at hk
        simp only [Option.some.injEq, Obj.cells.injEq] at hk
        rcases ht with rfl | rfl
        · exact absurd hk.2.1 (by decide)
        · exact absurd hk.2.1 (by decide)
end Go.Proofs.Ytepmbkiojpffpaa
