/- Boxes, outputs in variables: what the laws on runs share. -/
import Derived.Test.YtljnngblhfhhaabOi
import Derived.Test.YtljnngblhfhhaabPf
import Derived.Test.YtljnngblhfhhaabMade
namespace Go.Proofs.Ytljnngblhfhhaab
open Go.RowKit Ir

/-- A spec's box and an input's, behind. -/
theorem law_box (w : World) (a b c d e f g h : Value) : ∀ W, Below ((w.alloc (.cells #[a, b, c, d] 24)).alloc (.cells #[e, f, g, h] 27)).heap.size ((w.alloc (.cells #[a, b, c, d] 24)).alloc (.cells #[e, f, g, h] 27)) W →
    W.cell? ⟨w.heap.size, 0, none⟩ = some a ∧ W.cell? ⟨w.heap.size, 1, none⟩ = some b ∧ W.cell? ⟨w.heap.size, 2, none⟩ = some c ∧ W.cell? ⟨w.heap.size, 3, none⟩ = some d ∧ W.cell? ⟨w.heap.size + 1, 0, none⟩ = some e ∧ W.cell? ⟨w.heap.size + 1, 1, none⟩ = some f ∧ W.cell? ⟨w.heap.size + 1, 2, none⟩ = some g ∧ W.cell? ⟨w.heap.size + 1, 3, none⟩ = some h ∧ Below w.heap.size w W := by
  intro W hB
  have h1 : (w.alloc (.cells #[a, b, c, d] 24)).heap.size = w.heap.size + 1 := by simp
  have hB1 := bel1' (w.alloc (.cells #[a, b, c, d] 24)) (.cells #[e, f, g, h] 27)
  have hr1 := heap_alloc_new w (.cells #[a, b, c, d] 24)
  have hr2 := heap_alloc_new (w.alloc (.cells #[a, b, c, d] 24)) (.cells #[e, f, g, h] 27)
  rw [h1] at hr2
  refine ⟨?_, ?_, ?_, ?_, ?_, ?_, ?_, ?_, bel_of (bel1' w _) (bel_of hB1 hB)⟩
  all_goals refine cell_below hB ?_
  iterate 4 (refine cell_below hB1 ?_; rw [cell_of_row _ _ _ _ _ _ hr1]; rfl)
  all_goals (rw [cell_of_row _ _ _ _ _ _ hr2]; rfl)
theorem SpecV.below {w w' : World} {v : Value} {a b c : Int} {bs : List Int} (h : SpecV w v a b c bs) (hB : Below w.heap.size w w') : SpecV w' v a b c bs := by
  obtain ⟨u, h1, h2, h3, h4, h5⟩ := h
  exact ⟨u, h1, h2, h3, h4, h5.below hB⟩
theorem made_p (a b c : Int) (bs : List Int) : ∃ pn : Nat, (made a b c bs).p = (pn : Int) ∧ pn ≤ 4 := by
  have h : (made a b c bs).p = a % 5 := rfl
  exact ⟨(a % 5).toNat, by rw [h]; omega, by omega⟩
theorem runF_zero {F : Fun} {I : Inp} {pn : Nat} (hF : chk F = (0, 0, 0)) (hp : F.p = (pn : Int)) (hl : I.args.length = pn) (hf : 0 ≤ I.fuel ∧ I.fuel ≤ 1048576) : runF F I = 0 := by
  unfold runF
  rw [hF]
  unfold inpF
  rw [hp, hl]
  simp
  omega
theorem runO_play {F : Fun} {I : Inp} (h : runF F I = 0) : runO F I = play F.v F.bs 0 (st0 F.v.toNat 0 I) := by unfold runO; rw [if_pos h]
theorem st0_more (n : Nat) (first : Int) (I : Inp) (m : Int) (hf : 0 ≤ I.fuel ∧ I.fuel ≤ 1000) (hm : 0 ≤ m ∧ m ≤ 1000) : st0 n first { I with fuel := I.fuel + m } = more m.toNat (st0 n first I) := by
  unfold st0 more
  simp only [St.mk.injEq, true_and, and_true]
  unfold fuelOf
  omega
/-- Calls that a call of ours has laid. -/
def CallsX (W : World) (v : Value) (cs : List Cl) : Prop := ∃ B gp, CallsO B gp W v cs
theorem CallsX.v {W : World} {v : Value} {cs : List Cl} (h : CallsX W v cs) : CallsV W v cs := by
  obtain ⟨_, _, h⟩ := h
  exact h.v
theorem CallsX.below {W W' : World} {v : Value} {cs : List Cl} (h : CallsX W v cs) (hB : Below W.heap.size W W') : CallsX W' v cs := by
  obtain ⟨B, gp, h⟩ := h
  exact ⟨B, gp, h.kept fun k cs t _ hk => (hB.block k (Array.getElem?_eq_some_iff.1 hk).1).trans hk⟩
/-- A store into a variable of an output leaves them. -/
theorem CallsX.set {W : World} {v : Value} {cs : List Cl} {g off : Nat} {A : Array Value} (h : CallsX W v cs) (hg : W.heap[g]? = some (Obj.cells A 37 (0, 0))) (u : Value) : CallsX (W.setCell ⟨g, off, none⟩ u) v cs := by
  obtain ⟨B, gp, h⟩ := h
  refine ⟨B, gp, h.kept fun k cs t ht hk => ?_⟩
  rw [Below.heap_setCell _ _ _ _ (fun e => ?_)]
  · exact hk
  · simp only at e
    subst e
    rw [hg] at hk
    simp only [Option.some.injEq, Obj.cells.injEq] at hk
    rcases ht with rfl | rfl
    · exact absurd hk.2.1 (by decide)
    · exact absurd hk.2.1 (by decide)
/-- What a variable of an output has, of a run's result. -/
theorem out_var {B : Nat} {W : World} {v : Value} {o : Out} (h : OutO B W v o) : ∃ (OL : List Value) (cv : Value), v = .agg OL.toArray ∧ OL = outL o.how o.val cv o.mem o.left ∧ OL.length = 68 ∧ (∀ u ∈ OL.toArray.toList, u.oneCell' = true) ∧ CallsX W cv o.calls ∧ o.mem.length = 64 := by
  obtain ⟨cv, gp, h1, h2, h3⟩ := h
  refine ⟨_, cv, h1, rfl, outL_len h3, ?_, ⟨_, _, h2⟩, h3⟩
  obtain ⟨ao, cap, rfl⟩ := h2.v.slice
  simpa using outL_one (how := o.how) (val := o.val) (mem := o.mem) (left := o.left) (cv := .slice ao o.calls.length cap) rfl

/-- Two variables of outputs, behind. -/
theorem two_outs {W6 W7 : World} {ga gb : Nat} {oa ob : Out} {cva cvb : Value} {OA OB : List Value} {P : Prop} (hA : OA = outL oa.how oa.val cva oa.mem oa.left ∧ OA.length = 68 ∧ (∀ u ∈ OA.toArray.toList, u.oneCell' = true) ∧ P ∧ oa.mem.length = 64) (hB : OB = outL ob.how ob.val cvb ob.mem ob.left ∧ OB.length = 68 ∧ (∀ u ∈ OB.toArray.toList, u.oneCell' = true) ∧ CallsX W6 cvb ob.calls ∧ ob.mem.length = 64) (ha : W6.heap[ga]? = some (Obj.cells OA.toArray 37 (0, 0)) ∧ CallsX W6 cva oa.calls)
    (hb : Hid (gb = W6.heap.size ∧ W7.heap[gb]? = some (Obj.cells OB.toArray 37 (0, 0)) ∧ Below gb W6 W7)) :
    (W7.cell? ⟨ga, 0, none⟩ = some (.int .i64 oa.how) ∧ W7.cell? ⟨ga, 1, none⟩ = some (.int .i64 oa.val) ∧ W7.cell? ⟨ga, 2, none⟩ = some cva ∧ W7.cell? ⟨ga, 67, none⟩ = some (.int .i64 oa.left)) ∧ (W7.cell? ⟨gb, 0, none⟩ = some (.int .i64 ob.how) ∧ W7.cell? ⟨gb, 1, none⟩ = some (.int .i64 ob.val) ∧ W7.cell? ⟨gb, 2, none⟩ = some cvb ∧ W7.cell? ⟨gb, 67, none⟩ = some (.int .i64 ob.left)) ∧ Hid (CallsX W7 cva oa.calls ∧ CallsX W7 cvb ob.calls ∧ W7.heap[ga]? = some (Obj.cells OA.toArray 37 (0, 0)) ∧ W7.heap[gb]? = some (Obj.cells OB.toArray 37 (0, 0)) ∧ Below W6.heap.size W6 W7) := by
  obtain ⟨eA, _, _, _, mA⟩ := hA
  obtain ⟨eB, _, _, cB, mB⟩ := hB
  obtain ⟨hg, hr, hB'⟩ := hb.out
  rw [hg] at hB'
  have hra : W7.heap[ga]? = some (Obj.cells OA.toArray 37 (0, 0)) := (hB'.block ga (Array.getElem?_eq_some_iff.1 ha.1).1).trans ha.1
  have hra' := hra
  rw [eA] at hra'
  have hr' := hr
  rw [eB] at hr
  exact ⟨out_cells mA hra', out_cells mB hr, ha.2.below hB', cB.below hB', hra, hr', hB'⟩
/-- More is left. -/
theorem left_more {W7 : World} {ga gb : Nat} {oa ob : Out} {cva cvb : Value} {OA OB : List Value} {m : Int} (hm : 0 ≤ m) (hob : ob = { oa with left := oa.left + m.toNat }) (eA : OA = outL oa.how oa.val cva oa.mem oa.left) (mA : oa.mem.length = 64) (eB : OB = outL ob.how ob.val cvb ob.mem ob.left) (h : CallsX W7 cva oa.calls ∧ CallsX W7 cvb ob.calls ∧ W7.heap[ga]? = some (Obj.cells OA.toArray 37 (0, 0)) ∧ W7.heap[gb]? = some (Obj.cells OB.toArray 37 (0, 0))) (hne : ga ≠ gb) :
    ∃ OC : List Value, (W7.setCell ⟨ga, 67, none⟩ (.int .i64 ((oa.left : Int) + m))).heap[ga]? = some (Obj.cells OC.toArray 37 (0, 0)) ∧ (W7.setCell ⟨ga, 67, none⟩ (.int .i64 ((oa.left : Int) + m))).heap[gb]? = some (Obj.cells OB.toArray 37 (0, 0)) ∧ OutV (W7.setCell ⟨ga, 67, none⟩ (.int .i64 ((oa.left : Int) + m))) (.agg OC.toArray) ob ∧ OutV (W7.setCell ⟨ga, 67, none⟩ (.int .i64 ((oa.left : Int) + m))) (.agg OB.toArray) ob ∧ OC.length = 68 := by
  obtain ⟨h1, h2, h3, h4⟩ := h
  have hl : ((oa.left : Int) + m) = ((oa.left + m.toNat : Nat) : Int) := by omega
  refine ⟨outL oa.how oa.val cva oa.mem ((oa.left : Int) + m), ?_, ?_, ?_, ?_, outL_len mA⟩
  · rw [heap_setCell_same W7 ga 67 _ _ _ h3, eA]
    simp [outL_set_left mA]
  · rw [Below.heap_setCell _ _ _ _ (by simpa using fun e => hne e.symm)]
    exact h4
  · rw [hob, hl]
    exact ⟨cva, rfl, (h1.set h3 _).v, mA⟩
  · rw [eB]
    exact ⟨cvb, rfl, (h2.set h3 _).v, by rw [hob]; exact mA⟩
end Go.Proofs.Ytljnngblhfhhaab
