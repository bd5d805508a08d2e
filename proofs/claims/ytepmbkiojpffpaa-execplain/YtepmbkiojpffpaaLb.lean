/- The boxes of what came in, variables of outputs, small rows. -/
import Derived.Test.YtepmbkiojpffpaaRr
import Derived.Test.YtepmbkiojpffpaaMade
import Derived.Test.YtepmbkiojpffpaaOpen
namespace Go.Proofs.Ytepmbkiojpffpaa
open Go.RowKit Ir

/-- One block of one instruction. -/
theorem blks_one {W : World} {g0 g1 : Nat} {i : Ins} {e : En} (h1 : W.heap[g1]? = some (Obj.cells (rowBk (.slice (some ⟨g0, 0, none⟩) 1 1) e) 60 (0, 0))) (h0 : W.heap[g0]? = some (Obj.cells (rowI i (.slice none 0 0)) 65 (0, 0))) (ha : i.args = []) : BlksV W (.slice (some ⟨g1, 0, none⟩) 1 1) [⟨[i], e⟩] := by
  refine ⟨_, 1, rfl, Nat.le_refl _, by simp [maxLen], fun h => by simp at h, fun _ => ⟨g1, 0, rfl, fun j hj => ?_⟩⟩
  have : j = 0 := by simp at hj; omega
  subst this
  refine ⟨.slice (some ⟨g0, 0, none⟩) 1 1, rowBk_cells h1, _, 1, rfl, Nat.le_refl _, by simp [maxLen], fun h => by simp at h, fun _ => ⟨g0, 0, rfl, fun j hj => ?_⟩⟩
  have : j = 0 := by simp at hj; omega
  subst this
  refine ⟨.slice none 0 0, rowI_cells h0, ?_⟩
  show IntsV W _ i.args
  rw [ha]
  exact SlV.nil
theorem ints_one {W : World} {g : Nat} {x : Int} {t : TypeId} (h : W.heap[g]? = some (Obj.cells #[.int .i64 x] t (0, 0))) : IntsV W (.slice (some ⟨g, 0, none⟩) 1 1) [x] := by
  refine ⟨_, 1, rfl, Nat.le_refl _, by simp [maxLen], fun h => by simp at h, fun _ => ⟨g, 0, rfl, fun j hj => ?_⟩⟩
  have : j = 0 := by simp at hj; omega
  subst this
  exact (cell_of_row _ _ _ _ _ _ h).trans rfl
/-- What an output's variable has. -/
theorem out_cells {W : World} {g : Nat} {o : Out} {cv : Value} (hm : o.mem.length = 64) (h : W.heap[g]? = some (Obj.cells (outL o.how o.val cv o.mem o.left).toArray 37 (0, 0))) : W.cell? ⟨g, 0, none⟩ = some (.int .i64 o.how) ∧ W.cell? ⟨g, 1, none⟩ = some (.int .i64 o.val) ∧ W.cell? ⟨g, 2, none⟩ = some cv ∧ W.cell? ⟨g, 67, none⟩ = some (.int .i64 o.left) := by
  refine ⟨?_, ?_, ?_, ?_⟩
  all_goals rw [cell_of_row _ _ _ _ _ _ h]
  · rfl
  · rfl
  · rfl
  · simpa using outL_left hm
/-- The zero output, and what is asked of one's cells. -/
theorem z37 : ∃ Z : Array Value, (∀ W, (zeroValue 37).run Try.prog W = .ok (.agg Z) W) ∧ Z.size = 68 :=
  ⟨(out0 0).toArray, (zero_of_info zero37).1, by simp [out0, outL_len, z64]⟩

/-- 'append', whose run is known. -/
theorem wpList_appR {ops : Array Oper} {rest : List Oper} {o : Oper} {a : Act} {w w' : World} {Q : Exit → Act → World → Prop} (t : TypeId) (hgd : o.guard = none) (x y : Operand) (ho : o.op = .call { callee := .builtin .append, args := #[x, y], argTypes := #[t, t] }) (hot : o.type = t) {ux uy V : Value} (hx : a.eval x = ux) (hy : a.eval y = uy) (hrun : (Builtin.append_ #[t, t] t #[ux, uy]).run Try.prog w = .ok V w') (hK : wpList Try.prog ops Q rest (a.put o.dst V) w') : wpList Try.prog ops Q (o :: rest) a w := by
  refine wpList_is hgd ?_ hK
  simp only [execOp, ho, hot, resolve, invoke, builtin, Sem.run_bind, Sem.run_pure, Result.andThen_ok, List.map_toArray, List.map_cons, List.map_nil, hx, hy, hrun]
/-- 'xs[:k]'. -/
theorem IntsV.take {w : World} {ao : Option Addr} {n cap : Nat} {xs : List Int} (h : IntsV w (.slice ao n cap) xs) (k : Nat) : IntsV w (.slice ao (min k n) cap) (xs.take k) := by
  have hn := (SlV.cap h).1
  obtain ⟨ao', cap', h1, h2, h3, h4, h5⟩ := h
  simp only [Value.slice.injEq] at h1
  obtain ⟨rfl, _, rfl⟩ := h1
  refine ⟨ao, cap, by rw [List.length_take, hn], by rw [List.length_take]; omega, h3, h4, fun h0 => ?_⟩
  rw [List.length_take] at h0
  obtain ⟨b, off, e, hc⟩ := h5 (by omega)
  refine ⟨b, off, e, fun j hj => ?_⟩
  rw [List.length_take] at hj
  have := hc j (by omega)
  have e2 : (xs.take k).getD j 0 = xs.getD j 0 := by simp [show j < k by omega]
  rw [e2]
  exact this
/-- A spec's box and an input's, behind. -/
theorem law_box (w : World) (a b c d e f g h : Value) : ∀ W, Below ((w.alloc (.cells #[a, b, c, d] 24)).alloc (.cells #[e, f, g, h] 27)).heap.size ((w.alloc (.cells #[a, b, c, d] 24)).alloc (.cells #[e, f, g, h] 27)) W →
    W.cell? ⟨w.heap.size, 0, none⟩ = some a ∧ W.cell? ⟨w.heap.size, 1, none⟩ = some b ∧ W.cell? ⟨w.heap.size, 2, none⟩ = some c ∧ W.cell? ⟨w.heap.size, 3, none⟩ = some d ∧ W.cell? ⟨w.heap.size + 1, 0, none⟩ = some e ∧ W.cell? ⟨w.heap.size + 1, 1, none⟩ = some f ∧ W.cell? ⟨w.heap.size + 1, 2, none⟩ = some g ∧ W.cell? ⟨w.heap.size + 1, 3, none⟩ = some h ∧ Below w.heap.size w W := by
  intro W hB
  have h1 : (w.alloc (.cells #[a, b, c, d] 24)).heap.size = w.heap.size + 1 := by simp
  have hB1 := bel1' (w.alloc (.cells #[a, b, c, d] 24)) (.cells #[e, f, g, h] 27)
  have hr1 := heap_alloc_new w (.cells #[a, b, c, d] 24)
  have hr2 := heap_alloc_new (w.alloc (.cells #[a, b, c, d] 24)) (.cells #[e, f, g, h] 27)
  rw [h1] at hr2
  refine ⟨?_, ?_, ?_, ?_, ?_, ?_, ?_, ?_, bel_of (bel1' w _) (bel_of hB1 hB)⟩
  all_goals refine cell_below hB ?_
  iterate 4 (refine cell_below hB1 ?_; rw [cell_of_row _ _ _ _ _ _ hr1]; rfl)
  all_goals (rw [cell_of_row _ _ _ _ _ _ hr2]; rfl)
theorem SpecV.below {w w' : World} {v : Value} {a b c : Int} {bs : List Int} (h : SpecV w v a b c bs) (hB : Below w.heap.size w w') : SpecV w' v a b c bs := by
  obtain ⟨u, h1, h2, h3, h4, h5⟩ := h
  exact ⟨u, h1, h2, h3, h4, h5.below hB⟩
theorem made_p (a b c : Int) (bs : List Int) : ∃ pn : Nat, (made a b c bs).p = (pn : Int) ∧ pn ≤ 4 := by
  have h : (made a b c bs).p = a % 5 := rfl
  exact ⟨(a % 5).toNat, by rw [h]; omega, by omega⟩
/-- Calls that a call of ours has laid. -/
def CallsX (W : World) (v : Value) (cs : List Cl) : Prop := ∃ B gp, CallsO B gp W v cs
theorem CallsX.v {W : World} {v : Value} {cs : List Cl} (h : CallsX W v cs) : CallsV W v cs := by
  obtain ⟨_, _, h⟩ := h
  exact h.v
theorem CallsX.below {W W' : World} {v : Value} {cs : List Cl} (h : CallsX W v cs) (hB : Below W.heap.size W W') : CallsX W' v cs := by
  obtain ⟨B, gp, h⟩ := h
  exact ⟨B, gp, h.kept fun k cs t _ hk => (hB.block k (Array.getElem?_eq_some_iff.1 hk).1).trans hk⟩
/-- A store into a variable of an output leaves them. -/
theorem CallsX.set {W : World} {v : Value} {cs : List Cl} {g off : Nat} {A : Array Value} (h : CallsX W v cs) (hg : W.heap[g]? = some (Obj.cells A 37 (0, 0))) (u : Value) : CallsX (W.setCell ⟨g, off, none⟩ u) v cs := by
  obtain ⟨B, gp, h⟩ := h
  refine ⟨B, gp, h.kept fun k cs t ht hk => ?_⟩
  rw [Below.heap_setCell _ _ _ _ (fun e => ?_)]
  · exact hk
  · simp only at e
    subst e
    rw [hg] at hk
    simp only [Option.some.injEq, Obj.cells.injEq] at hk
    rcases ht with rfl | rfl
    · exact absurd hk.2.1 (by decide)
    · exact absurd hk.2.1 (by decide)
/-- What a variable of an output has, of a run's result. -/
theorem out_var {B : Nat} {W : World} {v : Value} {o : Out} (h : OutO B W v o) : ∃ (OL : List Value) (cv : Value), v = .agg OL.toArray ∧ OL = outL o.how o.val cv o.mem o.left ∧ OL.length = 68 ∧ (∀ u ∈ OL.toArray.toList, u.oneCell' = true) ∧ CallsX W cv o.calls ∧ o.mem.length = 64 := by
  obtain ⟨cv, gp, h1, h2, h3⟩ := h
  refine ⟨_, cv, h1, rfl, outL_len h3, ?_, ⟨_, _, h2⟩, h3⟩
  obtain ⟨ao, cap, rfl⟩ := h2.v.slice
  simpa using outL_one (how := o.how) (val := o.val) (mem := o.mem) (left := o.left) (cv := .slice ao o.calls.length cap) rfl

end Go.Proofs.Ytepmbkiojpffpaa
set_option maxRecDepth 100000
namespace Go.Proofs.Ytepmbkiojpffpaa
open Go.ChangeShapes Go.WideShapes Go.ChangeAt Go.RowKit Go.Deep Ir
section
variable {H : Type} {enc : TypeId × Value → H} {W : World} {base : Nat} {v : Value} {d : DataW H} {p : List MemPlace}
theorem nums_of {fuel : Nat} {x : DataW H × List MemPlace} (h : DataW.trod enc Try.prog W 0 (fun _ => true) true fuel 25 [v] = some x) : ∃ xs, IntsV W v xs := by
  refine sl_of Try.underlying25 (by kernel_rfl) (by decide) ?_ h
  intro fuel cs x b off h hl hc
  obtain ⟨n, rfl, _⟩ := int_of Try.underlying2 h
  exact ⟨n, show W.cell? _ = _ by simpa using hc 0 (by omega)⟩
theorem inp_in (o : Value.okWide Try.prog W .any base 27 v) (k : DataW.Trod enc Try.prog W 0 (fun _ => true) true 27 v d p) : ∃ I, InpV W v I := by
  obtain ⟨v0, v1, v2, v3, y0, y1, y2, y3, m, rfl, _, _, h0, h1, h2, h3⟩ := Go.Joins.open_agg4 Try.underlying27 (by kernel_rfl) (by kernel_rfl) o k
  obtain ⟨xs, hx⟩ := nums_of h0
  obtain ⟨ys, hy⟩ := nums_of h1
  obtain ⟨zs, hz⟩ := nums_of h2
  obtain ⟨n3, e3, _⟩ := int_of Try.underlying3 h3
  simp at e3
  exact ⟨⟨xs, ys, zs, n3⟩, v0, v1, v2, by rw [e3], hx, hy, hz⟩
theorem nums_in (o : Value.okWide Try.prog W .any base 25 v) (k : DataW.Trod enc Try.prog W 0 (fun _ => true) true 25 v d p) : ∃ xs, IntsV W v xs := by
  obtain ⟨fuel, hf⟩ := k
  obtain ⟨ao, n, c, rfl⟩ := okWide_slice Try.underlying25 o
  exact nums_of (by simpa [Value.cells] using hf)
end
end Go.Proofs.Ytepmbkiojpffpaa
