/- What all laws here begin with. -/
import Derived.Test.YtblcbccchlljhaaR9
import Derived.Test.YtblcbccchlljhaaJq
import Derived.Test.YtblcbccchlljhaaMade
namespace Go.Proofs.Ytblcbccchlljhaa
open Go.RowKit Ir Wy

theorem made_ok (a b c : Int) (bs : List Int) : 0 < ((made a b c bs).bs.map (·.e)).length ∧ ((made a b c bs).bs.map (·.e)).length ≤ 7 ∧ EndsIn ((made a b c bs).bs.map (·.e)) := by
  have hl := made_len a b c bs
  refine ⟨?_, ?_, ?_⟩
  · rw [List.length_map]; omega
  · rw [List.length_map]; omega
  · refine endsIn_of fun x hx y hy => ?_
    have h1 := (blkF_all (made_blocks a b c bs x hx)).2.2
    have h2 := (endF_all h1).2.2 y hy
    omega
theorem has_nat (u : Value) (f : Nat → Bool) (x : Nat) (w : World) (h : Bg.SetV u f) (hx : x < 4096) : Calls Try.prog 19 #[u, .int .i64 x] w fun e w' => e = .returned (.bool (f x)) ∧ Below w.heap.size w w' := by
  refine (Bg.has_any u x f w h).mono ?_
  rintro e w' ⟨rfl, hg⟩
  refine ⟨?_, Bg.gb_to hg⟩
  rw [Bg.isIn, Bg.inS_nat hx, Int.toNat_natCast, Bool.true_and]
theorem run_f28 (x y : Int) (ao : Option Addr) (n c : Nat) (W : World) : (Instr.field 28 (.agg #[.int .i64 x, .int .i64 y, .slice ao n c]) 2).run Try.prog W = .ok (.slice ao n c) W := by
  simp [Instr.field, run_underlying Try.underlying28, go_sem, asAgg]
/-- A whole set is loaded, whatever guards it. -/
theorem wpList_load_set {ops : Array Oper} {rest : List Oper} {o : Oper} {a : Act} {w : World} {Q : Exit → Act → World → Prop} (hw : Region.wanted o (yielded ops a.tmps) = true) (x : Operand) (ho : o.op = .load 40 x) (g : Nat) (hx : a.eval x = .pointer (some ⟨g, 0, none⟩)) (cs : Array Value) (hg : w.heap[g]? = some (.cells cs 40 (0, 0))) (hs : cs.size = 64)
    (hK : wpList Try.prog ops Q rest (a.put o.dst (.agg cs)) w) : wpList Try.prog ops Q (o :: rest) a w := by
  refine wpList_step fun K hK' => ?_
  rw [if_pos hw]
  have hc : w.rangeAt g 0 cs.toList := fun j v hv => by
    rw [Nat.zero_add, cell_of_row w g j cs 40 _ hg]
    simpa using hv
  have hr := run_loadVar_mid (P := Try.prog) w g 0 40 cs.toList _ hc Try.underlying40 rfl (by rw [Array.length_toList, hs]; exact Bg.info27)
  rw [Array.toArray_toList] at hr
  have h : (execOp a.eval o).run Try.prog w = .ok (.value (.agg cs)) w := by
    unfold execOp
    simp only [ho, hx, Instr.loadAt, Instr.sureAddr, Sem.run_bind, Sem.run_pure, Result.andThen_ok, hr]
  unfold Oper.wp
  rw [h]
  exact hK' _ _ hK
theorem wpList_load_setN {ops : Array Oper} {rest : List Oper} {o : Oper} {a : Act} {w : World} {Q : Exit → Act → World → Prop} (hg0 : o.guard = none) (x : Operand) (ho : o.op = .load 40 x) (g : Nat) (hx : a.eval x = .pointer (some ⟨g, 0, none⟩)) (cs : Array Value) (hg : w.heap[g]? = some (.cells cs 40 (0, 0))) (hs : cs.size = 64)
    (hK : wpList Try.prog ops Q rest (a.put o.dst (.agg cs)) w) : wpList Try.prog ops Q (o :: rest) a w := wpList_load_set (by simp [Region.wanted, hg0]) x ho g hx cs hg hs hK
theorem mem_take (l : List Int) (j : Nat) (h : j < l.length) (x : Int) : decide (x ∈ l.take (j + 1)) = (decide (x ∈ l.take j) || (l.getD j 0 == x)) := by
  have e : l.take (j + 1) = l.take j ++ [l.getD j 0] := by rw [getD_get _ _ _ h, List.take_succ_eq_append_getElem h]
  rw [e, Bool.eq_iff_iff]
  simp only [decide_eq_true_eq, List.mem_append, List.mem_singleton, Bool.or_eq_true, beq_iff_eq]
  constructor
  · rintro (q | q)
    · exact .inl q
    · exact .inr q.symm
  · rintro (q | q)
    · exact .inl q
    · exact .inr q.symm
/-- A set's box. -/
def SetB (w : World) (g : Nat) (f : Nat → Bool) : Prop := ∃ cs, w.heap[g]? = some (.cells cs 40 (0, 0)) ∧ Bg.SetC cs f
theorem SetB.below {w w' : World} {g : Nat} {f : Nat → Bool} (h : SetB w g f) (hB : Below w.heap.size w w') : SetB w' g f := by
  obtain ⟨cs, h1, h2⟩ := h
  exact ⟨cs, (hB.block g (Array.getElem?_eq_some_iff.1 h1).1).trans h1, h2⟩
/-- Truths as they came in. -/
def BlAt (w : World) (b off : Nat) (x : Bool) : Prop := w.cell? ⟨b, off, none⟩ = some (.bool x)
def BlsV (w : World) (v : Value) (xs : List Bool) : Prop := SlV 1 BlAt false w v xs
theorem BlsV.below {w w' : World} {v : Value} {xs : List Bool} (h : BlsV w v xs) (hB : Below w.heap.size w w') : BlsV w' v xs := SlV.mono h fun _ _ _ h => cell_below hB h
theorem BlsV.at {w : World} {ao : Option Addr} {n c : Nat} {xs : List Bool} (h : BlsV w (.slice ao n c) xs) (j : Nat) (hj : j < xs.length) : ∃ b off, ao = some ⟨b, off, none⟩ ∧ w.cell? ⟨b, off + j, none⟩ = some (.bool (xs.getD j false)) := by
  obtain ⟨b, off, e, h⟩ := SlV.at h j hj
  rw [Nat.mul_one] at h
  exact ⟨b, off, e, h⟩
theorem rows_len (es : List En) : ((List.range es.length).map fun b => ci (ahd (nxE es) es.length b)).length = es.length := by simp
theorem rows_at (es : List En) {b : Nat} (h : b < es.length) : ((List.range es.length).map fun b => ci (ahd (nxE es) es.length b)).getD b [] = ci (ahd (nxE es) es.length b) := by simp [h]
theorem ci_mem (l : List Nat) (x : Nat) : (x : Int) ∈ ci l ↔ x ∈ l := by
  constructor
  · intro h
    obtain ⟨y, hy, e⟩ := List.mem_map.1 h
    have : y = x := by omega
    rw [← this]
    exact hy
  · intro h
    exact List.mem_map.2 ⟨x, h, rfl⟩
end Go.Proofs.Ytblcbccchlljhaa
