/- The document's Play in memory: its output, its places. -/
import Derived.Test.YtepmbkiojpffpaaDo
import Derived.Test.YtepmbkiojpffpaaPg
namespace Go.Proofs.Ytepmbkiojpffpaa
open Go.RowKit Ir

theorem splice_snoc (xs ys : List Int) (f j : Nat) (hj : j < ys.length) (hf : f + ys.length ≤ xs.length) : (splice xs f (ys.take j)).set (f + j) (ys.getD j 0) = splice xs f (ys.take (j + 1)) := by
  have e1 : ys.take (j + 1) = ys.take j ++ [ys.getD j 0] := by rw [List.take_add_one]; simp [List.getElem?_eq_getElem hj]
  have hlt : f + j < xs.length := by omega
  have hl : (ys.take j).length = j := by simp; omega
  have hl2 : (ys.take j ++ [ys.getD j 0]).length = j + 1 := by simp; omega
  unfold splice
  rw [e1, hl, hl2, List.drop_eq_getElem_cons hlt, show f + (j + 1) = f + j + 1 by omega, ← List.append_assoc, ← List.append_assoc]
  have ht : (xs.take f ++ ys.take j).length = f + j := by simp; omega
  rw [List.set_append_right _ _ (by rw [ht]; omega), ht, Nat.sub_self, List.set_cons_zero]
  simp
theorem splice_nil (xs : List Int) (f : Nat) : splice xs f [] = xs := by simp [splice]
theorem laidL_fit (n f : Nat) (args : List Int) (h : f + args.length ≤ n) : laidL n (f : Int) args = splice (List.replicate n 0) f args := by
  unfold laidL
  split
  · rw [Int.toNat_natCast, List.take_of_length_le (by omega)]
  · have : args = [] := List.eq_nil_of_length_eq_zero (by omega)
    subst this
    rw [splice_nil]

/-- A change that leaves all but the output at go, the places at gp, and rows of calls. -/
structure Mp (B go gp : Nat) (w w' : World) : Prop where
  below : Below B w w'
  keeps : Keeps (fun t => t != 37 && t != 75 && t != 2) w w'
  nums : ∀ (k : Nat) (cs : Array Value), k ≠ gp → w.heap[k]? = some (Obj.cells cs 2 (0, 0)) → w'.heap[k]? = some (Obj.cells cs 2 (0, 0))
  outs : ∀ (k : Nat) (cs : Array Value), k ≠ go → w.heap[k]? = some (Obj.cells cs 37 (0, 0)) → w'.heap[k]? = some (Obj.cells cs 37 (0, 0))
theorem Mp.refl (B go gp : Nat) (w : World) : Mp B go gp w w := ⟨Below.refl _ _, Keeps.refl _ _, fun _ _ _ h => h, fun _ _ _ h => h⟩
theorem Mp.trans {B go gp : Nat} {w w1 w2 : World} (h1 : Mp B go gp w w1) (h2 : Mp B go gp w1 w2) : Mp B go gp w w2 := ⟨h1.below.trans h2.below, h1.keeps.trans h2.keeps, fun k cs hk h => h2.nums k cs hk (h1.nums k cs hk h), fun k cs hk h => h2.outs k cs hk (h1.outs k cs hk h)⟩
theorem Mp.of {B go gp : Nat} {w w' : World} (h : Below w.heap.size w w') (hB : B ≤ w.heap.size) : Mp B go gp w w' :=
  ⟨h.mono hB, Keeps.below h, fun k cs _ h0 => by rw [h.block k (Array.getElem?_eq_some_iff.1 h0).1]; exact h0, fun k cs _ h0 => by rw [h.block k (Array.getElem?_eq_some_iff.1 h0).1]; exact h0⟩
theorem Mp.set37 {B go gp : Nat} {w : World} {off : Nat} {cs : Array Value} (h0 : w.heap[go]? = some (Obj.cells cs 37 (0, 0))) (hB : B ≤ go) (u : Value) : Mp B go gp w (w.setCell ⟨go, off, none⟩ u) := by
  refine ⟨(Below.refl _ _).setCell hB u, Keeps.set h0 rfl u, fun k cs' _ h => ?_, fun k cs' hk h => ?_⟩
  · rw [Below.heap_setCell _ _ _ _ (fun e => ?_)]
    · exact h
    · simp only at e
      subst e
      rw [h0] at h
      simp at h
  · rw [Below.heap_setCell _ _ _ _ hk]
    exact h
theorem Mp.set2 {B go gp : Nat} {w : World} {off : Nat} {cs : Array Value} (h0 : w.heap[gp]? = some (Obj.cells cs 2 (0, 0))) (hB : B ≤ gp) (u : Value) : Mp B go gp w (w.setCell ⟨gp, off, none⟩ u) := by
  refine ⟨(Below.refl _ _).setCell hB u, Keeps.set h0 rfl u, fun k cs' hk h => ?_, fun k cs' _ h => ?_⟩
  · rw [Below.heap_setCell _ _ _ _ hk]
    exact h
  · rw [Below.heap_setCell _ _ _ _ (fun e => ?_)]
    · exact h
    · simp only at e
      subst e
      rw [h0] at h
      simp at h
theorem CallsO.kept2 {B gp : Nat} {w w' : World} {v : Value} {cs : List Cl} (h : CallsO B gp w v cs) (hn : ∀ (k : Nat) (cs : Array Value), k ≠ gp → w.heap[k]? = some (Obj.cells cs 2 (0, 0)) → w'.heap[k]? = some (Obj.cells cs 2 (0, 0))) (hk : ∀ (k : Nat) (cs : Array Value), w.heap[k]? = some (Obj.cells cs 75 (0, 0)) → w'.heap[k]? = some (Obj.cells cs 75 (0, 0))) : CallsO B gp w' v cs := by
  obtain ⟨ps, h1, h2, h3⟩ := h
  refine ⟨ps, h1, ⟨h2.1, ?_⟩, fun p hp => ⟨(h3 p hp).1.kept fun k e => ?_, (h3 p hp).2⟩⟩
  · rcases h2.2 with h | ⟨g, cap, cur, hv, hb, hg, r⟩
    · exact .inl h
    · exact .inr ⟨g, cap, cur, hv, hb, hk g cur hg, r⟩
  · obtain ⟨_, _, cs, hc⟩ := (h3 p hp).1.own k e
    rw [hc]
    exact hn k cs (fun h => (h3 p hp).2 (by rw [e, h])) hc

/-- A run of the document's: its output at block go, its places at block gp. -/
structure PlayAt (B go gp : Nat) (w : World) (how val : Int) (s : St) (cv : Value) : Prop where
  row : w.heap[go]? = some (Obj.cells (outL how val cv s.mem s.left).toArray 37 (0, 0))
  calls : CallsO B gp w cv s.calls
  mem : s.mem.length = 64
  places : w.heap[gp]? = some (Obj.cells (nums s.p).toArray 2 (0, 0))
  hg : B ≤ go
  hp : B ≤ gp
  small : s.p.length ≤ 1000000
section
variable {B go gp : Nat} {w w' : World} {how val : Int} {s : St} {cv : Value}
theorem PlayAt.size (h : PlayAt B go gp w how val s cv) : B ≤ w.heap.size ∧ go < w.heap.size ∧ gp < w.heap.size := by
  have h1 := (Array.getElem?_eq_some_iff.1 h.row).1
  have h2 := (Array.getElem?_eq_some_iff.1 h.places).1
  have := h.hg
  exact ⟨by omega, h1, h2⟩
theorem PlayAt.ne (h : PlayAt B go gp w how val s cv) : go ≠ gp := by
  intro e
  have := h.places
  rw [← e, h.row] at this
  simp at this
theorem PlayAt.cell (h : PlayAt B go gp w how val s cv) {j : Nat} {u : Value} (hj : (outL how val cv s.mem s.left)[j]? = some u) : w.cell? ⟨go, j, none⟩ = some u := by
  rw [cell_of_row _ _ _ _ _ _ h.row]
  simpa using hj
theorem PlayAt.c0 (h : PlayAt B go gp w how val s cv) : w.cell? ⟨go, 0, none⟩ = some (.int .i64 how) := h.cell rfl
theorem PlayAt.c1 (h : PlayAt B go gp w how val s cv) : w.cell? ⟨go, 1, none⟩ = some (.int .i64 val) := h.cell rfl
theorem PlayAt.c2 (h : PlayAt B go gp w how val s cv) : w.cell? ⟨go, 2, none⟩ = some cv := h.cell rfl
theorem PlayAt.cm (h : PlayAt B go gp w how val s cv) {j : Nat} (hj : j < 64) : w.cell? ⟨go, 3 + j, none⟩ = some (.int .i64 (s.mem.getD j 0)) := h.cell (outL_mem (by rw [h.mem]; exact hj))
theorem PlayAt.c67 (h : PlayAt B go gp w how val s cv) : w.cell? ⟨go, 67, none⟩ = some (.int .i64 s.left) := h.cell (outL_left h.mem)
theorem PlayAt.fr (h : PlayAt B go gp w how val s cv) (j : Nat) : w.frozen? ⟨go, j, none⟩ = false := frozen_of_row _ _ _ _ _ h.row
theorem PlayAt.pc (h : PlayAt B go gp w how val s cv) {j : Nat} (hj : j < s.p.length) : w.cell? ⟨gp, j, none⟩ = some (.int .i64 (s.p.getD j 0)) := by
  rw [cell_of_row _ _ _ _ _ _ h.places]
  simpa using nums_get hj
theorem PlayAt.pp (h : PlayAt B go gp w how val s cv) {j : Nat} {x : Int} (hj : j < s.p.length) (hx : pg s.p (j : Int) = x) : w.cell? ⟨gp, j, none⟩ = some (.int .i64 x) := by
  rw [h.pc hj, ← hx]
  rfl
theorem PlayAt.pf (h : PlayAt B go gp w how val s cv) (j : Nat) : w.frozen? ⟨gp, j, none⟩ = false := frozen_of_row _ _ _ _ _ h.places
/-- What is changed of the output. -/
theorem PlayAt.put (h : PlayAt B go gp w how val s cv) {j : Nat} {u : Value} {how' val' : Int} {mem' : List Int} {left' : Nat} (hm : mem'.length = 64)
    (hr : (outL how val cv s.mem s.left).set j u = outL how' val' cv mem' left') :
    PlayAt B go gp (w.setCell ⟨go, j, none⟩ u) how' val' { s with mem := mem', left := left' } cv ∧ Mp B go gp w (w.setCell ⟨go, j, none⟩ u) := by
  have hmv : Mp B go gp w (w.setCell ⟨go, j, none⟩ u) := Mp.set37 h.row h.hg u
  refine ⟨⟨?_, ?_, hm, ?_, h.hg, h.hp, h.small⟩, hmv⟩
  · rw [heap_setCell_same w go j _ _ u h.row]
    simp [hr]
  · refine h.calls.kept2 hmv.nums fun k cs hk => ?_
    rw [Below.heap_setCell _ _ _ _ (fun e => ?_)]
    · exact hk
    · simp only at e
      subst e
      rw [h.row] at hk
      simp at hk
  · rw [Below.heap_setCell _ _ _ _ (fun e => h.ne e.symm)]
    exact h.places
/-- A place is given something. -/
theorem PlayAt.place (h : PlayAt B go gp w how val s cv) (j : Nat) (x : Int) :
    PlayAt B go gp (w.setCell ⟨gp, j, none⟩ (.int .i64 x)) how val { s with p := s.p.set j x } cv ∧ Mp B go gp w (w.setCell ⟨gp, j, none⟩ (.int .i64 x)) := by
  have hmv : Mp B go gp w (w.setCell ⟨gp, j, none⟩ (.int .i64 x)) := Mp.set2 h.places h.hp _
  refine ⟨⟨?_, ?_, h.mem, ?_, h.hg, h.hp, by simpa using h.small⟩, hmv⟩
  · rw [Below.heap_setCell _ _ _ _ (fun e => h.ne e)]
    exact h.row
  · refine h.calls.kept2 hmv.nums fun k cs hk => ?_
    rw [Below.heap_setCell _ _ _ _ (fun e => ?_)]
    · exact hk
    · simp only at e
      subst e
      rw [h.places] at hk
      simp at hk
  · rw [heap_setCell_same w gp j _ _ _ h.places]
    simp [nums_set]
/-- A change that leaves all there was. -/
theorem PlayAt.of (h : PlayAt B go gp w how val s cv) (hw : Below w.heap.size w w') : PlayAt B go gp w' how val s cv := by
  have hmv : Mp B go gp w w' := Mp.of hw h.size.1
  refine ⟨?_, ?_, h.mem, ?_, h.hg, h.hp, h.small⟩
  · rw [hw.block go h.size.2.1]
    exact h.row
  · refine h.calls.kept2 hmv.nums fun k cs hk => ?_
    rw [hw.block k (Array.getElem?_eq_some_iff.1 hk).1]
    exact hk
  · rw [hw.block gp h.size.2.2]
    exact h.places
/-- Other answers: nothing in memory says them. -/
theorem PlayAt.ans (h : PlayAt B go gp w how val s cv) (xs : List Int) : PlayAt B go gp w how val { s with ans := xs } cv := ⟨h.row, h.calls, h.mem, h.places, h.hg, h.hp, h.small⟩
end
/-- One call more. -/
theorem PlayAt.called {B go gp : Nat} {w W1 W2 : World} {s : St} {cv : Value} {c : Cl} {ua : Option Addr} {un uc vn vc : Nat} {va : Option Addr} {ps : List (Cl × Value)} {Bu : Nat} (h : PlayAt B go gp w 0 0 s cv) (hB1 : Below w.heap.size w W1)
    (h1 : ps.map (·.1) = s.calls) (h3 : ∀ p ∈ ps, NumsO B w p.2 p.1.args ∧ p.2.ownBlock ≠ some gp) (hcv : W1.ownsRow B 75 2 cv ps.length (cellsC ps)) (hO : W2.ownsRow B 75 2 (.slice va vn vc) (ps.length + 1) (cellsC ps ++ [.int .i64 c.n, .slice ua un uc])) (hg : W1.grownBy W2 cv.ownBlock)
    (hu : NumsO Bu W1 (.slice ua un uc) c.args) (hBu : gp < Bu) (hBB : B ≤ Bu) :
    (PlayAt B go gp (W2.setCell ⟨go, 2, none⟩ (.slice va vn vc)) 0 0 { s with calls := s.calls ++ [c] } (.slice va vn vc) ∧ Mp B go gp w (W2.setCell ⟨go, 2, none⟩ (.slice va vn vc))) ∧ W2.cell? ⟨go, 2, none⟩ = some cv ∧ W2.frozen? ⟨go, 2, none⟩ = false := by
  have hR1 := h.of hB1
  have hcb : ∀ k, cv.ownBlock = some k → B ≤ k ∧ ∃ cs, W1.heap[k]? = some (Obj.cells cs 75 (0, 0)) := by
    intro k e
    refine ⟨(hcv.lt k e).1, ?_⟩
    rcases hcv.2 with ⟨rfl, _⟩ | ⟨k', cap, cur, rfl, _, hkk, _⟩
    · simp [Value.ownBlock] at e
    · simp [Value.ownBlock] at e
      subst e
      exact ⟨_, hkk⟩
  have hne : ∀ (k : Nat) (cs : Array Value) (t : TypeId), t ≠ 75 → W1.heap[k]? = some (Obj.cells cs t (0, 0)) → W2.heap[k]? = some (Obj.cells cs t (0, 0)) := by
    intro k cs t ht hk
    rw [hg.block k (Array.getElem?_eq_some_iff.1 hk).1 (fun e => ?_)]
    · exact hk
    · obtain ⟨_, cs', hk'⟩ := hcb k e.symm
      rw [hk] at hk'
      simp only [Option.some.injEq, Obj.cells.injEq] at hk'
      exact ht hk'.2.1
  have hm2 : Mp B go gp W1 W2 := by
    refine ⟨(Below.refl _ _).grown hg hR1.size.1 fun k e => (hcb k e).1, Keeps.grown hcv rfl hg, fun k cs _ hk => hne k cs 2 (by decide) hk, fun k cs _ hk => hne k cs 37 (by decide) hk⟩
  have hrow : W2.heap[go]? = _ := hne go _ 37 (by decide) hR1.row
  have hpl : W2.heap[gp]? = _ := hne gp _ 2 (by decide) hR1.places
  have hub : (Value.slice ua un uc).ownBlock ≠ some gp := fun e => by
    have := (hu.own gp e).1
    omega
  have hm1 : Mp B go gp w W1 := Mp.of hB1 h.size.1
  have hC : CallsO B gp W2 (.slice va vn vc) (s.calls ++ [c]) := by
    refine ⟨ps ++ [(c, .slice ua un uc)], by simp [h1], ?_, fun p hp => ?_⟩
    · rw [cellsC_snoc, List.length_append]
      exact hO
    · rcases List.mem_append.1 hp with hp | hp
      · refine ⟨(h3 p hp).1.kept fun k e => ?_, (h3 p hp).2⟩
        obtain ⟨_, _, cs, hc⟩ := (h3 p hp).1.own k e
        rw [hc]
        exact (hm1.trans hm2).nums k cs (fun h => (h3 p hp).2 (by rw [e, h])) hc
      · simp at hp
        subst hp
        refine ⟨owns_mono (hu.kept fun k e => ?_) hBB, hub⟩
        obtain ⟨_, _, cs, hc⟩ := hu.own k e
        rw [hc]
        exact hm2.nums k cs (fun h => hub (by rw [e, h])) hc
  have hmv : Mp B go gp W2 (W2.setCell ⟨go, 2, none⟩ (.slice va vn vc)) := Mp.set37 hrow h.hg _
  refine ⟨⟨⟨?_, ?_, h.mem, ?_, h.hg, h.hp, h.small⟩, (hm1.trans hm2).trans hmv⟩, by rw [cell_of_row _ _ _ _ _ _ hrow]; rfl, frozen_of_row _ _ _ _ _ hrow⟩
  · rw [heap_setCell_same W2 go 2 _ _ _ hrow]
    rfl
  · refine hC.kept2 hmv.nums fun k cs hk => ?_
    rw [Below.heap_setCell _ _ _ _ (fun e => ?_)]
    · exact hk
    · simp only at e
      subst e
      rw [hrow] at hk
      simp at hk
  · rw [Below.heap_setCell _ _ _ _ (fun e => h.ne e.symm)]
    exact hpl
/-- What is left, and how far the block has come: it falls. -/
def muP (go : Nat) (k : Value) (w : World) : Nat := 1001 * (match w.cell? ⟨go, 67, none⟩ with | some (.int _ q) => q.toNat | _ => 0) + (1000 - (intOf k).toNat)
theorem PlayAt.mu {B go gp : Nat} {w : World} {how val : Int} {s : St} {cv : Value} (h : PlayAt B go gp w how val s cv) (k : Nat) : muP go (.int .i64 (k : Int)) w = 1001 * s.left + (1000 - k) := by
  unfold muP
  rw [h.c67]
  simp [intOf]
end Go.Proofs.Ytepmbkiojpffpaa
