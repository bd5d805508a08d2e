/- A run in memory: what it has, cell by cell; numbers and calls of the call's own. -/
import Derived.Test.YtepmbkiojpffpaaIr
import Derived.Test.YtepmbkiojpffpaaMem
namespace Go.Proofs.Ytepmbkiojpffpaa
open Go.RowKit Ir

def nums (xs : List Int) : List Value := xs.map (Value.int .i64)
theorem nums_len (xs : List Int) : (nums xs).length = xs.length := by simp [nums]
theorem nums_set (xs : List Int) (j : Nat) (x : Int) : (nums xs).set j (.int .i64 x) = nums (xs.set j x) := by simp [nums, List.map_set]
theorem nums_get {xs : List Int} {j : Nat} (h : j < xs.length) : (nums xs)[j]? = some (.int .i64 (xs.getD j 0)) := by simp [nums, h]

/-- Numbers of the call's own. -/
def NumsO (B : Nat) (w : World) (v : Value) (xs : List Int) : Prop := w.ownsRow B 2 1 v xs.length (nums xs)
theorem NumsO.nil (B : Nat) (w : World) : NumsO B w (.slice none 0 0) [] := World.ownsRow_nil _ _ _ _
theorem NumsO.v {B : Nat} {w : World} {v : Value} {xs : List Int} (h : NumsO B w v xs) : IntsV w v xs := by
  rcases h.2 with ⟨rfl, h0⟩ | ⟨g, cap, cur, rfl, _, hg, hnc, hcm, _, _⟩
  · have : xs = [] := List.eq_nil_of_length_eq_zero h0
    subst this
    exact SlV.nil
  · refine ⟨_, cap, rfl, hnc, hcm, fun e => by simp at e, fun _ => ⟨g, 0, rfl, fun j hj => ?_⟩⟩
    have := h.cellAt j (by omega)
    show w.cell? _ = _
    rw [Nat.zero_add, Nat.mul_one, this, nums_get hj]
/-- A change that leaves the row. -/
theorem NumsO.kept {B : Nat} {w w' : World} {v : Value} {xs : List Int} (h : NumsO B w v xs) (hk : ∀ k, v.ownBlock = some k → w'.heap[k]? = w.heap[k]?) : NumsO B w' v xs := by
  refine ⟨h.1, ?_⟩
  rcases h.2 with h | ⟨g, cap, cur, hv, hb, hg, r⟩
  · exact .inl h
  · refine .inr ⟨g, cap, cur, hv, hb, ?_, r⟩
    rw [hk g (by rw [hv]; rfl)]
    exact hg
theorem NumsO.own {B : Nat} {w : World} {v : Value} {xs : List Int} (h : NumsO B w v xs) : ∀ k, v.ownBlock = some k → B ≤ k ∧ k < w.heap.size ∧ ∃ cs, w.heap[k]? = some (Obj.cells cs 2 (0, 0)) := by
  intro k e
  rcases h.2 with ⟨rfl, _⟩ | ⟨g, cap, cur, rfl, hb, hg, _⟩
  · simp [Value.ownBlock] at e
  · simp only [Value.ownBlock, Option.some.injEq] at e
    subst e
    exact ⟨hb, (Array.getElem?_eq_some_iff.1 hg).1, _, hg⟩

def cellsC (ps : List (Cl × Value)) : List Value := ps.flatMap fun p => [.int .i64 p.1.n, p.2]
theorem cellsC_len (ps : List (Cl × Value)) : (cellsC ps).length = ps.length * 2 := by
  induction ps with
  | nil => rfl
  | cons p ps ih => simp [cellsC] at *; omega
theorem cellsC_get : ∀ (ps : List (Cl × Value)) (j : Nat) (p : Cl × Value), ps[j]? = some p → (cellsC ps)[j * 2]? = some (.int .i64 p.1.n) ∧ (cellsC ps)[j * 2 + 1]? = some p.2
  | [], j, p, h => by simp at h
  | q :: ps, 0, p, h => by
    simp at h
    subst h
    simp [cellsC]
  | q :: ps, j + 1, p, h => by
    have := cellsC_get ps j p (by simpa using h)
    simpa [cellsC, Nat.add_mul] using this
theorem cellsC_snoc (ps : List (Cl × Value)) (p : Cl × Value) : cellsC (ps ++ [p]) = cellsC ps ++ [.int .i64 p.1.n, p.2] := by simp [cellsC]

/-- Calls of the call's own, whose arguments lie away from block gp. -/
def CallsO (B gp : Nat) (w : World) (v : Value) (cs : List Cl) : Prop := ∃ ps : List (Cl × Value), ps.map (·.1) = cs ∧ w.ownsRow B 75 2 v ps.length (cellsC ps) ∧ ∀ p ∈ ps, NumsO B w p.2 p.1.args ∧ p.2.ownBlock ≠ some gp
theorem CallsO.nil (B gp : Nat) (w : World) : CallsO B gp w (.slice none 0 0) [] := ⟨[], rfl, World.ownsRow_nil _ _ _ _, fun p hp => by simp at hp⟩
def Cl.zero : Cl := ⟨0, []⟩
def CallAt (w : World) (b off : Nat) (c : Cl) : Prop := ∃ u, w.cell? ⟨b, off, none⟩ = some (.int .i64 c.n) ∧ w.cell? ⟨b, off + 1, none⟩ = some u ∧ IntsV w u c.args
def CallsV (w : World) (v : Value) (cs : List Cl) : Prop := SlV 2 CallAt Cl.zero w v cs
theorem CallAt.below {w w' : World} {b off : Nat} {c : Cl} (h : CallAt w b off c) (hB : Below w.heap.size w w') : CallAt w' b off c := by
  obtain ⟨u, h1, h2, h3⟩ := h
  exact ⟨u, cell_below hB h1, cell_below hB h2, h3.below hB⟩
theorem CallsV.below {w w' : World} {v : Value} {cs : List Cl} (h : CallsV w v cs) (hB : Below w.heap.size w w') : CallsV w' v cs := SlV.mono h fun _ _ _ h => h.below hB
theorem CallsV.slice {w : World} {v : Value} {cs : List Cl} (h : CallsV w v cs) : ∃ ao cap, v = .slice ao cs.length cap := SlV.slice h
theorem CallsO.v {B gp : Nat} {w : World} {v : Value} {cs : List Cl} (h : CallsO B gp w v cs) : CallsV w v cs := by
  obtain ⟨ps, rfl, h2, h3⟩ := h
  rcases h2.2 with ⟨rfl, h0⟩ | ⟨g, cap, cur, rfl, _, hg, hnc, hcm, _, _⟩
  · have : ps = [] := List.eq_nil_of_length_eq_zero h0
    subst this
    exact SlV.nil
  · refine ⟨_, cap, by rw [List.length_map], by rw [List.length_map]; exact hnc, hcm, fun e => by simp at e, fun _ => ⟨g, 0, rfl, fun j hj => ?_⟩⟩
    rw [List.length_map] at hj
    have hp : ps[j]? = some ps[j] := List.getElem?_eq_getElem hj
    obtain ⟨g0, g1⟩ := cellsC_get ps j _ hp
    have hd : (ps.map (·.1)).getD j Cl.zero = ps[j].1 := by simp [hj]
    rw [hd, Nat.zero_add]
    have hc : ∀ k u, k < 2 → (cellsC ps)[j * 2 + k]? = some u → w.cell? ⟨g, j * 2 + k, none⟩ = some u := by
      intro k u hk hu
      rw [h2.cellAt (j * 2 + k) (by omega), hu]
    exact ⟨ps[j].2, hc 0 _ (by omega) g0, hc 1 _ (by omega) g1, (h3 _ (List.getElem_mem hj)).1.v⟩
/-- A change that leaves what is of types 58, and what is of type 2 but block gp. -/
structure Mv (B gp : Nat) (w w' : World) : Prop where
  below : Below B w w'
  keeps : Keeps (fun t => t != 88 && t != 75 && t != 2) w w'
  nums : ∀ (k : Nat) (cs : Array Value), k ≠ gp → w.heap[k]? = some (Obj.cells cs 2 (0, 0)) → w'.heap[k]? = some (Obj.cells cs 2 (0, 0))
theorem Mv.refl (B gp : Nat) (w : World) : Mv B gp w w := ⟨Below.refl _ _, Keeps.refl _ _, fun _ _ _ h => h⟩
theorem Mv.trans {B gp : Nat} {w w1 w2 : World} (h1 : Mv B gp w w1) (h2 : Mv B gp w1 w2) : Mv B gp w w2 := ⟨h1.below.trans h2.below, h1.keeps.trans h2.keeps, fun k cs hk h => h2.nums k cs hk (h1.nums k cs hk h)⟩
theorem Mv.of {B gp : Nat} {w w' : World} (h : Below w.heap.size w w') (hB : B ≤ w.heap.size) : Mv B gp w w' :=
  ⟨h.mono hB, Keeps.below h, fun k cs _ h0 => by rw [h.block k (Array.getElem?_eq_some_iff.1 h0).1]; exact h0⟩
theorem Mv.numsO {B B' gp : Nat} {w w' : World} {v : Value} {xs : List Int} (hm : Mv B' gp w w') (h : NumsO B w v xs) (hv : v.ownBlock ≠ some gp) : NumsO B w' v xs := by
  refine h.kept fun k e => ?_
  obtain ⟨_, _, cs, hc⟩ := h.own k e
  rw [hc]
  exact hm.nums k cs (fun h => hv (by rw [e, h])) hc
/-- A store into the row of a type. -/
theorem Mv.set86 {B gp : Nat} {w : World} {g off : Nat} {cs : Array Value} (h0 : w.heap[g]? = some (Obj.cells cs 88 (0, 0))) (hB : B ≤ g) (u : Value) : Mv B gp w (w.setCell ⟨g, off, none⟩ u) := by
  refine ⟨(Below.refl _ _).setCell hB u, Keeps.set h0 rfl u, fun k cs' _ h => ?_⟩
  rw [Below.heap_setCell _ _ _ _ (fun e => ?_)]
  · exact h
  · simp only at e
    subst e
    rw [h0] at h
    simp at h
theorem Mv.set2 {B gp : Nat} {w : World} {off : Nat} {cs : Array Value} (h0 : w.heap[gp]? = some (Obj.cells cs 2 (0, 0))) (hB : B ≤ gp) (u : Value) : Mv B gp w (w.setCell ⟨gp, off, none⟩ u) := by
  refine ⟨(Below.refl _ _).setCell hB u, Keeps.set h0 rfl u, fun k cs' hk h => ?_⟩
  rw [Below.heap_setCell _ _ _ _ hk]
  exact h
theorem CallsO.mv {B B' gp : Nat} {w w' : World} {v : Value} {cs : List Cl} (h : CallsO B gp w v cs) (hm : Mv B' gp w w') (hk : ∀ (k : Nat) (cs : Array Value), w.heap[k]? = some (Obj.cells cs 75 (0, 0)) → w'.heap[k]? = some (Obj.cells cs 75 (0, 0))) : CallsO B gp w' v cs := by
  obtain ⟨ps, h1, h2, h3⟩ := h
  refine ⟨ps, h1, ⟨h2.1, ?_⟩, fun p hp => ⟨hm.numsO (h3 p hp).1 (h3 p hp).2, (h3 p hp).2⟩⟩
  rcases h2.2 with h | ⟨g, cap, cur, hv, hb, hg, r⟩
  · exact .inl h
  · exact .inr ⟨g, cap, cur, hv, hb, hk g cur hg, r⟩

/-- Numbers that lie below block B. -/
def NumsB (B : Nat) (w : World) (v : Value) (xs : List Int) : Prop := SlV 1 (fun w b off x => IntAt w b off x ∧ b < B) 0 w v xs
theorem NumsB.of {B : Nat} {w : World} {v : Value} {xs : List Int} (h : IntsV w v xs) (hB : w.heap.size ≤ B) : NumsB B w v xs := by
  obtain ⟨ao, cap, h1, h2, h3, h4, h5⟩ := h
  refine ⟨ao, cap, h1, h2, h3, h4, fun h0 => ?_⟩
  obtain ⟨b, off, e, hc⟩ := h5 h0
  exact ⟨b, off, e, fun j hj => ⟨hc j hj, Nat.lt_of_lt_of_le (World.block_lt_of_cell? w _ (hc j hj)) hB⟩⟩
theorem NumsB.v {B : Nat} {w : World} {v : Value} {xs : List Int} (h : NumsB B w v xs) : IntsV w v xs := by
  obtain ⟨ao, cap, h1, h2, h3, h4, h5⟩ := h
  refine ⟨ao, cap, h1, h2, h3, h4, fun h0 => ?_⟩
  obtain ⟨b, off, e, hc⟩ := h5 h0
  exact ⟨b, off, e, fun j hj => (hc j hj).1⟩
theorem NumsB.below {B : Nat} {w w' : World} {v : Value} {xs : List Int} (h : NumsB B w v xs) (hk : Below B w w') : NumsB B w' v xs :=
  SlV.mono h fun b off _ hx => ⟨(World.cell?_of_block (a := ⟨b, off, none⟩) (hk.block b hx.2)).trans hx.1, hx.2⟩
/-- 'xs[1:]'. -/
theorem NumsB.tail {B : Nat} {w : World} {ao : Option Addr} {cap : Nat} {x : Int} {xs : List Int} (h : NumsB B w (.slice ao (xs.length + 1) cap) (x :: xs)) : NumsB B w (tailV ao cap (xs.length + 1)) xs := by
  obtain ⟨ao', cap', e, h2, h3, h4, h5⟩ := h
  simp only [Value.slice.injEq, List.length_cons, true_and] at e
  obtain ⟨rfl, rfl⟩ := e
  simp only [List.length_cons] at h2
  refine ⟨_, cap - 1, rfl, by omega, by omega, ?_, fun h0 => ?_⟩
  · intro e
    split at e
    · omega
    · cases ao with
      | none => have := h4 rfl; omega
      | some a => simp at e
  · obtain ⟨b, off, rfl, hc⟩ := h5 (by simp)
    refine ⟨b, off + 1, ?_, fun j hj => ?_⟩
    · rw [if_neg (by omega), Option.map_some]
    · have := hc (j + 1) (by simp; omega)
      simpa [Nat.add_assoc, Nat.add_comm 1 j] using this
theorem run_tail64 {ao : Option Addr} {n cap : Nat} (hj : 1 ≤ n) (W : World) : (Instr.sliceAt 25 (.slice ao n cap) (some (.int .i64 1)) none none).run Try.prog W = .ok (tailV ao cap n) W := by
  have h1 : (1 : Int) ≤ (n : Int) := by omega
  go_simp
  simp [tailV]

/-! ### The run's own block -/
/-- An output's cells. -/
def outL (how val : Int) (cv : Value) (mem : List Int) (left : Int) : List Value := .int .i64 how :: .int .i64 val :: cv :: (nums mem ++ [.int .i64 left])
def rowL (how val : Int) (cv : Value) (mem : List Int) (left r : Int) (pv av : Value) : List Value := outL how val cv mem left ++ [.int .i64 r, pv, av]
theorem outL_len {how val : Int} {cv : Value} {mem : List Int} {left : Int} (h : mem.length = 64) : (outL how val cv mem left).length = 68 := by simp [outL, nums_len, h]
theorem rowL_len {how val : Int} {cv : Value} {mem : List Int} {left r : Int} {pv av : Value} (h : mem.length = 64) : (rowL how val cv mem left r pv av).length = 71 := by simp [rowL, outL_len h]
theorem outL_mem {how val : Int} {cv : Value} {mem : List Int} {left : Int} {j : Nat} (h : j < mem.length) : (outL how val cv mem left)[3 + j]? = some (.int .i64 (mem.getD j 0)) := by
  rw [outL, Nat.add_comm 3 j]
  simp only [List.getElem?_cons_succ]
  rw [List.getElem?_append_left (by rw [nums_len]; exact h), nums_get h]
theorem outL_left {how val : Int} {cv : Value} {mem : List Int} {left : Int} (h : mem.length = 64) : (outL how val cv mem left)[67]? = some (.int .i64 left) := by
  rw [outL]
  simp only [List.getElem?_cons_succ]
  rw [List.getElem?_append_right (by rw [nums_len, h]; omega), nums_len, h]
  rfl
theorem rowL_mem {how val : Int} {cv : Value} {mem : List Int} {left r : Int} {pv av : Value} {j : Nat} (h : mem.length = 64) (hj : j < 64) : (rowL how val cv mem left r pv av)[3 + j]? = some (.int .i64 (mem.getD j 0)) := by
  rw [rowL, List.getElem?_append_left (by rw [outL_len h]; omega), outL_mem (by omega)]
theorem rowL_end {how val : Int} {cv : Value} {mem : List Int} {left r : Int} {pv av : Value} (h : mem.length = 64) : (rowL how val cv mem left r pv av)[67]? = some (.int .i64 left) ∧ (rowL how val cv mem left r pv av)[68]? = some (.int .i64 r) ∧ (rowL how val cv mem left r pv av)[69]? = some pv ∧ (rowL how val cv mem left r pv av)[70]? = some av := by
  refine ⟨?_, ?_, ?_, ?_⟩
  · rw [rowL, List.getElem?_append_left (by rw [outL_len h]; omega), outL_left h]
  all_goals
    rw [rowL, List.getElem?_append_right (by rw [outL_len h]; omega), outL_len h]
    rfl
theorem outL_set_mem {how val : Int} {cv : Value} {mem : List Int} {left : Int} {j : Nat} (hj : j < mem.length) (x : Int) : (outL how val cv mem left).set (3 + j) (.int .i64 x) = outL how val cv (mem.set j x) left := by
  rw [outL, Nat.add_comm 3 j, outL]
  simp only [List.set_cons_succ]
  rw [List.set_append_left _ _ (by rw [nums_len]; exact hj), nums_set]
theorem outL_set_left {how val : Int} {cv : Value} {mem : List Int} {left : Int} (h : mem.length = 64) (x : Int) : (outL how val cv mem left).set 67 (.int .i64 x) = outL how val cv mem x := by
  rw [outL, outL]
  simp only [List.set_cons_succ]
  rw [List.set_append_right _ _ (by rw [nums_len, h]; omega), nums_len, h]
  rfl
theorem rowL_set_mem {how val : Int} {cv : Value} {mem : List Int} {left r : Int} {pv av : Value} {j : Nat} (h : mem.length = 64) (hj : j < 64) (x : Int) : (rowL how val cv mem left r pv av).set (3 + j) (.int .i64 x) = rowL how val cv (mem.set j x) left r pv av := by
  rw [rowL, rowL, List.set_append_left _ _ (by rw [outL_len h]; omega), outL_set_mem (by omega)]
theorem rowL_set_left {how val : Int} {cv : Value} {mem : List Int} {left r : Int} {pv av : Value} (h : mem.length = 64) (x : Int) : (rowL how val cv mem left r pv av).set 67 (.int .i64 x) = rowL how val cv mem x r pv av := by
  rw [rowL, rowL, List.set_append_left _ _ (by rw [outL_len h]; omega), outL_set_left h]
theorem rowL_set_pv {how val : Int} {cv : Value} {mem : List Int} {left r : Int} {pv av : Value} (h : mem.length = 64) (x : Value) : (rowL how val cv mem left r pv av).set 69 x = rowL how val cv mem left r x av := by
  rw [rowL, rowL, List.set_append_right _ _ (by rw [outL_len h]; omega), outL_len h]
  rfl
theorem rowL_set_av {how val : Int} {cv : Value} {mem : List Int} {left r : Int} {pv av : Value} (h : mem.length = 64) (x : Value) : (rowL how val cv mem left r pv av).set 70 x = rowL how val cv mem left r pv x := by
  rw [rowL, rowL, List.set_append_right _ _ (by rw [outL_len h]; omega), outL_len h]
  rfl
theorem rowL_set0 {how val : Int} {cv : Value} {mem : List Int} {left r : Int} {pv av : Value} (x : Int) : (rowL how val cv mem left r pv av).set 0 (.int .i64 x) = rowL x val cv mem left r pv av := rfl
theorem rowL_set1 {how val : Int} {cv : Value} {mem : List Int} {left r : Int} {pv av : Value} (x : Int) : (rowL how val cv mem left r pv av).set 1 (.int .i64 x) = rowL how x cv mem left r pv av := rfl
theorem rowL_set2 {how val : Int} {cv : Value} {mem : List Int} {left r : Int} {pv av : Value} (x : Value) : (rowL how val cv mem left r pv av).set 2 x = rowL how val x mem left r pv av := rfl

/-- A run at block g, its places at block gp: its state is s, it ended as how says (0: it is under way) with val. -/
structure RunAt (B g gp : Nat) (r : Int) (w : World) (how val : Int) (s : St) (cv av : Value) : Prop where
  row : w.heap[g]? = some (Obj.cells (rowL how val cv s.mem s.left r (.slice (some ⟨gp, 0, none⟩) s.p.length s.p.length) av).toArray 88 (0, 0))
  calls : CallsO B gp w cv s.calls
  ans : NumsB B w av s.ans
  mem : s.mem.length = 64
  places : w.heap[gp]? = some (Obj.cells (nums s.p).toArray 2 (0, 0))
  hg : B ≤ g
  hp : B ≤ gp
  small : s.p.length ≤ 1000000
section
variable {B g gp : Nat} {r : Int} {w w' : World} {how val : Int} {s : St} {cv av : Value}
theorem RunAt.size (h : RunAt B g gp r w how val s cv av) : B ≤ w.heap.size ∧ g < w.heap.size ∧ gp < w.heap.size := by
  have h1 := (Array.getElem?_eq_some_iff.1 h.row).1
  have h2 := (Array.getElem?_eq_some_iff.1 h.places).1
  have := h.hg
  exact ⟨by omega, h1, h2⟩
theorem RunAt.cell (h : RunAt B g gp r w how val s cv av) {j : Nat} {u : Value} (hj : (rowL how val cv s.mem s.left r (.slice (some ⟨gp, 0, none⟩) s.p.length s.p.length) av)[j]? = some u) : w.cell? ⟨g, j, none⟩ = some u := by
  rw [cell_of_row _ _ _ _ _ _ h.row]
  simpa using hj
theorem RunAt.c0 (h : RunAt B g gp r w how val s cv av) : w.cell? ⟨g, 0, none⟩ = some (.int .i64 how) := h.cell rfl
theorem RunAt.c1 (h : RunAt B g gp r w how val s cv av) : w.cell? ⟨g, 1, none⟩ = some (.int .i64 val) := h.cell rfl
theorem RunAt.c2 (h : RunAt B g gp r w how val s cv av) : w.cell? ⟨g, 2, none⟩ = some cv := h.cell rfl
theorem RunAt.cm (h : RunAt B g gp r w how val s cv av) {j : Nat} (hj : j < 64) : w.cell? ⟨g, 3 + j, none⟩ = some (.int .i64 (s.mem.getD j 0)) := h.cell (rowL_mem h.mem hj)
theorem RunAt.c67 (h : RunAt B g gp r w how val s cv av) : w.cell? ⟨g, 67, none⟩ = some (.int .i64 s.left) := h.cell (rowL_end h.mem).1
theorem RunAt.c68 (h : RunAt B g gp r w how val s cv av) : w.cell? ⟨g, 68, none⟩ = some (.int .i64 r) := h.cell (rowL_end h.mem).2.1
theorem RunAt.c69 (h : RunAt B g gp r w how val s cv av) : w.cell? ⟨g, 69, none⟩ = some (.slice (some ⟨gp, 0, none⟩) s.p.length s.p.length) := h.cell (rowL_end h.mem).2.2.1
theorem RunAt.c70 (h : RunAt B g gp r w how val s cv av) : w.cell? ⟨g, 70, none⟩ = some av := h.cell (rowL_end h.mem).2.2.2
theorem RunAt.fr (h : RunAt B g gp r w how val s cv av) (j : Nat) : w.frozen? ⟨g, j, none⟩ = false := frozen_of_row _ _ _ _ _ h.row
theorem RunAt.pc (h : RunAt B g gp r w how val s cv av) {j : Nat} (hj : j < s.p.length) : w.cell? ⟨gp, j, none⟩ = some (.int .i64 (s.p.getD j 0)) := by
  rw [cell_of_row _ _ _ _ _ _ h.places]
  simpa using nums_get hj
theorem RunAt.pp (h : RunAt B g gp r w how val s cv av) {j : Nat} {x : Int} (hj : j < s.p.length) (hx : pg s.p (j : Int) = x) : w.cell? ⟨gp, j, none⟩ = some (.int .i64 x) := by
  rw [h.pc hj, ← hx]
  rfl
theorem RunAt.pf (h : RunAt B g gp r w how val s cv av) (j : Nat) : w.frozen? ⟨gp, j, none⟩ = false := frozen_of_row _ _ _ _ _ h.places
/-- What is changed of the run's own block. -/
theorem RunAt.put (h : RunAt B g gp r w how val s cv av) {j : Nat} {u : Value} {how' val' : Int} {mem' : List Int} {left' : Nat} {cv' av' : Value} (hc : CallsO B gp w cv' s.calls) (ha : NumsB B w av' s.ans) (hm : mem'.length = 64)
    (hr : (rowL how val cv s.mem s.left r (.slice (some ⟨gp, 0, none⟩) s.p.length s.p.length) av).set j u = rowL how' val' cv' mem' left' r (.slice (some ⟨gp, 0, none⟩) s.p.length s.p.length) av') :
    RunAt B g gp r (w.setCell ⟨g, j, none⟩ u) how' val' { s with mem := mem', left := left' } cv' av' ∧ Mv B gp w (w.setCell ⟨g, j, none⟩ u) := by
  have hmv : Mv B gp w (w.setCell ⟨g, j, none⟩ u) := Mv.set86 h.row h.hg u
  refine ⟨⟨?_, ?_, ha.below hmv.below, hm, ?_, h.hg, h.hp, h.small⟩, hmv⟩
  · rw [heap_setCell_same w g j _ _ u h.row]
    simp [hr]
  · refine hc.mv hmv fun k cs hk => ?_
    rw [Below.heap_setCell _ _ _ _ (fun e => ?_)]
    · exact hk
    · simp only at e
      subst e
      rw [h.row] at hk
      simp at hk
  · rw [Below.heap_setCell _ _ _ _ (fun e => ?_)]
    · exact h.places
    · simp only at e
      have := h.places
      rw [e, h.row] at this
      simp at this
/-- Other answers. -/
theorem RunAt.answered (h : RunAt B g gp r w how val s cv av) {av' : Value} {xs : List Int} (ha : NumsB B w av' xs) :
    RunAt B g gp r (w.setCell ⟨g, 70, none⟩ av') how val { s with ans := xs } cv av' ∧ Mv B gp w (w.setCell ⟨g, 70, none⟩ av') := by
  have hmv : Mv B gp w (w.setCell ⟨g, 70, none⟩ av') := Mv.set86 h.row h.hg _
  refine ⟨⟨?_, ?_, ha.below hmv.below, h.mem, ?_, h.hg, h.hp, h.small⟩, hmv⟩
  · rw [heap_setCell_same w g 70 _ _ _ h.row]
    simp [rowL_set_av h.mem]
  · refine h.calls.mv hmv fun k cs hk => ?_
    rw [Below.heap_setCell _ _ _ _ (fun e => ?_)]
    · exact hk
    · simp only at e
      subst e
      rw [h.row] at hk
      simp at hk
  · rw [Below.heap_setCell _ _ _ _ (fun e => ?_)]
    · exact h.places
    · simp only at e
      have := h.places
      rw [e, h.row] at this
      simp at this
/-- A place is given something. -/
theorem RunAt.place (h : RunAt B g gp r w how val s cv av) (j : Nat) (x : Int) :
    RunAt B g gp r (w.setCell ⟨gp, j, none⟩ (.int .i64 x)) how val { s with p := s.p.set j x } cv av ∧ Mv B gp w (w.setCell ⟨gp, j, none⟩ (.int .i64 x)) := by
  have hmv : Mv B gp w (w.setCell ⟨gp, j, none⟩ (.int .i64 x)) := Mv.set2 h.places h.hp _
  refine ⟨⟨?_, ?_, h.ans.below hmv.below, h.mem, ?_, h.hg, h.hp, by simpa using h.small⟩, hmv⟩
  · simp only [List.length_set]
    rw [Below.heap_setCell _ _ _ _ (fun e => ?_)]
    · exact h.row
    · simp only at e
      have := h.places
      rw [← e, h.row] at this
      simp at this
  · refine h.calls.mv hmv fun k cs hk => ?_
    rw [Below.heap_setCell _ _ _ _ (fun e => ?_)]
    · exact hk
    · simp only at e
      subst e
      rw [h.places] at hk
      simp at hk
  · rw [heap_setCell_same w gp j _ _ _ h.places]
    simp [nums_set]
/-- A change that leaves all there was. -/
theorem RunAt.of (h : RunAt B g gp r w how val s cv av) (hw : Below w.heap.size w w') : RunAt B g gp r w' how val s cv av := by
  have hmv : Mv B gp w w' := Mv.of hw h.size.1
  refine ⟨?_, ?_, h.ans.below hmv.below, h.mem, ?_, h.hg, h.hp, h.small⟩
  · rw [hw.block g h.size.2.1]
    exact h.row
  · refine h.calls.mv hmv fun k cs hk => ?_
    rw [hw.block k (Array.getElem?_eq_some_iff.1 hk).1]
    exact hk
  · rw [hw.block gp h.size.2.2]
    exact h.places
/-- The run is over. -/
def Ended (B g gp : Nat) (r : Int) (w : World) (o : Out) : Prop := ∃ s cv av, RunAt B g gp r w o.how o.val s cv av ∧ s.calls = o.calls ∧ s.mem = o.mem ∧ s.left = o.left
/-- The run stands as x says. -/
def Came (B g gp : Nat) (r : Int) (w : World) : Rs St → Prop
  | .inl s => ∃ cv av, RunAt B g gp r w 0 0 s cv av
  | .inr o => Ended B g gp r w o
end
end Go.Proofs.Ytepmbkiojpffpaa
