/- Rows that grow by one element while a reader reads: numbers, instructions, blocks, pairs, lists of pairs. -/
import Derived.Test.YtbjnhicikkjadaaRd
import Derived.Test.YtbjnhicikkjadaaRy
import Derived.Test.YtbjnhicikkjadaaMade1
namespace Go.Proofs.Ytbjnhicikkjadaa
open Go.RowKit Ir Wire

theorem grown_row {w w' : World} {p g : Nat} {cs : Array Value} {t : TypeId} {fr : Nat × Nat} (hg : w.grownBy w' (some p)) (hr : w.heap[g]? = some (Obj.cells cs t fr)) (hne : g ≠ p) : w'.heap[g]? = some (Obj.cells cs t fr) :=
  (hg.block g (Array.getElem?_eq_some_iff.1 hr).1 (by simp; omega)).trans hr
theorem row_lt {w : World} {g : Nat} {cs : Array Value} {t : TypeId} {fr : Nat × Nat} (hr : w.heap[g]? = some (Obj.cells cs t fr)) : g < w.heap.size := (Array.getElem?_eq_some_iff.1 hr).1
/-- What has turned in new memory has not turned in old. -/
theorem grown_new {w w1 w2 : World} {p : Nat} {r : Option Nat} (h : w.grownBy w1 (some p)) (hg : w1.grownBy w2 r) (hr : ∀ k, r = some k → w.heap.size ≤ k) : w.grownBy w2 (some p) :=
  ⟨hg.os.trans h.os, hg.tape.trans h.tape, hg.output.trans h.output, Nat.le_trans h.size hg.size, fun k hk hne => (hg.block k (Nat.lt_of_lt_of_le hk h.size) (fun e => by have := hr k e.symm; omega)).trans (h.block k hk hne)⟩
theorem grown_none {w w' : World} (hg : w.grownBy w' none) (r : Option Nat) : w.grownBy w' r := ⟨hg.os, hg.tape, hg.output, hg.size, fun k hk _ => hg.block k hk (by simp)⟩
theorem rdr_kept {w w' : World} {p b : Nat} {xs : List Int} {code : Int} {r : Option Nat} (h : Lb.RdrAt w p b xs code) (hg : w.grownBy w' r) (hp : r ≠ some p) (hb : r ≠ some b) : Lb.RdrAt w' p b xs code := by
  cases r with
  | none => exact h.kept (q := p + b + 1) (grown_none hg _) (by omega) (by omega)
  | some q => exact h.kept hg (fun e => hp (by rw [e])) (fun e => hb (by rw [e]))
theorem owns_kept {w w' : World} {p B : Nat} {e : TypeId} {size : Nat} {v : Value} {n : Nat} {xs : List Value} (h : w.ownsRow B e size v n xs) (hg : w.grownBy w' (some p)) (hp : p < B) : w'.ownsRow B e size v n xs := by
  refine h.kept hg ?_
  cases hv : v.ownBlock with
  | none => exact .inl rfl
  | some k =>
    refine .inr (fun e => ?_)
    simp only [Option.some.injEq] at e
    have := (h.lt k hv).1
    omega
theorem ArgsO.kept {w w' : World} {p B : Nat} {v : Value} {l : List Int} (h : ArgsO B w v l) (hg : w.grownBy w' (some p)) (hp : p < B) : ArgsO B w' v l := owns_kept h hg hp
theorem InssO.kept {w w' : World} {p B : Nat} {v : Value} {l : List Ins} (h : InssO B w v l) (hg : w.grownBy w' (some p)) (hp : p < B) : InssO B w' v l := by
  obtain ⟨ps, h1, h2, h3⟩ := h
  exact ⟨ps, h1, owns_kept h2 hg hp, fun q hq => (h3 q hq).kept hg hp⟩
theorem BlksO.kept {w w' : World} {p B : Nat} {v : Value} {l : List Blk} (h : BlksO B w v l) (hg : w.grownBy w' (some p)) (hp : p < B) : BlksO B w' v l := by
  obtain ⟨ps, h1, h2, h3⟩ := h
  exact ⟨ps, h1, owns_kept h2 hg hp, fun q hq => (h3 q hq).kept hg hp⟩
theorem ArgsO.mono {B B' : Nat} {w : World} {v : Value} {l : List Int} (h : ArgsO B w v l) (hB : B' ≤ B) : ArgsO B' w v l := owns_mono h hB
theorem BlksO.mono {B B' : Nat} {w : World} {v : Value} {l : List Blk} (h : BlksO B w v l) (hB : B' ≤ B) : BlksO B' w v l := by
  obtain ⟨ps, h1, h2, h3⟩ := h
  exact ⟨ps, h1, owns_mono h2 hB, fun q hq => (h3 q hq).mono hB⟩
def cellsP (ps : List Pair) : List Value := ps.flatMap fun p => [.int .i64 p.v, .int .i64 p.l]
theorem cellsP_snoc (ps : List Pair) (p : Pair) : cellsP (ps ++ [p]) = cellsP ps ++ [.int .i64 p.v, .int .i64 p.l] := by simp [cellsP]
/-- A list of pairs that the call itself has laid. -/
def PrsO (B : Nat) (w : World) (v : Value) (l : List Pair) : Prop := w.ownsRow B 111 2 v l.length (cellsP l)
theorem PrsO.nil (B : Nat) (w : World) : PrsO B w (.slice none 0 0) [] := World.ownsRow_nil _ _ _ _
theorem PrsO.kept {w w' : World} {p B : Nat} {v : Value} {l : List Pair} (h : PrsO B w v l) (hg : w.grownBy w' (some p)) (hp : p < B) : PrsO B w' v l := owns_kept h hg hp
theorem PrsO.mono {B B' : Nat} {w : World} {v : Value} {l : List Pair} (h : PrsO B w v l) (hB : B' ≤ B) : PrsO B' w v l := owns_mono h hB
/-- Lists of pairs. -/
def CerO (B : Nat) (w : World) (v : Value) (l : List (List Pair)) : Prop := ∃ qs : List (List Pair × Value), qs.map (·.1) = l ∧ w.ownsRow B 64 1 v qs.length (qs.map (·.2)) ∧ ∀ q ∈ qs, PrsO B w q.2 q.1
theorem CerO.nil (B : Nat) (w : World) : CerO B w (.slice none 0 0) [] := ⟨[], rfl, World.ownsRow_nil _ _ _ _, fun p hp => by simp at hp⟩
theorem CerO.kept {w w' : World} {p B : Nat} {v : Value} {l : List (List Pair)} (h : CerO B w v l) (hg : w.grownBy w' (some p)) (hp : p < B) : CerO B w' v l := by
  obtain ⟨ps, h1, h2, h3⟩ := h
  exact ⟨ps, h1, owns_kept h2 hg hp, fun q hq => (h3 q hq).kept hg hp⟩
theorem owns_slice {w : World} {B : Nat} {e : TypeId} {size : Nat} {v : Value} {n : Nat} {xs : List Value} (h : w.ownsRow B e size v n xs) : ∃ ao m cap, v = .slice ao m cap := by
  rcases h.2 with ⟨rfl, _⟩ | ⟨g, cap, cur, rfl, _⟩
  · exact ⟨_, _, _, rfl⟩
  · exact ⟨_, _, _, rfl⟩
theorem info64 : (Try.prog.info? 64).map (fun i => (i.zero, i.size, i.bytes)) = some (some (.slice none 0 0), 1, 24) := by kernel_rfl
theorem info111 : (Try.prog.info? 111).map (fun i => (i.zero, i.size, i.bytes)) = some (some (.agg #[.int .i64 0, .int .i64 0]), 2, 16) := by kernel_rfl
section
variable {w : World} {ops : Array Oper} {rest : List Oper} {o : Oper} {a : Act} {Q : Exit → Act → World → Prop} {B h : Nat} {v : Value}
theorem cells_hh {cs : Array Value} {t : TypeId} (hh : w.heap[h]? = some (Obj.cells cs t (0, 0))) : ∀ j u, cs.toList[j]? = some u → w.cell? ((⟨h, 0, none⟩ : Addr).add j) = some u := by
  intro j u hj
  rw [Addr.add_lit, Nat.zero_add, cell_of_row _ _ _ _ _ _ hh]
  simpa using hj
theorem snoc_int {l : List Int} {x : Int} (s y : Operand) (hgd : o.guard = none) (ho : o.op = .call { callee := .builtin .append, args := #[s, y], argTypes := #[49, 49] }) (hO : ArgsO B w v l) (hh : w.heap[h]? = some (Obj.cells #[.int .i64 x] 3 (0, 0))) (hs : a.eval s = v) (hy : a.eval y = .slice (some ⟨h, 0, none⟩) 1 1) (hl : l.length ≤ 1000000) (hB : B ≤ w.heap.size)
    (hK : ∀ v' w', ArgsO B w' v' (l ++ [x]) → w.grownBy w' v.ownBlock → wpList Try.prog ops Q rest (a.put o.dst v') w') : wpList Try.prog ops Q (o :: rest) a w := by
  obtain ⟨i, hi, hz, hsize, hby⟩ := info_parts info3
  refine wpList_append_own w hgd s y 49 ho B 3 i (.int .i64 0) 1 8 Try.underlying49 hi hz hsize hby rfl (by decide) v _ _ hs hO ⟨h, 0, none⟩ 1 1 [.int .i64 x] hy rfl (cells_hh hh) ?_ (by unfold maxLen; omega) (by omega) hB ?_
  · intro u hu
    simp at hu
    subst hu
    rfl
  · intro v' w' h1 h2 _
    exact hK v' w' (owns_cast h1 (by simp) (by simp)) h2
theorem snoc_ins {l : List Ins} {x : Ins} {u : Value} (s y : Operand) (hgd : o.guard = none) (ho : o.op = .call { callee := .builtin .append, args := #[s, y], argTypes := #[80, 80] }) (hO : InssO B w v l) (hh : w.heap[h]? = some (Obj.cells (rowI x u) 86 (0, 0))) (hA : ArgsO B w u x.args) (hs : a.eval s = v) (hy : a.eval y = .slice (some ⟨h, 0, none⟩) 1 1) (hl : l.length ≤ 1000000) (hB : B ≤ w.heap.size)
    (hK : ∀ v' w', InssO B w' v' (l ++ [x]) → w.grownBy w' v.ownBlock → wpList Try.prog ops Q rest (a.put o.dst v') w') : wpList Try.prog ops Q (o :: rest) a w := by
  obtain ⟨i, hi, hz, hsize, hby⟩ := info_parts info46
  have hO' := hO
  obtain ⟨ps, h1, h2, h3⟩ := hO
  have hlp : ps.length = l.length := by rw [← h1, List.length_map]
  have hone : u.oneCell' = true := by obtain ⟨ua, uc, rfl⟩ := hA.v.slice; rfl
  refine wpList_append_own w hgd s y 80 ho B 86 i _ 7 64 Try.underlying80 hi hz hsize hby rfl (by decide) v _ _ hs h2 ⟨h, 0, none⟩ 1 1 (rowI x u).toList hy rfl (cells_hh hh) ?_ (by unfold maxLen; omega) (by omega) hB ?_
  · intro c hc
    simp [rowI] at hc
    rcases hc with rfl | rfl | rfl | rfl | rfl | rfl | rfl <;> first | rfl | exact hone
  · intro v' w' g2 g3 _
    exact hK v' w' (InssO.snoc h1 h3 g2 ((hO'.grown3 g3).weak fun t ht => by simp [T3] at *; subst ht; decide) hA) g3
theorem snoc_blk {l : List Blk} {x : Blk} {u : Value} (s y : Operand) (hgd : o.guard = none) (ho : o.op = .call { callee := .builtin .append, args := #[s, y], argTypes := #[22, 22] }) (hO : BlksO B w v l) (hh : w.heap[h]? = some (Obj.cells #[u, .int .u8 x.e.k, .int .i64 x.e.a, .int .i64 x.e.to, .int .i64 x.e.el] 82 (0, 0))) (hA : InssO B w u x.ins) (hs : a.eval s = v) (hy : a.eval y = .slice (some ⟨h, 0, none⟩) 1 1) (hl : l.length ≤ 1000000) (hB : B ≤ w.heap.size)
    (hK : ∀ v' w', BlksO B w' v' (l ++ [x]) → w.grownBy w' v.ownBlock → wpList Try.prog ops Q rest (a.put o.dst v') w') : wpList Try.prog ops Q (o :: rest) a w := by
  obtain ⟨i, hi, hz, hsize, hby⟩ := info_parts info41
  obtain ⟨ps, h1, h2, h3⟩ := hO
  have hlp : ps.length = l.length := by rw [← h1, List.length_map]
  have hone : u.oneCell' = true := by obtain ⟨ua, uc, rfl⟩ := hA.v.slice; rfl
  refine wpList_append_own w hgd s y 22 ho B 82 i _ 5 56 Try.underlying22 hi hz hsize hby rfl (by decide) v _ _ hs h2 ⟨h, 0, none⟩ 1 1 [u, .int .u8 x.e.k, .int .i64 x.e.a, .int .i64 x.e.to, .int .i64 x.e.el] hy rfl (cells_hh hh) ?_ (by unfold maxLen; omega) (by omega) hB ?_
  · intro c hc
    simp at hc
    rcases hc with rfl | rfl | rfl | rfl | rfl <;> first | rfl | exact hone
  · intro v' w' g2 g3 _
    have hk : Keeps T46 w w' := (Keeps.grown (T := fun t => t != 82) h2 rfl g3).weak fun t ht => by simp [T46] at *; rcases ht with rfl | rfl <;> decide
    refine hK v' w' ⟨ps ++ [(x, u)], by simp [h1], ?_, fun p hp => ?_⟩ g3
    · rw [cellsB_snoc, List.length_append]
      exact g2
    · rcases List.mem_append.1 hp with h | h
      · exact (h3 p h).keeps hk
      · simp at h
        subst h
        exact hA.keeps hk
theorem snoc_pr {l : List Pair} {x : Pair} (s y : Operand) (hgd : o.guard = none) (ho : o.op = .call { callee := .builtin .append, args := #[s, y], argTypes := #[64, 64] }) (hO : PrsO B w v l) (hh : w.heap[h]? = some (Obj.cells #[.int .i64 x.v, .int .i64 x.l] 111 (0, 0))) (hs : a.eval s = v) (hy : a.eval y = .slice (some ⟨h, 0, none⟩) 1 1) (hl : l.length ≤ 1000000) (hB : B ≤ w.heap.size)
    (hK : ∀ v' w', PrsO B w' v' (l ++ [x]) → w.grownBy w' v.ownBlock → wpList Try.prog ops Q rest (a.put o.dst v') w') : wpList Try.prog ops Q (o :: rest) a w := by
  obtain ⟨i, hi, hz, hsize, hby⟩ := info_parts info111
  refine wpList_append_own w hgd s y 64 ho B 111 i _ 2 16 Try.underlying64 hi hz hsize hby rfl (by decide) v _ _ hs hO ⟨h, 0, none⟩ 1 1 [.int .i64 x.v, .int .i64 x.l] hy rfl (cells_hh hh) ?_ (by unfold maxLen; omega) (by omega) hB ?_
  · intro u hu
    simp at hu
    rcases hu with rfl | rfl <;> rfl
  · intro v' w' h1 h2 _
    exact hK v' w' (owns_cast h1 (by simp) (by rw [cellsP_snoc])) h2
theorem snoc_prs {l : List (List Pair)} {x : List Pair} {u : Value} (s y : Operand) (hgd : o.guard = none) (ho : o.op = .call { callee := .builtin .append, args := #[s, y], argTypes := #[63, 63] }) (hO : CerO B w v l) (hh : w.heap[h]? = some (Obj.cells #[u] 64 (0, 0))) (hA : PrsO B w u x) (hs : a.eval s = v) (hy : a.eval y = .slice (some ⟨h, 0, none⟩) 1 1) (hl : l.length ≤ 1000000) (hB : B ≤ w.heap.size)
    (hK : ∀ v' w', CerO B w' v' (l ++ [x]) → w.grownBy w' v.ownBlock → wpList Try.prog ops Q rest (a.put o.dst v') w') : wpList Try.prog ops Q (o :: rest) a w := by
  obtain ⟨i, hi, hz, hsize, hby⟩ := info_parts info64
  obtain ⟨ps, h1, h2, h3⟩ := hO
  have hlp : ps.length = l.length := by rw [← h1, List.length_map]
  have hone : u.oneCell' = true := by obtain ⟨ua, un, uc, rfl⟩ := owns_slice hA; rfl
  refine wpList_append_own w hgd s y 63 ho B 64 i _ 1 24 Try.underlying63 hi hz hsize hby rfl (by decide) v _ _ hs h2 ⟨h, 0, none⟩ 1 1 [u] hy rfl (cells_hh hh) ?_ (by unfold maxLen; omega) (by omega) hB ?_
  · intro c hc
    simp at hc
    subst hc
    exact hone
  · intro v' w' g2 g3 _
    have hk : Keeps (fun t => t != 64) w w' := Keeps.grown h2 rfl g3
    refine hK v' w' ⟨ps ++ [(x, u)], by simp [h1], owns_cast g2 (by simp) (by simp), fun p hp => ?_⟩ g3
    rcases List.mem_append.1 hp with h | h
    · exact owns_keeps (h3 p h) hk rfl
    · simp at h
      subst h
      exact owns_keeps hA hk rfl
end
end Go.Proofs.Ytbjnhicikkjadaa
