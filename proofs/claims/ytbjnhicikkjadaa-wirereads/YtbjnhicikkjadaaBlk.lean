/- What a row of instructions holds, with the value of each one's arguments. -/
import Derived.Test.YtbjnhicikkjadaaMade1
import Derived.Test.YtbjnhicikkjadaaInts
import Derived.Test.YtbjnhicikkjadaaMade
namespace Go.Proofs.Ytbjnhicikkjadaa
open Go.RowKit Ir
theorem each_val {P : Nat → Value → Prop} : ∀ n : Nat, (∀ j, j < n → ∃ u, P j u) → ∃ us : List Value, us.length = n ∧ ∀ j (h : j < us.length), P j us[j]
  | 0, _ => ⟨[], rfl, fun j h => by simp at h⟩
  | n + 1, h => by
    obtain ⟨us, h1, h2⟩ := each_val n fun j hj => h j (by omega)
    obtain ⟨u, hu⟩ := h n (by omega)
    refine ⟨us ++ [u], by simp [h1], fun j hj => ?_⟩
    simp only [List.length_append, List.length_cons, List.length_nil] at hj
    by_cases hjn : j < us.length
    · rw [List.getElem_append_left hjn]
      exact h2 j hjn
    · obtain rfl : j = us.length := by omega
      simp only [List.getElem_append_right (Nat.le_refl _), Nat.sub_self, List.getElem_cons_zero]
      rw [h1]
      exact hu
/-- What a row of instructions holds, with the value of each one's arguments. -/
theorem InssV.pairs {w : World} {ad : Addr} {n c : Nat} {is : List Ins} (h : InssV w (.slice (some ad) n c) is) : ∃ ps : List (Ins × Value), ps.map (·.1) = is ∧ (∀ k u, (cellsI ps)[k]? = some u → w.cell? (ad.add k) = some u) ∧ ∀ p ∈ ps, IntsV w p.2 p.1.args := by
  obtain ⟨us, h1, h2⟩ := each_val (P := fun j u => InsCells w ad.block (ad.off + j * 7) (is.getD j Ins.zero) u ∧ IntsV w u (is.getD j Ins.zero).args ∧ ad.spot = none) is.length (fun j hj => by
    obtain ⟨b, off, e, u, hc, hi⟩ := SlV.at h j hj
    simp only [Option.some.injEq] at e
    subst e
    exact ⟨u, hc, hi, rfl⟩)
  refine ⟨is.zip us, List.map_fst_zip (by omega), fun k u hk => ?_, fun p hp => ?_⟩
  · have hkl : k < (cellsI (is.zip us)).length := by
      rcases Nat.lt_or_ge k (cellsI (is.zip us)).length with h | h
      · exact h
      · rw [List.getElem?_eq_none h] at hk
        cases hk
    rw [cellsI_len] at hkl
    have hz : (is.zip us).length = is.length := by simp [h1]
    obtain ⟨j, r, hkj, hr⟩ : ∃ j r, k = j * 7 + r ∧ r < 7 := ⟨k / 7, k % 7, by omega, by omega⟩
    have hj : j < is.length := by omega
    have hju : j < us.length := by omega
    have hp : (is.zip us)[j]? = some (is[j], us[j]) := by rw [List.getElem?_eq_getElem (by omega), List.getElem_zip]
    obtain ⟨⟨c0, c1, c2, c3, c4, c5, c6⟩, _, hs⟩ := h2 j hju
    have hd : is.getD j Ins.zero = is[j] := by simp [hj]
    rw [hd] at c0 c1 c2 c3 c4 c5
    obtain ⟨g0, g1, g2, g3, g4, g5, g6⟩ := cellsI_get _ j _ hp
    obtain ⟨blk, off, sub⟩ := ad
    simp only at hs c0 c1 c2 c3 c4 c5 c6
    subst hs
    rw [Addr.add_lit]
    subst hkj
    rcases (by omega : r = 0 ∨ r = 1 ∨ r = 2 ∨ r = 3 ∨ r = 4 ∨ r = 5 ∨ r = 6) with rfl | rfl | rfl | rfl | rfl | rfl | rfl
    · rw [Nat.add_zero, g0] at hk
      cases hk
      exact c0
    · rw [g1] at hk
      cases hk
      exact c1
    · rw [g2] at hk
      cases hk
      exact c2
    · rw [g3] at hk
      cases hk
      exact c3
    · rw [g4] at hk
      cases hk
      exact c4
    · rw [g5] at hk
      cases hk
      exact c5
    · rw [g6] at hk
      cases hk
      exact c6
  · obtain ⟨j, hj, he⟩ := List.mem_iff_getElem.1 hp
    have hji : j < is.length := by simp at hj; omega
    have hju : j < us.length := by simp at hj; omega
    rw [List.getElem_zip] at he
    subst he
    have := (h2 j hju).2.1
    rw [show is.getD j Ins.zero = is[j] by simp [hji]] at this
    exact this
theorem cellsI_one {ps : List (Ins × Value)} (h : ∀ p ∈ ps, ∃ a n c, p.2 = .slice a n c) : ∀ u ∈ cellsI ps, u.oneCell' = true := by
  intro u hu
  unfold cellsI at hu
  obtain ⟨p, hp, hu⟩ := List.mem_flatMap.1 hu
  obtain ⟨a, n, c, e⟩ := h p hp
  simp only [List.mem_cons, List.not_mem_nil, or_false, e] at hu
  rcases hu with rfl | rfl | rfl | rfl | rfl | rfl | rfl <;> rfl
end Go.Proofs.Ytbjnhicikkjadaa
namespace Go.Proofs.Ytbjnhicikkjadaa
open Go.RowKit Ir

theorem tmod_in {r x : Int} (hr : 0 < r) (hx : 0 ≤ x) : 0 ≤ x.tmod r ∧ x.tmod r < r := by
  rw [Int.tmod_eq_emod_of_nonneg hx]
  exact ⟨Int.emod_nonneg _ (by omega), Int.emod_lt_of_pos _ hr⟩
theorem modN {x : Int} {j : Nat} (hx : 0 ≤ x) (hj : 0 < j) : ∃ jb : Nat, x.tmod (j : Int) = (jb : Int) ∧ jb < j := by
  have h0 := Int.emod_nonneg x (show (j : Int) ≠ 0 by omega)
  have h1 := Int.emod_lt_of_pos x (show (0 : Int) < (j : Int) by omega)
  exact ⟨(x % (j : Int)).toNat, by rw [Int.tmod_eq_emod_of_nonneg hx]; omega, by omega⟩
theorem modZ {x r : Int} (hx : 0 ≤ x) (hr : 0 < r) : ∃ z, x.tmod r = z ∧ 0 ≤ z ∧ z < r := ⟨_, rfl, tmod_in hr hx⟩
theorem right_small {F : Fun} (h : chk F = (0, 0, 0)) : ∀ x ∈ F.bs, x.ins.length < 100000 ∧ ∀ i ∈ x.ins, i.args.length ≤ 1000000 := by
  intro x hx
  obtain ⟨_, h2⟩ := chk_all (F := F) (by rw [h])
  obtain ⟨h3, h4, _⟩ := blkF_all (h2 x hx)
  exact ⟨by omega, fun i hi => by have := (inF_all (h4 i hi)).2.1; omega⟩
theorem BlksO.mono {B B' : Nat} {w : World} {v : Value} {bs : List Blk} (h : BlksO B w v bs) (hB : B' ≤ B) : BlksO B' w v bs := by
  obtain ⟨ps, h1, h2, h3⟩ := h
  exact ⟨ps, h1, owns_mono h2 hB, fun p hp => (h3 p hp).mono hB⟩
theorem BlksO.below {B : Nat} {w w' : World} {v : Value} {bs : List Blk} (h : BlksO B w v bs) (hB : Below w.heap.size w w') : BlksO B w' v bs := h.keeps (Keeps.below hB)
/-- Three cells of a function in a box of the call's own, in a later world. -/
theorem boxF {w w1 : World} {p v : Int} {u : Value} (hB : Below (w.alloc (.cells #[.int .i64 p, .int .i64 v, u] 24)).heap.size (w.alloc (.cells #[.int .i64 p, .int .i64 v, u] 24)) w1) :
    w1.cell? ⟨w.heap.size, 0, none⟩ = some (.int .i64 p) ∧ w1.cell? ⟨w.heap.size, 1, none⟩ = some (.int .i64 v) ∧ w1.cell? ⟨w.heap.size, 2, none⟩ = some u :=
  ⟨box_cell hB 0 rfl, box_cell hB 1 rfl, box_cell hB 2 rfl⟩
theorem boxS {w w1 : World} {a b c : Int} {u : Value} (hB : Below (w.alloc (.cells #[.int .u8 a, .int .u8 b, .int .u8 c, u] 27)).heap.size (w.alloc (.cells #[.int .u8 a, .int .u8 b, .int .u8 c, u] 27)) w1) :
    w1.cell? ⟨w.heap.size, 0, none⟩ = some (.int .u8 a) ∧ w1.cell? ⟨w.heap.size, 1, none⟩ = some (.int .u8 b) ∧ w1.cell? ⟨w.heap.size, 2, none⟩ = some (.int .u8 c) ∧ w1.cell? ⟨w.heap.size, 3, none⟩ = some u :=
  ⟨box_cell hB 0 rfl, box_cell hB 1 rfl, box_cell hB 2 rfl, box_cell hB 3 rfl⟩

theorem run_cut1 {ao : Option Addr} {n cap k : Nat} (hk : k ≤ cap) (W : World) : (Instr.sliceAt 80 (.slice ao n cap) none (some (.int .i64 (k : Int))) none).run Try.prog W = .ok (.slice ao k cap) W := by
  have h0 : (0 : Int) ≤ (k : Int) := by omega
  have h1 : (k : Int) ≤ (cap : Int) := by omega
  go_simp
theorem run_cut2 {ao : Option Addr} {n cap k : Nat} (hk : k ≤ n) (W : World) : (Instr.sliceAt 80 (.slice ao n cap) (some (.int .i64 (k : Int))) none none).run Try.prog W = .ok (.slice (if cap = k then ao else ao.map (·.add (k * 7))) (n - k) (cap - k)) W := by
  have h0 : (0 : Int) ≤ (k : Int) := by omega
  have h1 : (k : Int) ≤ (n : Int) := by omega
  go_simp
theorem cellsI_append (ps qs : List (Ins × Value)) : cellsI (ps ++ qs) = cellsI ps ++ cellsI qs := by simp [cellsI]
/-- A slice that leads to such instructions, with their arguments' values. -/
def SrcI (W : World) (src : Value) (ps : List (Ins × Value)) : Prop := (src = .slice none 0 0 ∧ ps = []) ∨ ∃ ad c, src = .slice (some ad) ps.length c ∧ ∀ k u, (cellsI ps)[k]? = some u → W.cell? (ad.add k) = some u
section
variable {B : Nat} {W W' : World}
theorem SrcI.below {src : Value} {ps : List (Ins × Value)} (h : SrcI W src ps) (hb : Below W.heap.size W W') : SrcI W' src ps := by
  rcases h with h | ⟨ad, c, h1, h2⟩
  · exact .inl h
  · refine .inr ⟨ad, c, h1, fun k u hk => ?_⟩
    have h3 := h2 k u hk
    generalize ad.add k = q at h3 ⊢
    have hs := World.cell?_spot h3
    obtain ⟨b, o, sp⟩ := q
    simp only at hs
    subst hs
    exact cell_below hb h3
theorem SrcI.cut1 {ao : Option Addr} {n cap k : Nat} {ps : List (Ins × Value)} (h : W.ownsRow B 86 7 (.slice ao n cap) ps.length (cellsI ps)) (hk : k ≤ ps.length) : SrcI W (.slice ao k cap) (ps.take k) ∧ k ≤ cap := by
  rcases h.2 with ⟨h0, h1⟩ | ⟨g, c, cur, hv, _, hg, hnc, _⟩
  · simp only [Value.slice.injEq] at h0
    obtain ⟨rfl, rfl, rfl⟩ := h0
    have : k = 0 := by omega
    subst this
    exact ⟨.inl ⟨rfl, by simp⟩, by omega⟩
  · simp only [Value.slice.injEq] at hv
    obtain ⟨rfl, rfl, rfl⟩ := hv
    refine ⟨.inr ⟨_, _, by rw [List.length_take, Nat.min_eq_left hk], fun j u hj => ?_⟩, by omega⟩
    refine h.cells (g := g) rfl j u ?_
    rw [← List.take_append_drop k ps, cellsI_append, List.getElem?_append_left]
    · exact hj
    · rcases Nat.lt_or_ge j (cellsI (ps.take k)).length with h' | h'
      · exact h'
      · rw [List.getElem?_eq_none h'] at hj
        cases hj
theorem SrcI.cut2 {ao : Option Addr} {n cap k : Nat} {ps : List (Ins × Value)} (h : W.ownsRow B 86 7 (.slice ao n cap) ps.length (cellsI ps)) (hk : k ≤ ps.length) : SrcI W (.slice (if cap = k then ao else ao.map (·.add (k * 7))) (n - k) (cap - k)) (ps.drop k) ∧ k ≤ n := by
  rcases h.2 with ⟨h0, h1⟩ | ⟨g, c, cur, hv, _, hg, hnc, _⟩
  · simp only [Value.slice.injEq] at h0
    obtain ⟨rfl, rfl, rfl⟩ := h0
    have : k = 0 := by omega
    subst this
    refine ⟨.inl ⟨by simp, ?_⟩, by omega⟩
    rw [List.drop_zero]
    exact List.eq_nil_of_length_eq_zero h1
  · simp only [Value.slice.injEq] at hv
    obtain ⟨rfl, rfl, rfl⟩ := hv
    refine ⟨.inr ?_, hk⟩
    by_cases e : cap = k
    · rw [if_pos e]
      refine ⟨_, _, by rw [List.length_drop], fun j u hj => ?_⟩
      have : ps.drop k = [] := by rw [List.drop_eq_nil_iff]; omega
      rw [this] at hj
      simp [cellsI] at hj
    · rw [if_neg e, Option.map_some]
      refine ⟨_, _, by rw [List.length_drop], fun j u hj => ?_⟩
      have := h.cells (g := g) rfl (k * 7 + j) u (by
        rw [← List.take_append_drop k ps, cellsI_append, List.getElem?_append_right (by rw [cellsI_len, List.length_take]; omega), cellsI_len, List.length_take, Nat.min_eq_left hk, Nat.add_sub_cancel_left]
        exact hj)
      rw [Addr.add_lit] at this
      rw [Addr.add_lit, Addr.add_lit]
      simpa [Nat.add_assoc] using this
/-- 'append(v, src...)', v the call's own. -/
theorem appI_ok {a : Act} {o : Oper} {s y : Operand} {v src : Value} {qs ps : List (Ins × Value)} {Q : Value → World → Prop} (hop : o.op = .call { callee := .builtin .append, args := #[s, y], argTypes := #[80, 80] }) (es : a.eval s = v) (ey : a.eval y = src)
    (hown : W.ownsRow B 86 7 v qs.length (cellsI qs)) (hsrc : SrcI W src ps) (h1 : ∀ p ∈ ps, ∃ a n c, p.2 = .slice a n c) (hl : qs.length + ps.length ≤ 1000000) (hB : B ≤ W.heap.size)
    (hQ : ∀ v' w', w'.ownsRow B 86 7 v' (qs ++ ps).length (cellsI (qs ++ ps)) → W.grownBy w' v.ownBlock → Q v' w') : ∃ v' w', (execOp a.eval o).run Try.prog W = .ok (.value v') w' ∧ Q v' w' := by
  obtain ⟨i, hi, hz, hsize, hby⟩ := info_parts info46
  rcases hsrc with ⟨rfl, rfl⟩ | ⟨ad, c, rfl, hc⟩
  · have hr := run_append_owned_none (P := Try.prog) (w := W) B 80 o.type 86 i 7 Try.underlying80 hi v _ _ hown
    refine ⟨v, W, ?_, hQ v W (by rw [List.append_nil]; exact hown) (grown_below (Below.refl _ _) _)⟩
    unfold execOp
    simp only [hop, resolve, invoke, builtin, Sem.run_bind, Sem.run_pure, Result.andThen_ok, List.map_toArray, List.map_cons, List.map_nil, es, ey, hr]
  · obtain ⟨v', w', hr, g2, g3, _⟩ := run_append_own (P := Try.prog) W B 80 o.type 86 i _ 7 64 Try.underlying80 hi hz hsize hby rfl (by decide) v _ _ hown ad ps.length c (cellsI ps) (cellsI_len ps) hc (cellsI_one h1) (by unfold maxLen; omega) (by omega) hB
    refine ⟨v', w', ?_, hQ v' w' (owns_cast g2 (by rw [List.length_append]) (by rw [cellsI_append])) g3⟩
    unfold execOp
    simp only [hop, resolve, invoke, builtin, Sem.run_bind, Sem.run_pure, Result.andThen_ok, List.map_toArray, List.map_cons, List.map_nil, es, ey, hr]
end


/-! ### One block's instructions stored anew -/
theorem cellsB_cons (p : Blk × Value) (ps : List (Blk × Value)) : cellsB (p :: ps) = [p.2, .int .u8 p.1.e.k, .int .i64 p.1.e.a, .int .i64 p.1.e.to, .int .i64 p.1.e.el] ++ cellsB ps := by simp [cellsB]
theorem cellsB_set : ∀ (ps : List (Blk × Value)) (j : Nat) (is : List Ins) (u : Value) (hj : j < ps.length), cellsB (ps.set j (⟨is, ps[j].1.e⟩, u)) = (cellsB ps).set (j * 5) u
  | [], j, _, _, hj => by simp at hj
  | p :: ps, 0, is, u, _ => by
    rw [List.set_cons_zero, cellsB_cons, cellsB_cons]
    rfl
  | p :: ps, j + 1, is, u, hj => by
    have hj' : j < ps.length := by simpa using hj
    rw [List.set_cons_succ, cellsB_cons, cellsB_cons, show (p :: ps)[j + 1] = ps[j] from rfl, cellsB_set ps j is u hj', show (j + 1) * 5 = 5 + j * 5 by omega]
    rw [List.set_append_right _ _ (by simp)]
    simp
theorem rowB_set {B : Nat} {w : World} {g n cap : Nat} {ps : List (Blk × Value)} (h : w.ownsRow B 82 5 (.slice (some ⟨g, 0, none⟩) n cap) ps.length (cellsB ps)) (j : Nat) (hj : j < ps.length) (is : List Ins) (u : Value) :
    (w.setCell ⟨g, j * 5, none⟩ u).ownsRow B 82 5 (.slice (some ⟨g, 0, none⟩) n cap) (ps.set j (⟨is, ps[j].1.e⟩, u)).length (cellsB (ps.set j (⟨is, ps[j].1.e⟩, u))) := by
  rcases h.2 with ⟨h0, _⟩ | ⟨g', cap', cur, hv, hb, hg, h1, h2, h3, h4⟩
  · simp at h0
  · simp only [Value.slice.injEq, Option.some.injEq, Addr.mk.injEq] at hv
    obtain ⟨⟨rfl, _⟩, rfl, rfl⟩ := hv
    refine ⟨by rw [cellsB_len], .inr ⟨g, cap, _, by rw [List.length_set], hb, heap_setCell_same w g _ _ _ u hg, by rw [List.length_set]; exact h1, h2, by simpa using h3, ?_⟩⟩
    rw [cellsB_set ps j is u hj, List.length_set, ← h4]
    simp [List.take_set]
/-- The blocks, one's instructions stored anew. -/
theorem BlksO.put {B : Nat} {w : World} {g n cap : Nat} {bs : List Blk} (h : BlksO B w (.slice (some ⟨g, 0, none⟩) n cap) bs) (j : Nat) (hj : j < bs.length) {is : List Ins} {u : Value} (hI : InssO B w u is) : BlksO B (w.setCell ⟨g, j * 5, none⟩ u) (.slice (some ⟨g, 0, none⟩) n cap) (bs.set j ⟨is, bs[j].e⟩) := by
  obtain ⟨ps, rfl, h2, h3⟩ := h
  rw [List.length_map] at hj
  obtain ⟨cs, hg⟩ : ∃ cs, w.heap[g]? = some (Obj.cells cs 82 (0, 0)) := by
    rcases h2.2 with ⟨h0, _⟩ | ⟨g', cap', cur, hv, _, hg, _⟩
    · simp at h0
    · simp only [Value.slice.injEq, Option.some.injEq, Addr.mk.injEq] at hv
      obtain ⟨⟨rfl, _⟩, _, _⟩ := hv
      exact ⟨_, hg⟩
  have hk : Keeps T46 w (w.setCell ⟨g, j * 5, none⟩ u) := Keeps.set hg rfl u
  refine ⟨ps.set j (⟨is, ps[j].1.e⟩, u), ?_, rowB_set h2 j hj is u, fun p hp => ?_⟩
  · rw [List.map_set]
    simp
  · rcases List.mem_or_eq_of_mem_set hp with hp | rfl
    · exact (h3 p hp).keeps hk
    · exact hI.keeps hk

section
variable {B g : Nat} {w : World}
theorem BlksO.at {n cap : Nat} {bs : List Blk} (h : BlksO B w (.slice (some ⟨g, 0, none⟩) n cap) bs) (j : Nat) (hj : j < bs.length) : ∃ u, BlkCells w g (j * 5) u bs[j].e ∧ InssO B w u bs[j].ins := by
  obtain ⟨ps, rfl, h2, h3⟩ := h
  rw [List.length_map] at hj
  have hp : ps[j]? = some ps[j] := List.getElem?_eq_getElem hj
  obtain ⟨g0, g1, g2, g3, g4⟩ := cellsB_get ps j _ hp
  have hc : ∀ k x, (cellsB ps)[j * 5 + k]? = some x → w.cell? ⟨g, j * 5 + k, none⟩ = some x := by
    intro k x hx
    have := h2.cells (g := g) rfl _ _ hx
    rwa [Addr.add_lit, Nat.zero_add] at this
  have e : (ps.map (·.1))[j]'(by rw [List.length_map]; exact hj) = ps[j].1 := by simp
  rw [e]
  exact ⟨ps[j].2, ⟨hc 0 _ g0, hc 1 _ g1, hc 2 _ g2, hc 3 _ g3, hc 4 _ g4⟩, h3 _ (List.getElem_mem hj)⟩
theorem BlksO.row {n cap : Nat} {bs : List Blk} (h : BlksO B w (.slice (some ⟨g, 0, none⟩) n cap) bs) : B ≤ g ∧ ∃ cs, w.heap[g]? = some (Obj.cells cs 82 (0, 0)) := by
  obtain ⟨ps, rfl, h2, h3⟩ := h
  rcases h2.2 with ⟨h0, _⟩ | ⟨g', cap', cur, hv, hb, hg, _⟩
  · simp at h0
  · simp only [Value.slice.injEq, Option.some.injEq, Addr.mk.injEq] at hv
    obtain ⟨⟨rfl, _⟩, _, _⟩ := hv
    exact ⟨hb, _, hg⟩
end
end Go.Proofs.Ytbjnhicikkjadaa
