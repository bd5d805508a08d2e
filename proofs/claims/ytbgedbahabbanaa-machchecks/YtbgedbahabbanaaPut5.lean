/- 'x.Ins = append(append(append([]Ins{}, x.Ins[:k]...), n), x.Ins[k:]...)': what is known while it is done, in whatever order. -/
import Derived.Test.YtbgedbahabbanaaFault
import Derived.Test.YtbgedbahabbanaaRowI
import Derived.Test.YtbgedbahabbanaaFit
import Derived.Test.YtbgedbahabbanaaClos
namespace Go.Proofs.Ytbgedbahabbanaa
open Go.RowKit Ir

theorem run_cut1 {ao : Option Addr} {n cap k : Nat} (hk : k ≤ cap) (W : World) : (Instr.sliceAt 36 (.slice ao n cap) none (some (.int .i64 (k : Int))) none).run Try.prog W = .ok (.slice ao k cap) W := by
  have h0 : (0 : Int) ≤ (k : Int) := by omega
  have h1 : (k : Int) ≤ (cap : Int) := by omega
  go_simp
theorem run_cut2 {ao : Option Addr} {n cap k : Nat} (hk : k ≤ n) (W : World) : (Instr.sliceAt 36 (.slice ao n cap) (some (.int .i64 (k : Int))) none none).run Try.prog W = .ok (.slice (if cap = k then ao else ao.map (·.add (k * 7))) (n - k) (cap - k)) W := by
  have h0 : (0 : Int) ≤ (k : Int) := by omega
  have h1 : (k : Int) ≤ (n : Int) := by omega
  go_simp
theorem cellsI_append (ps qs : List (Ins × Value)) : cellsI (ps ++ qs) = cellsI ps ++ cellsI qs := by simp [cellsI]
/-- A slice that leads to such instructions, with their arguments' values. -/
def SrcI (W : World) (src : Value) (ps : List (Ins × Value)) : Prop := (src = .slice none 0 0 ∧ ps = []) ∨ ∃ ad c, src = .slice (some ad) ps.length c ∧ ∀ k u, (cellsI ps)[k]? = some u → W.cell? (ad.add k) = some u
section
variable {B : Nat} {W W' : World}
theorem SrcI.below {src : Value} {ps : List (Ins × Value)} (h : SrcI W src ps) (hb : Below W.heap.size W W') : SrcI W' src ps := by
  rcases h with h | ⟨ad, c, h1, h2⟩
  · exact .inl h
  · refine .inr ⟨ad, c, h1, fun k u hk => ?_⟩
    have h3 := h2 k u hk
    generalize ad.add k = q at h3 ⊢
    have hs := World.cell?_spot h3
    obtain ⟨b, o, sp⟩ := q
    simp only at hs
    subst hs
    exact cell_below hb h3
theorem SrcI.cut1 {ao : Option Addr} {n cap k : Nat} {ps : List (Ins × Value)} (h : W.ownsRow B 46 7 (.slice ao n cap) ps.length (cellsI ps)) (hk : k ≤ ps.length) : SrcI W (.slice ao k cap) (ps.take k) ∧ k ≤ cap := by
  rcases h.2 with ⟨h0, h1⟩ | ⟨g, c, cur, hv, _, hg, hnc, _⟩
  · simp only [Value.slice.injEq] at h0
    obtain ⟨rfl, rfl, rfl⟩ := h0
    have : k = 0 := by omega
    subst this
    exact ⟨.inl ⟨rfl, by simp⟩, by omega⟩
  · simp only [Value.slice.injEq] at hv
    obtain ⟨rfl, rfl, rfl⟩ := hv
    refine ⟨.inr ⟨_, _, by rw [List.length_take, Nat.min_eq_left hk], fun j u hj => ?_⟩, by omega⟩
    refine h.cells (g := g) rfl j u ?_
    rw [← List.take_append_drop k ps, cellsI_append, List.getElem?_append_left]
    · exact hj
    · rcases Nat.lt_or_ge j (cellsI (ps.take k)).length with h' | h'
      · exact h'
      · rw [List.getElem?_eq_none h'] at hj
        cases hj
theorem SrcI.cut2 {ao : Option Addr} {n cap k : Nat} {ps : List (Ins × Value)} (h : W.ownsRow B 46 7 (.slice ao n cap) ps.length (cellsI ps)) (hk : k ≤ ps.length) : SrcI W (.slice (if cap = k then ao else ao.map (·.add (k * 7))) (n - k) (cap - k)) (ps.drop k) ∧ k ≤ n := by
  rcases h.2 with ⟨h0, h1⟩ | ⟨g, c, cur, hv, _, hg, hnc, _⟩
  · simp only [Value.slice.injEq] at h0
    obtain ⟨rfl, rfl, rfl⟩ := h0
    have : k = 0 := by omega
    subst this
    refine ⟨.inl ⟨by simp, ?_⟩, by omega⟩
    rw [List.drop_zero]
    exact List.eq_nil_of_length_eq_zero h1
  · simp only [Value.slice.injEq] at hv
    obtain ⟨rfl, rfl, rfl⟩ := hv
    refine ⟨.inr ?_, hk⟩
    by_cases e : cap = k
    · rw [if_pos e]
      refine ⟨_, _, by rw [List.length_drop], fun j u hj => ?_⟩
      have : ps.drop k = [] := by rw [List.drop_eq_nil_iff]; omega
      rw [this] at hj
      simp [cellsI] at hj
    · rw [if_neg e, Option.map_some]
      refine ⟨_, _, by rw [List.length_drop], fun j u hj => ?_⟩
      have := h.cells (g := g) rfl (k * 7 + j) u (by
        rw [← List.take_append_drop k ps, cellsI_append, List.getElem?_append_right (by rw [cellsI_len, List.length_take]; omega), cellsI_len, List.length_take, Nat.min_eq_left hk, Nat.add_sub_cancel_left]
        exact hj)
      rw [Addr.add_lit] at this
      rw [Addr.add_lit, Addr.add_lit]
      simpa [Nat.add_assoc] using this
/-- 'append(v, src...)', v the call's own. -/
theorem appI_ok {a : Act} {o : Oper} {s y : Operand} {v src : Value} {qs ps : List (Ins × Value)} {Q : Value → World → Prop} (hop : o.op = .call { callee := .builtin .append, args := #[s, y], argTypes := #[36, 36] }) (es : a.eval s = v) (ey : a.eval y = src)
    (hown : W.ownsRow B 46 7 v qs.length (cellsI qs)) (hsrc : SrcI W src ps) (h1 : ∀ p ∈ ps, ∃ a n c, p.2 = .slice a n c) (hl : qs.length + ps.length ≤ 1000000) (hB : B ≤ W.heap.size)
    (hQ : ∀ v' w', w'.ownsRow B 46 7 v' (qs ++ ps).length (cellsI (qs ++ ps)) → W.grownBy w' v.ownBlock → Q v' w') : ∃ v' w', (execOp a.eval o).run Try.prog W = .ok (.value v') w' ∧ Q v' w' := by
  obtain ⟨i, hi, hz, hsize, hby⟩ := info_parts info46
  rcases hsrc with ⟨rfl, rfl⟩ | ⟨ad, c, rfl, hc⟩
  · have hr := run_append_owned_none (P := Try.prog) (w := W) B 36 o.type 46 i 7 Try.underlying36 hi v _ _ hown
    refine ⟨v, W, ?_, hQ v W (by rw [List.append_nil]; exact hown) (grown_below (Below.refl _ _) _)⟩
    unfold execOp
    simp only [hop, resolve, invoke, builtin, Sem.run_bind, Sem.run_pure, Result.andThen_ok, List.map_toArray, List.map_cons, List.map_nil, es, ey, hr]
  · obtain ⟨v', w', hr, g2, g3, _⟩ := run_append_own (P := Try.prog) W B 36 o.type 46 i _ 7 64 Try.underlying36 hi hz hsize hby rfl (by decide) v _ _ hown ad ps.length c (cellsI ps) (cellsI_len ps) hc (cellsI_one h1) (by unfold maxLen; omega) (by omega) hB
    refine ⟨v', w', ?_, hQ v' w' (owns_cast g2 (by rw [List.length_append]) (by rw [cellsI_append])) g3⟩
    unfold execOp
    simp only [hop, resolve, invoke, builtin, Sem.run_bind, Sem.run_pure, Result.andThen_ok, List.map_toArray, List.map_cons, List.map_nil, es, ey, hr]
end

/-- What is known of each temporary. -/
def G32 (B3 g jo kk : Nat) (ui c1 c2 : Value) (X : Ins) (ps : List (Ins × Value)) (l : Nat → Bool) : Tmp → Value → World → Prop
  | 212, xx, _ => xx = .pointer (some ⟨g, jo, none⟩)
  | 213, xx, ww => l 8 = false → ∃ h, xx = .slice (some ⟨h, 0, none⟩) 0 0 ∧ B3 ≤ h ∧ ww.heap[h]? = some (Obj.cells #[] 46 (0, 0))
  | 214, xx, _ => xx = .pointer (some ⟨g, jo, none⟩)
  | 215, xx, _ => xx = .pointer (some ⟨g, jo, none⟩)
  | 216, xx, _ => xx = .pointer (some ⟨g, jo, none⟩)
  | 217, xx, _ => xx = ui
  | 218, xx, _ => xx = .int .i64 (kk : Nat)
  | 219, xx, _ => xx = c1
  | 220, xx, ww => l 8 = true → l 11 = false → ww.ownsRow B3 46 7 xx (ps.take kk).length (cellsI (ps.take kk))
  | 221, xx, _ => xx = insV X (.slice none 0 0)
  | 222, xx, ww => l 11 = false → ∃ h, xx = .slice (some ⟨h, 0, none⟩) 1 1 ∧ B3 ≤ h ∧ ww.heap[h]? = some (Obj.cells (rowI X (.slice none 0 0)) 46 (0, 0))
  | 223, xx, ww => l 11 = true → l 18 = false → ww.ownsRow B3 46 7 xx (ps.take kk ++ [(X, Value.slice none 0 0)]).length (cellsI (ps.take kk ++ [(X, Value.slice none 0 0)]))
  | 224, xx, _ => xx = .pointer (some ⟨g, jo, none⟩)
  | 225, xx, _ => xx = .pointer (some ⟨g, jo, none⟩)
  | 226, xx, _ => xx = .pointer (some ⟨g, jo, none⟩)
  | 227, xx, _ => xx = ui
  | 228, xx, _ => xx = .int .i64 (kk : Nat)
  | 229, xx, _ => xx = c2
  | 230, xx, ww => l 18 = true → l 21 = false → ww.ownsRow B3 46 7 xx ((ps.take kk ++ [(X, Value.slice none 0 0)]) ++ ps.drop kk).length (cellsI ((ps.take kk ++ [(X, Value.slice none 0 0)]) ++ ps.drop kk))
  | 231, xx, _ => xx = .pointer (some ⟨g, jo, none⟩)
  | 232, xx, _ => xx = .pointer (some ⟨g, jo, none⟩)
  | _, _, _ => True
/-- What stands in the world. -/
structure S32 (g jo : Nat) (w3 : World) (qs : List (Ins × Value)) (l : Nat → Bool) (W : World) : Prop where
  below : l 21 = false → Below w3.heap.size w3 W
  done : l 21 = true → ∃ W1 v, Below w3.heap.size w3 W1 ∧ W1.ownsRow w3.heap.size 46 7 v qs.length (cellsI qs) ∧ W = W1.setCell ⟨g, jo, none⟩ v
theorem S32.skip {g jo : Nat} {w3 : World} {qs : List (Ins × Value)} {l : Nat → Bool} {W : World} (h : S32 g jo w3 qs l W) {i : Nat} (hi : i ≠ 21) : S32 g jo w3 qs (upd l i) W := by
  have u : upd l i 21 = l 21 := if_neg (fun e => hi e.symm)
  exact ⟨by rw [u]; exact h.below, by rw [u]; exact h.done⟩
section
variable {B3 g jo kk : Nat} {ui c1 c2 : Value} {X : Ins} {ps : List (Ins × Value)} {l : Nat → Bool} {t : Tmp} {y : Value} {W W' : World}
theorem G32_mono {j : Nat} (h : G32 B3 g jo kk ui c1 c2 X ps l t y W) (h8 : j ≠ 8) (h11 : j ≠ 11) (h18 : j ≠ 18) (h21 : j ≠ 21) (hb : Below W.heap.size W W') : G32 B3 g jo kk ui c1 c2 X ps (upd l j) t y W' := by
  have u8 : upd l j 8 = l 8 := if_neg (fun e => h8 e.symm)
  have u11 : upd l j 11 = l 11 := if_neg (fun e => h11 e.symm)
  have u18 : upd l j 18 = l 18 := if_neg (fun e => h18 e.symm)
  have u21 : upd l j 21 = l 21 := if_neg (fun e => h21 e.symm)
  have hk : ∀ (q : Nat) (cs : Array Value) (e : TypeId), W.heap[q]? = some (Obj.cells cs e (0, 0)) → W'.heap[q]? = some (Obj.cells cs e (0, 0)) := fun q cs e hq => Keeps.below (T := fun _ => true) hb q cs e (0, 0) rfl hq
  unfold G32 at h ⊢
  split
  all_goals
    first
      | exact h
      | (intro e1; rw [u8] at e1; obtain ⟨q, a1, a2, a3⟩ := h e1; exact ⟨q, a1, a2, hk _ _ _ a3⟩)
      | (intro e1; rw [u11] at e1; obtain ⟨q, a1, a2, a3⟩ := h e1; exact ⟨q, a1, a2, hk _ _ _ a3⟩)
      | (intro e1 e2; rw [u8] at e1; rw [u11] at e2; exact owns_below (h e1 e2) hb)
      | (intro e1 e2; rw [u11] at e1; rw [u18] at e2; exact owns_below (h e1 e2) hb)
      | (intro e1 e2; rw [u18] at e1; rw [u21] at e2; exact owns_below (h e1 e2) hb)
      | trivial
theorem G32_8 {h0 : Nat} (h : G32 B3 g jo kk ui c1 c2 X ps l t y W) (ht : t ≠ 220) (l11 : l 11 = false) (l18 : l 18 = false) (h0r : W.heap[h0]? = some (Obj.cells #[] 46 (0, 0))) (hg : W.grownBy W' (some h0)) : G32 B3 g jo kk ui c1 c2 X ps (upd l 8) t y W' := by
  have u8 : upd l 8 8 = true := rfl
  have u11 : upd l 8 11 = l 11 := rfl
  have u18 : upd l 8 18 = l 18 := rfl
  unfold G32 at h ⊢
  split
  all_goals
    first
      | exact h
      | exact absurd rfl ht
      | (intro e1; rw [u8] at e1; exact absurd e1 (by decide))
      | (intro e1; rw [u11] at e1; obtain ⟨q, a1, a2, a3⟩ := h e1; refine ⟨q, a1, a2, ?_⟩; rw [hg.block q (Array.getElem?_eq_some_iff.1 a3).1 (fun e => by simp only [Option.some.injEq] at e; subst e; rw [h0r] at a3; simp [rowI] at a3)]; exact a3)
      | (intro e1 e2; rw [u11, l11] at e1; exact absurd e1 (by decide))
      | (intro e1 e2; rw [u18, l18] at e1; exact absurd e1 (by decide))
      | trivial
theorem G32_11 (h : G32 B3 g jo kk ui c1 c2 X ps l t y W) (ht : t ≠ 223) (l8 : l 8 = true) (l18 : l 18 = false) : G32 B3 g jo kk ui c1 c2 X ps (upd l 11) t y W' := by
  have u8 : upd l 11 8 = l 8 := rfl
  have u11 : upd l 11 11 = true := rfl
  have u18 : upd l 11 18 = l 18 := rfl
  unfold G32 at h ⊢
  split
  all_goals
    first
      | exact h
      | exact absurd rfl ht
      | (intro e1; rw [u8, l8] at e1; exact absurd e1 (by decide))
      | (intro e1; rw [u11] at e1; exact absurd e1 (by decide))
      | (intro e1 e2; rw [u11] at e2; exact absurd e2 (by decide))
      | (intro e1 e2; rw [u18, l18] at e1; exact absurd e1 (by decide))
      | trivial
theorem G32_18 (h : G32 B3 g jo kk ui c1 c2 X ps l t y W) (ht : t ≠ 230) (l8 : l 8 = true) (l11 : l 11 = true) : G32 B3 g jo kk ui c1 c2 X ps (upd l 18) t y W' := by
  have u8 : upd l 18 8 = l 8 := rfl
  have u11 : upd l 18 11 = l 11 := rfl
  have u18 : upd l 18 18 = true := rfl
  unfold G32 at h ⊢
  split
  all_goals
    first
      | exact h
      | exact absurd rfl ht
      | (intro e1; rw [u8, l8] at e1; exact absurd e1 (by decide))
      | (intro e1; rw [u11, l11] at e1; exact absurd e1 (by decide))
      | (intro e1 e2; rw [u11, l11] at e2; exact absurd e2 (by decide))
      | (intro e1 e2; rw [u18] at e2; exact absurd e2 (by decide))
      | trivial
theorem G32_21 (h : G32 B3 g jo kk ui c1 c2 X ps l t y W) (l8 : l 8 = true) (l11 : l 11 = true) (l18 : l 18 = true) : G32 B3 g jo kk ui c1 c2 X ps (upd l 21) t y W' := by
  have u8 : upd l 21 8 = l 8 := rfl
  have u11 : upd l 21 11 = l 11 := rfl
  have u18 : upd l 21 18 = l 18 := rfl
  have u21 : upd l 21 21 = true := rfl
  unfold G32 at h ⊢
  split
  all_goals
    first
      | exact h
      | (intro e1; rw [u8, l8] at e1; exact absurd e1 (by decide))
      | (intro e1; rw [u11, l11] at e1; exact absurd e1 (by decide))
      | (intro e1 e2; rw [u11, l11] at e2; exact absurd e2 (by decide))
      | (intro e1 e2; rw [u18, l18] at e2; exact absurd e2 (by decide))
      | (intro e1 e2; rw [u21] at e2; exact absurd e2 (by decide))
      | trivial
end

/-! ### One block's instructions stored anew -/
theorem cellsB_cons (p : Blk × Value) (ps : List (Blk × Value)) : cellsB (p :: ps) = [p.2, .int .u8 p.1.e.k, .int .i64 p.1.e.a, .int .i64 p.1.e.to, .int .i64 p.1.e.el] ++ cellsB ps := by simp [cellsB]
theorem cellsB_set : ∀ (ps : List (Blk × Value)) (j : Nat) (is : List Ins) (u : Value) (hj : j < ps.length), cellsB (ps.set j (⟨is, ps[j].1.e⟩, u)) = (cellsB ps).set (j * 5) u
  | [], j, _, _, hj => by simp at hj
  | p :: ps, 0, is, u, _ => by
    rw [List.set_cons_zero, cellsB_cons, cellsB_cons]
    rfl
  | p :: ps, j + 1, is, u, hj => by
    have hj' : j < ps.length := by simpa using hj
    rw [List.set_cons_succ, cellsB_cons, cellsB_cons, show (p :: ps)[j + 1] = ps[j] from rfl, cellsB_set ps j is u hj', show (j + 1) * 5 = 5 + j * 5 by omega]
    rw [List.set_append_right _ _ (by simp)]
    simp
theorem rowB_set {B : Nat} {w : World} {g n cap : Nat} {ps : List (Blk × Value)} (h : w.ownsRow B 41 5 (.slice (some ⟨g, 0, none⟩) n cap) ps.length (cellsB ps)) (j : Nat) (hj : j < ps.length) (is : List Ins) (u : Value) :
    (w.setCell ⟨g, j * 5, none⟩ u).ownsRow B 41 5 (.slice (some ⟨g, 0, none⟩) n cap) (ps.set j (⟨is, ps[j].1.e⟩, u)).length (cellsB (ps.set j (⟨is, ps[j].1.e⟩, u))) := by
  rcases h.2 with ⟨h0, _⟩ | ⟨g', cap', cur, hv, hb, hg, h1, h2, h3, h4⟩
  · simp at h0
  · simp only [Value.slice.injEq, Option.some.injEq, Addr.mk.injEq] at hv
    obtain ⟨⟨rfl, _⟩, rfl, rfl⟩ := hv
    refine ⟨by rw [cellsB_len], .inr ⟨g, cap, _, by rw [List.length_set], hb, heap_setCell_same w g _ _ _ u hg, by rw [List.length_set]; exact h1, h2, by simpa using h3, ?_⟩⟩
    rw [cellsB_set ps j is u hj, List.length_set, ← h4]
    simp [List.take_set]
/-- The blocks, one's instructions stored anew. -/
theorem BlksO.put {B : Nat} {w : World} {g n cap : Nat} {bs : List Blk} (h : BlksO B w (.slice (some ⟨g, 0, none⟩) n cap) bs) (j : Nat) (hj : j < bs.length) {is : List Ins} {u : Value} (hI : InssO B w u is) : BlksO B (w.setCell ⟨g, j * 5, none⟩ u) (.slice (some ⟨g, 0, none⟩) n cap) (bs.set j ⟨is, bs[j].e⟩) := by
  obtain ⟨ps, rfl, h2, h3⟩ := h
  rw [List.length_map] at hj
  obtain ⟨cs, hg⟩ : ∃ cs, w.heap[g]? = some (Obj.cells cs 41 (0, 0)) := by
    rcases h2.2 with ⟨h0, _⟩ | ⟨g', cap', cur, hv, _, hg, _⟩
    · simp at h0
    · simp only [Value.slice.injEq, Option.some.injEq, Addr.mk.injEq] at hv
      obtain ⟨⟨rfl, _⟩, _, _⟩ := hv
      exact ⟨_, hg⟩
  have hk : Keeps T46 w (w.setCell ⟨g, j * 5, none⟩ u) := Keeps.set hg rfl u
  refine ⟨ps.set j (⟨is, ps[j].1.e⟩, u), ?_, rowB_set h2 j hj is u, fun p hp => ?_⟩
  · rw [List.map_set]
    simp
  · rcases List.mem_or_eq_of_mem_set hp with hp | rfl
    · exact (h3 p hp).keeps hk
    · exact hI.keeps hk
end Go.Proofs.Ytbgedbahabbanaa
