/- ExecPlain: rows appended to. -/
import Derived.Test.YtepmbkiojpffpaaAw
import Derived.Test.YtepmbkiojpffpaaBlk
import Derived.Test.YtepmbkiojpffpaaEy
namespace Go.Proofs.Ytepmbkiojpffpaa
open Go.RowKit Ir

theorem app_ins {B : Nat} {W : World} {v src : Value} {qs ps : List (Ins × Value)} (ty : TypeId) (hown : W.ownsRow B 65 7 v qs.length (cellsI qs)) (hsrc : SrcI W src ps) (h1 : ∀ p ∈ ps, ∃ a n c, p.2 = .slice a n c) (hl : qs.length + ps.length ≤ 1000000) (hB : B ≤ W.heap.size) :
    ∃ v' w', (Builtin.append_ #[55, 55] ty #[v, src]).run Try.prog W = .ok v' w' ∧ w'.ownsRow B 65 7 v' (qs ++ ps).length (cellsI (qs ++ ps)) ∧ W.grownBy w' v.ownBlock := by
  obtain ⟨i, hi, hz, hsize, hby⟩ := info_parts info46
  rcases hsrc with ⟨rfl, rfl⟩ | ⟨ad, c, rfl, hc⟩
  · have hr := run_append_owned_none (P := Try.prog) (w := W) B 55 ty 65 i 7 Try.underlying55 hi v _ _ hown
    exact ⟨v, W, hr, by rw [List.append_nil]; exact hown, grown_below (Below.refl _ _) _⟩
  · obtain ⟨v', w', hr, g2, g3, _⟩ := run_append_own (P := Try.prog) W B 55 ty 65 i _ 7 64 Try.underlying55 hi hz hsize hby rfl (by decide) v _ _ hown ad ps.length c (cellsI ps) (cellsI_len ps) hc (cellsI_one h1) (by unfold maxLen; omega) (by omega) hB
    exact ⟨v', w', hr, owns_cast g2 (by rw [List.length_append]) (by rw [cellsI_append]), g3⟩
theorem cellsB_one {ps : List (Blk × Value)} (h : ∀ p ∈ ps, ∃ a n c, p.2 = .slice a n c) : ∀ u ∈ cellsB ps, u.oneCell' = true := by
  intro u hu
  unfold cellsB at hu
  obtain ⟨p, hp, hu⟩ := List.mem_flatMap.1 hu
  obtain ⟨a, n, c, e⟩ := h p hp
  simp [e] at hu
  rcases hu with rfl | rfl | rfl | rfl | rfl <;> rfl
theorem app_blks {B B' g c : Nat} {W : World} {v : Value} {ps : List (Blk × Value)} (ty : TypeId) (hown : W.ownsRow B 60 5 v 0 []) (hrow : W.ownsRow B' 60 5 (.slice (some ⟨g, 0, none⟩) ps.length c) ps.length (cellsB ps)) (h1 : ∀ p ∈ ps, ∃ a n c, p.2 = .slice a n c) (hl : ps.length ≤ 1000) (hB : B ≤ W.heap.size) :
    ∃ v' w', (Builtin.append_ #[29, 29] ty #[v, .slice (some ⟨g, 0, none⟩) ps.length c]).run Try.prog W = .ok v' w' ∧ w'.ownsRow B 60 5 v' ps.length (cellsB ps) ∧ W.grownBy w' v.ownBlock := by
  obtain ⟨i, hi, hz, hsize, hby⟩ := info_parts info41
  obtain ⟨v', w', hr, g2, g3, _⟩ := run_append_own (P := Try.prog) W B 29 ty 60 i _ 5 56 Try.underlying29 hi hz hsize hby rfl (by decide) v _ _ hown ⟨g, 0, none⟩ ps.length c (cellsB ps) (cellsB_len ps) (hrow.cells rfl) (cellsB_one h1) (by unfold maxLen; omega) (by omega) hB
  exact ⟨v', w', hr, owns_cast g2 (by omega) (by simp), g3⟩
def fillP (k : Nat) : List (Ins × Value) := (fills k).map fun i => (i, .slice none 0 0)
theorem fillP_len (k : Nat) : (fillP k).length = k := by simp [fillP, fills_len]
theorem fillP_succ (k : Nat) : fillP (k + 1) = fillP k ++ [(flP k, .slice none 0 0)] := by simp [fillP, fills_succ]
theorem fillP_ins (k : Nat) : (fillP k).map (·.1) = fills k := by
  unfold fillP
  rw [List.map_map]
  simp [Function.comp_def]
theorem fillP_nil {k : Nat} {q : Ins × Value} (h : q ∈ fillP k) : q.2 = .slice none 0 0 ∧ q.1.args = [] := by
  unfold fillP fills at h
  simp only [List.map_map, List.mem_map] at h
  obtain ⟨j, _, rfl⟩ := h
  exact ⟨rfl, rfl⟩
/-- One more fill behind. -/
theorem app_fill {B k : Nat} {W : World} {v : Value} (h : W.ownsRow B 65 7 v k (cellsI (fillP k))) (hk : k ≤ 100) (hB : B ≤ W.heap.size) :
    ∃ v' w', (Builtin.append_ #[55, 55] 55 #[v, .slice (some ⟨W.heap.size, 0, none⟩) 1 1]).run Try.prog (W.alloc (.cells #[.int .u8 8, .int .u8 0, .int .i64 (k : Nat), .int .i64 (k : Nat), .int .i64 0, .int .i64 0, .slice none 0 0] 65)) = .ok v' w' ∧ w'.ownsRow B 65 7 v' (k + 1) (cellsI (fillP (k + 1))) ∧ Below B W w' := by
  have hb := bel1' W (.cells (rowI (flP k) (.slice none 0 0)) 65)
  have hr := heap_alloc_new W (.cells (rowI (flP k) (.slice none 0 0)) 65)
  have h' : (W.alloc (.cells (rowI (flP k) (.slice none 0 0)) 65)).ownsRow B 65 7 v (fillP k).length (cellsI (fillP k)) := owns_cast (owns_below h hb) (fillP_len k).symm rfl
  have hs : SrcI (W.alloc (.cells (rowI (flP k) (.slice none 0 0)) 65)) (.slice (some ⟨W.heap.size, 0, none⟩) 1 1) [(flP k, .slice none 0 0)] := .inr ⟨_, _, rfl, fun j u hj => by rw [Addr.add_lit, Nat.zero_add, cell_of_row _ _ _ _ _ _ hr]; simpa [cellsI, rowI] using hj⟩
  obtain ⟨v', w', g1, g2, g3⟩ := app_ins 55 h' hs (fun p hp => by simp at hp; subst hp; exact ⟨_, _, _, rfl⟩) (by rw [fillP_len]; simp; omega) (Nat.le_trans hB hb.size)
  refine ⟨v', w', g1, owns_cast g2 (by rw [← fillP_succ, fillP_len]) (by rw [fillP_succ]), ?_⟩
  exact (hb.mono hB).grown g3 (Nat.le_trans hB hb.size) (fun q hq => (h'.lt q hq).1)
theorem owns_slice {w : World} {B : Nat} {e : TypeId} {sz : Nat} {v : Value} {n : Nat} {xs : List Value} (h : w.ownsRow B e sz v n xs) : ∃ a m c, v = .slice a m c := by
  rcases h.2 with ⟨rfl, _⟩ | ⟨_, _, _, rfl, _⟩
  · exact ⟨_, _, _, rfl⟩
  · exact ⟨_, _, _, rfl⟩
theorem noz_all {bs : List Blk} (h : ∀ j, j < bs.length → noz (bs.getD j Blk.zero)) : ∀ b ∈ bs, noz b := by
  intro b hb
  obtain ⟨j, hj, rfl⟩ := List.mem_iff_getElem.1 hb
  have := h j hj
  simpa [hj] using this
end Go.Proofs.Ytepmbkiojpffpaa
