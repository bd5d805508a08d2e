/- slices.Clone of instructions: the row is its own, the arguments still the old ones. -/
import Derived.Test.YteidejcaoboejaaMade1
import Derived.Test.YteidejcaoboejaaInts
namespace Go.Proofs.Yteidejcaoboejaa
open Go.RowKit Ir
theorem each_val {P : Nat → Value → Prop} : ∀ n : Nat, (∀ j, j < n → ∃ u, P j u) → ∃ us : List Value, us.length = n ∧ ∀ j (h : j < us.length), P j us[j]
  | 0, _ => ⟨[], rfl, fun j h => by simp at h⟩
  | n + 1, h => by
    obtain ⟨us, h1, h2⟩ := each_val n fun j hj => h j (by omega)
    obtain ⟨u, hu⟩ := h n (by omega)
    refine ⟨us ++ [u], by simp [h1], fun j hj => ?_⟩
    simp only [List.length_append, List.length_cons, List.length_nil] at hj
    by_cases hjn : j < us.length
    · rw [List.getElem_append_left hjn]
      exact h2 j hjn
    · obtain rfl : j = us.length := by omega
      simp only [List.getElem_append_right (Nat.le_refl _), Nat.sub_self, List.getElem_cons_zero]
      rw [h1]
      exact hu
/-- What a row of instructions holds, with the value of each one's arguments. -/
theorem InssV.pairs {w : World} {ad : Addr} {n c : Nat} {is : List Ins} (h : InssV w (.slice (some ad) n c) is) : ∃ ps : List (Ins × Value), ps.map (·.1) = is ∧ (∀ k u, (cellsI ps)[k]? = some u → w.cell? (ad.add k) = some u) ∧ ∀ p ∈ ps, IntsV w p.2 p.1.args := by
  obtain ⟨us, h1, h2⟩ := each_val (P := fun j u => InsCells w ad.block (ad.off + j * 7) (is.getD j Ins.zero) u ∧ IntsV w u (is.getD j Ins.zero).args ∧ ad.spot = none) is.length (fun j hj => by
    obtain ⟨b, off, e, u, hc, hi⟩ := SlV.at h j hj
    simp only [Option.some.injEq] at e
    subst e
    exact ⟨u, hc, hi, rfl⟩)
  refine ⟨is.zip us, List.map_fst_zip (by omega), fun k u hk => ?_, fun p hp => ?_⟩
  · have hkl : k < (cellsI (is.zip us)).length := by
      rcases Nat.lt_or_ge k (cellsI (is.zip us)).length with h | h
      · exact h
      · rw [List.getElem?_eq_none h] at hk
        cases hk
    rw [cellsI_len] at hkl
    have hz : (is.zip us).length = is.length := by simp [h1]
    obtain ⟨j, r, hkj, hr⟩ : ∃ j r, k = j * 7 + r ∧ r < 7 := ⟨k / 7, k % 7, by omega, by omega⟩
    have hj : j < is.length := by omega
    have hju : j < us.length := by omega
    have hp : (is.zip us)[j]? = some (is[j], us[j]) := by rw [List.getElem?_eq_getElem (by omega), List.getElem_zip]
    obtain ⟨⟨c0, c1, c2, c3, c4, c5, c6⟩, _, hs⟩ := h2 j hju
    have hd : is.getD j Ins.zero = is[j] := by simp [hj]
    rw [hd] at c0 c1 c2 c3 c4 c5
    obtain ⟨g0, g1, g2, g3, g4, g5, g6⟩ := cellsI_get _ j _ hp
    obtain ⟨blk, off, sub⟩ := ad
    simp only at hs c0 c1 c2 c3 c4 c5 c6
    subst hs
    rw [Addr.add_lit]
    subst hkj
    rcases (by omega : r = 0 ∨ r = 1 ∨ r = 2 ∨ r = 3 ∨ r = 4 ∨ r = 5 ∨ r = 6) with rfl | rfl | rfl | rfl | rfl | rfl | rfl
    · rw [Nat.add_zero, g0] at hk
      cases hk
      exact c0
    · rw [g1] at hk
      cases hk
      exact c1
    · rw [g2] at hk
      cases hk
      exact c2
    · rw [g3] at hk
      cases hk
      exact c3
    · rw [g4] at hk
      cases hk
      exact c4
    · rw [g5] at hk
      cases hk
      exact c5
    · rw [g6] at hk
      cases hk
      exact c6
  · obtain ⟨j, hj, he⟩ := List.mem_iff_getElem.1 hp
    have hji : j < is.length := by simp at hj; omega
    have hju : j < us.length := by simp at hj; omega
    rw [List.getElem_zip] at he
    subst he
    have := (h2 j hju).2.1
    rw [show is.getD j Ins.zero = is[j] by simp [hji]] at this
    exact this
theorem cellsI_one {ps : List (Ins × Value)} (h : ∀ p ∈ ps, ∃ a n c, p.2 = .slice a n c) : ∀ u ∈ cellsI ps, u.oneCell' = true := by
  intro u hu
  unfold cellsI at hu
  obtain ⟨p, hp, hu⟩ := List.mem_flatMap.1 hu
  obtain ⟨a, n, c, e⟩ := h p hp
  simp only [List.mem_cons, List.not_mem_nil, or_false, e] at hu
  rcases hu with rfl | rfl | rfl | rfl | rfl | rfl | rfl <;> rfl
set_option maxHeartbeats 2000000 in
set_option maxRecDepth 100000 in
theorem cloneI_any (v : Value) (is : List Ins) (w : World) (hv : InssV w v is) (hl : is.length ≤ 1000000) :
    Calls Try.prog 37 #[v] w fun e w' => ∃ u ps, e = .returned u ∧ ps.map (·.1) = is ∧ w'.ownsRow w.heap.size 46 7 u ps.length (cellsI ps) ∧ (∀ p ∈ ps, IntsV w p.2 p.1.args) ∧ Below w.heap.size w w' := by
  obtain ⟨ao, cap, rfl⟩ := hv.slice
  have hcap := SlV.cap hv
  have q36 : ∀ (w : World) (a : Option Addr) (n c n' c' : Nat), (binOp .eql 36 (.slice a n c) (.slice none n' c')).run Try.prog w = .ok (.bool a.isNone) w := fun w a n c n' c' => Lib.run_eql_slice_nil w _ _ a n c n' c' Try.underlying36
  cases ao with
  | none =>
    have hc := hcap.2.2.2 rfl
    have hx : is = [] := List.eq_nil_of_length_eq_zero (by omega)
    subst hx
    subst hc
    clear hv hcap
    go_enter Try.func37, Try.ntmps37
    go_wp2_with fail
    go_ret
    exact ⟨_, [], rfl, rfl, World.ownsRow_nil _ _ _ _, fun p hp => by simp at hp, Below.refl _ _⟩
  | some ad =>
    obtain ⟨i, hi, hz, hsize, hby⟩ := info_parts info46
    obtain ⟨ps, hps, hcells, hargs⟩ := hv.pairs
    have hpl : ps.length = is.length := by rw [← hps, List.length_map]
    have hO : (w.alloc (.cells #[] 46)).ownsRow w.heap.size 46 7 (.slice (some ⟨w.heap.size, 0, none⟩) 0 0) 0 [] := World.ownsRow_made w #[] 0 (Nat.le_refl _) (by simp [maxLen]) (by simp)
    have hB := bel1' w (.cells #[] 46)
    have hz2 : w.heap.size ≤ (w.alloc (.cells #[] 46)).heap.size := hB.size
    have hsub : ad.spot = none ∨ is.length = 0 := by
      rcases Nat.eq_zero_or_pos is.length with h | h
      · exact .inr h
      · obtain ⟨b, off, e, _⟩ := SlV.all hv h
        simp only [Option.some.injEq] at e
        subst e
        exact .inl rfl
    have hcn : ∀ k u, (cellsI ps)[k]? = some u → (w.alloc (.cells #[] 46)).cell? (ad.add k) = some u := by
      intro k u hk
      rcases hsub with h | h
      · obtain ⟨blk, off, sub⟩ := ad
        simp only at h
        subst h
        have := hcells k u hk
        rw [Addr.add_lit] at this ⊢
        exact cell_below hB this
      · have : ps = [] := List.eq_nil_of_length_eq_zero (by omega)
        subst this
        simp [cellsI] at hk
    have h1 := cellsI_one fun p hp => by
      obtain ⟨x, y, e⟩ := (hargs p hp).slice
      exact ⟨_, _, _, e⟩
    have hlen : (cellsI ps).length = is.length * 7 := by rw [cellsI_len, hpl]
    have HPS := hide hps
    have HAR := hide hargs
    have HPL := hide hpl
    have HO := hide hO
    clear hcap hv hps hargs hcells hpl hsub
    go_enter Try.func37, Try.ntmps37
    go_wp2_with (at_builtin; go_must (refine wpList_append_own _ rfl (.tmp 5) (.tmp 6) 36 rfl w.heap.size 46 i (.agg #[.int .u8 0, .int .u8 0, .int .i64 0, .int .i64 0, .int .i64 0, .int .i64 0, .slice none 0 0]) 7 64 Try.underlying36 hi hz hsize hby rfl (by decide) _ _ _ rfl HO.out ad is.length cap (cellsI ps) rfl hlen hcn h1 (by unfold maxLen; omega) (by omega) hz2 ?_))
    intro v' w' hO' hg _
    have hB' := hB.grown hg hz2 (fun k hk => (HO.out.lt k hk).1)
    have hO2 : w'.ownsRow w.heap.size 46 7 v' ps.length (cellsI ps) := owns_cast hO' HPL.out.symm rfl
    clear hO' hg hcn h1 hB hO HO
    go_wp2_with fail
    go_ret
    exact ⟨_, ps, rfl, HPS.out, hO2, HAR.out, hB'⟩
end Go.Proofs.Yteidejcaoboejaa
