/- Blocks all of whose numbers of registers have been brought below a limit are right of so many registers. -/
import Derived.Test.YtbgedbahabbanaaMod
namespace Go.Proofs.Ytbgedbahabbanaa
open Go.RowKit Ir

theorem ints_mapP {P : Int → Prop} : ∀ (l : List Value), (∀ c ∈ l, ∃ x, c = .int .i64 x ∧ P x) → ∃ xs : List Int, xs.length = l.length ∧ l = xs.map (Value.int .i64) ∧ ∀ x ∈ xs, P x
  | [], _ => ⟨[], rfl, rfl, fun x hx => by simp at hx⟩
  | c :: l, h => by
    obtain ⟨x, hx, hp⟩ := h c (by simp)
    obtain ⟨xs, h1, h2, h3⟩ := ints_mapP l fun c hc => h c (by simp [hc])
    refine ⟨x :: xs, by simp [h1], by rw [hx, h2]; rfl, fun y hy => ?_⟩
    rcases List.mem_cons.1 hy with rfl | hy
    · exact hp
    · exact h3 y hy
section
variable {B B' : Nat} {r : Int} {w w' : World}
theorem ArgsO.fit {v : Value} {xs : List Int} (h : ArgsO B w v xs) (hm : Md B' r w w') {a : Option Addr} {c : Nat} (hv : v = .slice a xs.length c) (hd : ArgsDone r w' a xs.length) : ∃ xs', xs'.length = xs.length ∧ ArgsO B w' v xs' ∧ ∀ x ∈ xs', 0 ≤ x ∧ x < r := by
  rcases h.2 with ⟨rfl, h0⟩ | ⟨g, cap, cur, rfl, hb, hg, hnc, hcm, hcs, ht⟩
  · exact ⟨[], by simpa using h0.symm, ArgsO.nil _ _, fun x hx => by simp at hx⟩
  · obtain ⟨cs', e1, e2, e3⟩ := hm.cells g cur 3 hg
    simp only [Value.slice.injEq] at hv
    obtain ⟨rfl, _, rfl⟩ := hv
    obtain ⟨ys, y1, y2, y3⟩ := ints_mapP (P := fun x => 0 ≤ x ∧ x < r) (cs'.toList.take (xs.length * 1)) (by
      intro c hc
      obtain ⟨j, hj, hjc⟩ := List.mem_iff_getElem.1 hc
      rw [List.length_take] at hj
      have hjc' : cs'[j]? = some c := by
        rw [List.getElem_take] at hjc
        rw [← hjc]
        simp at hj ⊢
      obtain ⟨g', eg, cs2, x, q1, q2, q3, q4⟩ := hd j (by omega)
      simp only [Option.some.injEq, Addr.mk.injEq, and_true] at eg
      subst eg
      rw [e1] at q1
      simp only [Option.some.injEq, Obj.cells.injEq] at q1
      obtain ⟨rfl, _⟩ := q1
      rw [hjc'] at q2
      exact ⟨x, Option.some.inj q2, q3, q4⟩)
    have hl : ys.length = xs.length := by
      have hsz : cs'.toList.length = cap * 1 := by rw [← hcs, ← e2]; simp
      rw [y1, List.length_take, hsz]
      omega
    exact ⟨ys, hl, ⟨by rw [hl, List.length_map]; omega, .inr ⟨g, cap, cs', by rw [hl], hb, e1, by omega, hcm, by rw [e2, hcs], by rw [hl]; exact y2⟩⟩, y3⟩
/-- A row's cells behind. -/
theorem Md.row {g : Nat} {cur cs' : Array Value} {t : TypeId} (hm : Md B' r w w') (hg : w.heap[g]? = some (Obj.cells cur t (0, 0))) (e1 : w'.heap[g]? = some (Obj.cells cs' t (0, 0))) {o : Nat} {c : Value} (hc : cur[o]? = some c) : ∃ c', cs'[o]? = some c' ∧ (may t o = false → c' = c) ∧ (∀ x, c = .int .i64 x → ∃ y, c' = .int .i64 y ∧ (x = 0 → y = 0)) ∧ (∀ a n k, c = .slice a n k → c' = c) := by
  obtain ⟨cs2, c', a1, a2, a3⟩ := hm.at hg hc
  rw [e1] at a1
  simp only [Option.some.injEq, Obj.cells.injEq] at a1
  obtain ⟨rfl, _⟩ := a1
  refine ⟨c', a2, fun hf => ?_, fun x hx => ?_, fun a n k hk => ?_⟩
  · rcases a3 with h | ⟨h, _⟩
    · exact h
    · rw [hf] at h
      cases h
  · rcases a3 with rfl | ⟨_, x', y, h1, h2, h3⟩
    · exact ⟨x, hx, id⟩
    · rw [hx] at h1
      simp only [Value.int.injEq, true_and] at h1
      subst h1
      exact ⟨y, h2, h3.1⟩
  · rcases a3 with h | ⟨_, x', y, h1, _⟩
    · exact h
    · rw [hk] at h1
      cases h1
theorem Sm.of {g o : Nat} {cs' : Array Value} {t : TypeId} (h : Sm t r w' g o) (e1 : w'.heap[g]? = some (Obj.cells cs' t (0, 0))) {c : Value} (hc : cs'[o]? = some c) : ∀ y, c = .int .i64 y → 0 ≤ y ∧ y < r := by
  obtain ⟨cs2, x, q1, q2, q3, q4⟩ := h
  rw [e1] at q1
  simp only [Option.some.injEq, Obj.cells.injEq] at q1
  obtain ⟨rfl, _⟩ := q1
  rw [hc] at q2
  intro y hy
  rw [hy] at q2
  simp only [Option.some.injEq, Value.int.injEq, true_and] at q2
  subst q2
  exact ⟨q3, q4⟩
theorem Sli.of {g o : Nat} {cs' : Array Value} {t : TypeId} {a : Option Addr} {n k : Nat} (h : Sli t w' g o a n k) (e1 : w'.heap[g]? = some (Obj.cells cs' t (0, 0))) : cs'[o]? = some (.slice a n k) := by
  obtain ⟨cs2, q1, q2⟩ := h
  rw [e1] at q1
  simp only [Option.some.injEq, Obj.cells.injEq] at q1
  obtain ⟨rfl, _⟩ := q1
  exact q2
theorem take_get {cs' : Array Value} {m o : Nat} {c : Value} (h : cs'[o]? = some c) (ho : o < m) : (cs'.toList.take m)[o]? = some c := by
  rw [List.getElem?_take, if_pos ho]
  simpa using h
theorem InssO.fit {v : Value} {is : List Ins} {vv : Int} (h : InssO B w v is) (hi : ∀ i ∈ is, inF i vv = 0) (hm : Md B' r w w') {a : Option Addr} {c : Nat} (hv : v = .slice a is.length c) (hd : InssDone r w' a is.length) : ∃ is', is'.length = is.length ∧ InssO B w' v is' ∧ ∀ i ∈ is', inF i r = 0 := by
  obtain ⟨ps, rfl, h2, h3⟩ := h
  rw [List.length_map] at hv hd
  rcases h2.2 with ⟨rfl, h0⟩ | ⟨g, cap, cur, rfl, hb, hg, hnc, hcm, hcs, ht⟩
  · exact ⟨[], by simpa using h0.symm, InssO.nil _ _, fun x hx => by simp at hx⟩
  · simp only [Value.slice.injEq] at hv
    obtain ⟨rfl, _, rfl⟩ := hv
    obtain ⟨cs', e1, e2, _⟩ := hm.cells g cur 46 hg
    have hlen : (cs'.toList.take (ps.length * 7)).length = ps.length * 7 := by
      have hsz : cs'.toList.length = cap * 7 := by rw [← hcs, ← e2]; simp
      rw [List.length_take, hsz]
      have := Nat.mul_le_mul_right 7 hnc
      omega
    have hcur : ∀ (o : Nat) (x : Value), (cellsI ps)[o]? = some x → cur[o]? = some x := by
      intro o x hx
      rw [← ht, List.getElem?_take] at hx
      split at hx
      · simpa using hx
      · cases hx
    obtain ⟨qs, q1, q2, q3⟩ := split7 (fun p => ArgsO B w' p.2 p.1.args ∧ inF p.1 r = 0) ps.length _ hlen (by
      intro j hj
      have hp : ps[j]? = some ps[j] := List.getElem?_eq_getElem hj
      obtain ⟨g0, g1, g2, g3, g4, g5, g6⟩ := cellsI_get ps j _ hp
      obtain ⟨c0, x0, y0, _⟩ := hm.row hg e1 (hcur _ _ g0)
      obtain ⟨c1, x1, y1, _⟩ := hm.row hg e1 (hcur _ _ g1)
      obtain ⟨c2, x2, _, y2, _⟩ := hm.row hg e1 (hcur _ _ g2)
      obtain ⟨c3, x3, _, y3, _⟩ := hm.row hg e1 (hcur _ _ g3)
      obtain ⟨c4, x4, _, y4, _⟩ := hm.row hg e1 (hcur _ _ g4)
      obtain ⟨c5, x5, y5, _⟩ := hm.row hg e1 (hcur _ _ g5)
      obtain ⟨c6, x6, _, _, y6⟩ := hm.row hg e1 (hcur _ _ g6)
      have m0 : may 46 (j * 7) = false := by simp [may]
      have m1 : may 46 (j * 7 + 1) = false := by simp [may]
      have m5 : may 46 (j * 7 + 5) = false := by simp [may]
      have z0 := y0 m0
      have z1 := y1 m1
      have z5 := y5 m5
      subst z0 z1 z5
      obtain ⟨d', rfl, hd0⟩ := y2 _ rfl
      obtain ⟨a', rfl, ha0⟩ := y3 _ rfl
      obtain ⟨b', rfl, hb0⟩ := y4 _ rfl
      obtain ⟨g', eg, s2, s3, s4, ua, un, uc, sl, ad⟩ := hd j (by omega)
      simp only [Option.some.injEq, Addr.mk.injEq, and_true] at eg
      subst eg
      have hA := h3 _ (List.getElem_mem hj)
      obtain ⟨ua', uc', hsl⟩ := hA.v.slice
      have z6 := y6 _ _ _ hsl
      subst z6
      have hs6 := sl.of e1
      rw [x6] at hs6
      have hs6 := Option.some.inj hs6
      rw [hsl] at hs6
      simp only [Value.slice.injEq] at hs6
      obtain ⟨rfl, rfl, rfl⟩ := hs6
      obtain ⟨args', l1, l2, l3⟩ := hA.fit hm hsl ad
      have hin := hi ps[j].1 (List.mem_map_of_mem (List.getElem_mem hj))
      have hf := inF_fit (d' := d') (a' := a') (b' := b') (r := r) (args' := args') hin hd0 ha0 hb0 (s2.of e1 x2 _ rfl) (s3.of e1 x3 _ rfl) (s4.of e1 x4 _ rfl) l1 l3
      exact ⟨(⟨ps[j].1.k, ps[j].1.op, d', a', b', ps[j].1.n, args'⟩, ps[j].2), ⟨l2, hf⟩, take_get x0 (by omega), take_get x1 (by omega), take_get x2 (by omega), take_get x3 (by omega), take_get x4 (by omega), take_get x5 (by omega), take_get x6 (by omega)⟩)
    refine ⟨qs.map (·.1), by simp [q1], ⟨qs, rfl, ⟨by rw [cellsI_len], .inr ⟨g, cap, cs', by rw [q1], hb, e1, by omega, hcm, by rw [e2, hcs], by rw [q1]; exact q2⟩⟩, fun p hp => (q3 p hp).1⟩, fun i hi' => ?_⟩
    obtain ⟨p, hp, rfl⟩ := List.mem_map.1 hi'
    exact (q3 p hp).2
theorem BlksO.fit {v : Value} {bs : List Blk} {vv nb : Int} (s : Int) (h : BlksO B w v bs) (hbs : ∀ b ∈ bs, (blkF b vv nb).1 = 0) (hm : Md B' r w w') {g0 c0 : Nat} (hv : v = .slice (some ⟨g0, 0, none⟩) bs.length c0) (hd : ∀ j, j < bs.length → BlkDone r w' g0 (j * 5)) :
    ∃ bs', bs'.length = bs.length ∧ BlksO B w' v bs' ∧ ∀ b ∈ bs', (mbF b r s nb).1 = 0 ∧ b.ins.length ≤ 32 := by
  obtain ⟨ps, rfl, h2, h3⟩ := h
  rw [List.length_map] at hv hd
  rcases h2.2 with ⟨rfl, h0⟩ | ⟨g, cap, cur, rfl, hb, hg, hnc, hcm, hcs, ht⟩
  · simp at hv
  · simp only [Value.slice.injEq, Option.some.injEq, Addr.mk.injEq, and_true] at hv
    obtain ⟨rfl, _, rfl⟩ := hv
    obtain ⟨cs', e1, e2, _⟩ := hm.cells g cur 41 hg
    have hlen : (cs'.toList.take (ps.length * 5)).length = ps.length * 5 := by
      have hsz : cs'.toList.length = cap * 5 := by rw [← hcs, ← e2]; simp
      rw [List.length_take, hsz]
      have := Nat.mul_le_mul_right 5 hnc
      omega
    have hcur : ∀ (o : Nat) (x : Value), (cellsB ps)[o]? = some x → cur[o]? = some x := by
      intro o x hx
      rw [← ht, List.getElem?_take] at hx
      split at hx
      · simpa using hx
      · cases hx
    obtain ⟨qs, q1, q2, q3⟩ := split5 (fun p => InssO B w' p.2 p.1.ins ∧ (mbF p.1 r s nb).1 = 0 ∧ p.1.ins.length ≤ 32) ps.length _ hlen (by
      intro j hj
      have hp : ps[j]? = some ps[j] := List.getElem?_eq_getElem hj
      obtain ⟨g0, g1, g2, g3, g4⟩ := cellsB_get ps j _ hp
      obtain ⟨c0, x0, _, _, y0⟩ := hm.row hg e1 (hcur _ _ g0)
      obtain ⟨c1, x1, y1, _⟩ := hm.row hg e1 (hcur _ _ g1)
      obtain ⟨c2, x2, _, y2, _⟩ := hm.row hg e1 (hcur _ _ g2)
      obtain ⟨c3, x3, y3, _⟩ := hm.row hg e1 (hcur _ _ g3)
      obtain ⟨c4, x4, y4, _⟩ := hm.row hg e1 (hcur _ _ g4)
      have m1 : may 41 (j * 5 + 1) = false := by simp [may]
      have m3 : may 41 (j * 5 + 3) = false := by simp [may]
      have m4 : may 41 (j * 5 + 4) = false := by simp [may]
      have z1 := y1 m1
      have z3 := y3 m3
      have z4 := y4 m4
      subst z1 z3 z4
      obtain ⟨a', rfl, ha0⟩ := y2 _ rfl
      obtain ⟨s2, ua, un, uc, sl, ad⟩ := hd j hj
      have hI := h3 _ (List.getElem_mem hj)
      obtain ⟨ua', uc', hsl⟩ := hI.v.slice
      have z0 := y0 _ _ _ hsl
      subst z0
      have hs0 := sl.of e1
      rw [x0] at hs0
      have hs0 := Option.some.inj hs0
      rw [hsl] at hs0
      simp only [Value.slice.injEq] at hs0
      obtain ⟨rfl, rfl, rfl⟩ := hs0
      obtain ⟨k1, k2, k3⟩ := blkF_all (hbs ps[j].1 (List.mem_map_of_mem (List.getElem_mem hj)))
      obtain ⟨is', l1, l2, l3⟩ := hI.fit k2 hm hsl ad
      have he := endF_fit (a' := a') (r := r) k3 ha0 (s2.of e1 x2 _ rfl)
      refine ⟨(⟨is', ⟨ps[j].1.e.k, a', ps[j].1.e.to, ps[j].1.e.el⟩⟩, ps[j].2), ⟨l2, ?_, by simp only; omega⟩, take_get x0 (by omega), take_get x1 (by omega), take_get x2 (by omega), take_get x3 (by omega), take_get x4 (by omega)⟩
      exact mbF_zero (by simp only; omega) (fun i hi => mF_plain (l3 i hi)) (ofR_zero.2 he))
    refine ⟨qs.map (·.1), by simp [q1], ⟨qs, rfl, ⟨by rw [cellsB_len], .inr ⟨g, cap, cs', by rw [q1], hb, e1, by omega, hcm, by rw [e2, hcs], by rw [q1]; exact q2⟩⟩, fun p hp => (q3 p hp).1⟩, fun i hi' => ?_⟩
    obtain ⟨p, hp, rfl⟩ := List.mem_map.1 hi'
    exact (q3 p hp).2
end
end Go.Proofs.Ytbgedbahabbanaa
