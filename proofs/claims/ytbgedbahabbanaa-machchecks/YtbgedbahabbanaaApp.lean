/- One more behind a row of the call's own: what else lies there is of its kind. -/
import Derived.Test.YtbgedbahabbanaaSoft
import Derived.Test.YtbgedbahabbanaaMade1
namespace Go.Proofs.Ytbgedbahabbanaa
open Go.RowKit Ir

theorem Keeps.alloc' {w : World} (o : Obj) : Keeps (fun _ => true) w (w.drew.alloc o) := by
  intro g cs t fr _ h0
  rw [Below.heap_alloc _ _ _ (by have := (Array.getElem?_eq_some_iff.1 h0).1; exact this)]
  exact h0
theorem run_app_gen {B : Nat} (w : World) (t ty e : TypeId) (i : TypeInfo) (z : Value) (size bytes : Nat) (ht : Try.prog.underlying t = some (.slice e)) (hi : Try.prog.info? e = some i) (hz : i.zero = some z) (hsize : i.size = size) (hby : i.bytes = bytes) (hzs : z.cells.size = size) (hsz : 0 < size)
    (v : Value) (n : Nat) (xs : List Value) (hown : w.ownsRow B e size v n xs) (a : Addr) (c : Nat) (news : List Value) (hl : news.length = 1 * size) (hnews : ∀ j u, news[j]? = some u → w.cell? (a.add j) = some u) (h1 : ∀ u ∈ news, u.oneCell' = true)
    (hn : n ≤ 1000000) (hbb : bytes ≤ 1000) (hB : B ≤ w.heap.size) (hT : ∀ W k x, news[k]? = some x → Typed B W e (n * size + k) x) :
    ∃ v' w', (Builtin.append_ #[t, t] ty #[v, .slice (some a) 1 c]).run Try.prog w = .ok v' w' ∧ w'.ownsRow B e size v' (n + 1) (xs ++ news) ∧ w.grownBy w' v.ownBlock ∧ Soft B w w' := by
  have hbytes : (n + 1) * bytes ≤ 140737488355328 := by
    have : (n + 1) * bytes ≤ 1000001 * 1000 := Nat.mul_le_mul (by omega) hbb
    omega
  obtain ⟨v', w', hr, h2, h3, _⟩ := run_append_own (P := Try.prog) w B t ty e i z size bytes ht hi hz hsize hby hzs hsz v n xs hown a 1 c news hl hnews h1 (by unfold maxLen; omega) hbytes hB
  refine ⟨v', w', hr, h2, h3, ?_⟩
  subst hsize
  subst hby
  rcases hown.2 with ⟨rfl, rfl⟩ | ⟨g, cap, cur, rfl, hbg, hg, hnc, hcm, hcs, htake⟩
  · refine Soft.keeps fun g cs t fr _ h0 => ?_
    rw [h3.block g (Array.getElem?_eq_some_iff.1 h0).1 (by simp [Value.ownBlock])]
    exact h0
  · by_cases hroom : n + 1 ≤ cap
    · have hfit : n * i.size + news.length ≤ cur.size := by
        rw [hl, hcs, ← Nat.add_mul]
        exact Nat.mul_le_mul_right _ hroom
      have hr2 := run_append_room (P := Try.prog) w t ty e i ht hi g n cap cur hg a 1 c news hl hnews h1 hroom hfit
      rw [hr2] at hr
      simp only [Result.ok.injEq] at hr
      obtain ⟨_, rfl⟩ := hr
      intro g' cs' t' hg' h'
      by_cases eg : g' = g
      · subst eg
        rw [hg] at h'
        simp only [Option.some.injEq, Obj.cells.injEq] at h'
        obtain ⟨rfl, rfl, _⟩ := h'
        refine ⟨_, setRow_heap w g' cur _ e _ hg, ?_, fun j x hx => ?_⟩
        · simp only [List.size_toArray, List.length_append, List.length_take, List.length_drop, Array.length_toList]
          omega
        · have hxl : (cur.toList.take (n * i.size) ++ news ++ cur.toList.drop (n * i.size + news.length))[j]? = some x := by simpa using hx
          have htl : (cur.toList.take (n * i.size)).length = n * i.size := by rw [List.length_take, Array.length_toList]; omega
          by_cases j1 : j < n * i.size
          · left
            rw [List.append_assoc, List.getElem?_append_left (by omega), List.getElem?_take, if_pos j1] at hxl
            simpa using hxl
          · by_cases j2 : j < n * i.size + news.length
            · right
              rw [List.append_assoc, List.getElem?_append_right (by omega), htl, List.getElem?_append_left (by omega)] at hxl
              have := hT (w.setRow g' (cur.toList.take (n * i.size) ++ news ++ cur.toList.drop (n * i.size + news.length)).toArray) (j - n * i.size) x hxl
              rwa [show n * i.size + (j - n * i.size) = j from by omega] at this
            · left
              rw [List.getElem?_append_right (by rw [List.length_append, htl]; omega), List.length_append, htl, List.getElem?_drop] at hxl
              rw [show n * i.size + news.length + (j - (n * i.size + news.length)) = j from by omega] at hxl
              simpa using hxl
      · refine ⟨cs', ?_, rfl, fun _ _ h => .inl h⟩
        rw [setRow_other w g g' _ eg]
        exact h'
    · have holds : ∀ j u, xs[j]? = some u → w.cell? ((⟨g, 0, none⟩ : Addr).add j) = some u := hown.cells (g := g) rfl
      have hr2 := run_append_grow (P := Try.prog) w t ty e i z ht hi hz ⟨g, 0, none⟩ n cap xs hown.1 holds a 1 c news hl hnews (by omega) (by omega) (growslice_fits (by omega) hbytes)
      rw [hr2] at hr
      simp only [Result.ok.injEq] at hr
      obtain ⟨_, rfl⟩ := hr
      exact Soft.keeps (Keeps.alloc' _)

/-- One number more. -/
theorem run_app3 {B : Nat} (w : World) (ty : TypeId) {ua : Value} {xs : List Int} (hO : ArgsO B w ua xs) {h : Nat} {x : Int} (hc : w.cell? ⟨h, 0, none⟩ = some (.int .i64 x)) (hl : xs.length ≤ 1000000) (hB : B ≤ w.heap.size) :
    ∃ v' w', (Builtin.append_ #[44, 44] ty #[ua, .slice (some ⟨h, 0, none⟩) 1 1]).run Try.prog w = .ok v' w' ∧ ArgsO B w' v' (xs ++ [x]) ∧ w.grownBy w' ua.ownBlock ∧ Soft B w w' := by
  obtain ⟨i, hi, hz, hsize, hby⟩ := info_parts info3
  obtain ⟨v', w', hr, h2, h3, h4⟩ := run_app_gen (B := B) w 44 ty 3 i (.int .i64 0) 1 8 Try.underlying44 hi hz hsize hby rfl (by decide) ua _ _ hO ⟨h, 0, none⟩ 1 [.int .i64 x] (by simp)
    (by intro j u hj; match j, hj with | 0, hj => simp at hj; subst hj; rw [Addr.add_lit]; exact hc) (by intro u hu; simp at hu; subst hu; rfl) hl (by omega) hB
    (by intro W k y hy; match k, hy with | 0, hy => simp at hy; subst hy; exact ⟨fun _ => ⟨_, rfl⟩, fun h => by simp at h, fun h => by simp at h⟩)
  exact ⟨v', w', hr, owns_cast h2 (by simp) (by simp), h3, h4⟩
theorem typed_row {B : Nat} (W : World) (n : Nat) {x : Ins} {u : Value} (hA : ∀ W, ∃ xs, ArgsO B W u xs) (k : Nat) (c : Value) (hk : (rowI x u).toList[k]? = some c) : Typed B W 46 (n * 7 + k) c := by
  have hk7 : k < 7 := by
    rcases Nat.lt_or_ge k 7 with h | h
    · exact h
    · rw [List.getElem?_eq_none (by simpa [rowI] using h)] at hk
      cases hk
  refine ⟨fun h => by simp at h, fun _ => ⟨fun h => ?_, fun h1 h2 => ?_, fun h => ?_⟩, fun h => by simp at h⟩
  · have : k = 0 ∨ k = 1 := by omega
    rcases this with rfl | rfl <;> (simp [rowI] at hk; exact ⟨_, hk.symm⟩)
  · have : k = 2 ∨ k = 3 ∨ k = 4 ∨ k = 5 := by omega
    rcases this with rfl | rfl | rfl | rfl <;> (simp [rowI] at hk; exact ⟨_, hk.symm⟩)
  · have : k = 6 := by omega
    subst this
    simp [rowI] at hk
    subst hk
    exact hA W
/-- One instruction more, with no arguments. -/
theorem run_app46 {B : Nat} (w : World) (ty : TypeId) {ui : Value} {is : List Ins} (hO : InssO B w ui is) {h : Nat} {x : Ins} (hx : x.args = []) (hh : w.heap[h]? = some (Obj.cells (rowI x (.slice none 0 0)) 46 (0, 0))) (hl : is.length ≤ 1000000) (hB : B ≤ w.heap.size) :
    ∃ v' w', (Builtin.append_ #[36, 36] ty #[ui, .slice (some ⟨h, 0, none⟩) 1 1]).run Try.prog w = .ok v' w' ∧ InssO B w' v' (is ++ [x]) ∧ w.grownBy w' ui.ownBlock ∧ Soft B w w' := by
  obtain ⟨i, hi, hz, hsize, hby⟩ := info_parts info46
  have hO' := hO
  obtain ⟨ps, h1, h2, h3⟩ := hO
  have hlp : ps.length = is.length := by rw [← h1, List.length_map]
  obtain ⟨v', w', hr, g2, g3, g4⟩ := run_app_gen (B := B) w 36 ty 46 i _ 7 64 Try.underlying36 hi hz hsize hby rfl (by decide) ui _ _ h2 ⟨h, 0, none⟩ 1 (rowI x (.slice none 0 0)).toList rfl
    (by intro j c hj; rw [Addr.add_lit, Nat.zero_add, cell_of_row _ _ _ _ _ _ hh]; simpa using hj) (by intro c hc; simp [rowI] at hc; rcases hc with rfl | rfl | rfl | rfl | rfl | rfl | rfl <;> rfl) (by omega) (by omega) hB
    (fun W k c hk => typed_row W ps.length (fun W => ⟨[], ArgsO.nil B W⟩) k c hk)
  exact ⟨v', w', hr, InssO.snoc h1 h3 g2 ((hO'.grown3 g3).weak fun t ht => by simp [T3] at *; subst ht; decide) (by rw [hx]; exact ArgsO.nil B w), g3, g4⟩
end Go.Proofs.Ytbgedbahabbanaa
