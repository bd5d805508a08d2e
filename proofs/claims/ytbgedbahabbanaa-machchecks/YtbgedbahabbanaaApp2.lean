/- Two instructions more behind a row of the call's own: what else lies there is of its kind. -/
import Derived.Test.YtbgedbahabbanaaApp
namespace Go.Proofs.Ytbgedbahabbanaa
open Go.RowKit Ir

theorem run_app_two {B : Nat} (w : World) (t ty e : TypeId) (i : TypeInfo) (z : Value) (size bytes : Nat) (ht : Try.prog.underlying t = some (.slice e)) (hi : Try.prog.info? e = some i) (hz : i.zero = some z) (hsize : i.size = size) (hby : i.bytes = bytes) (hzs : z.cells.size = size) (hsz : 0 < size)
    (v : Value) (n : Nat) (xs : List Value) (hown : w.ownsRow B e size v n xs) (a : Addr) (c : Nat) (news : List Value) (hl : news.length = 2 * size) (hnews : ∀ j u, news[j]? = some u → w.cell? (a.add j) = some u) (h1 : ∀ u ∈ news, u.oneCell' = true)
    (hn : n ≤ 1000000) (hbb : bytes ≤ 1000) (hB : B ≤ w.heap.size) (hT : ∀ W k x, news[k]? = some x → Typed B W e (n * size + k) x) :
    ∃ v' w', (Builtin.append_ #[t, t] ty #[v, .slice (some a) 2 c]).run Try.prog w = .ok v' w' ∧ w'.ownsRow B e size v' (n + 2) (xs ++ news) ∧ w.grownBy w' v.ownBlock ∧ Soft B w w' := by
  have hbytes : (n + 2) * bytes ≤ 140737488355328 := by
    have : (n + 2) * bytes ≤ 1000002 * 1000 := Nat.mul_le_mul (by omega) hbb
    omega
  obtain ⟨v', w', hr, h2, h3, _⟩ := run_append_own (P := Try.prog) w B t ty e i z size bytes ht hi hz hsize hby hzs hsz v n xs hown a 2 c news hl hnews h1 (by unfold maxLen; omega) hbytes hB
  refine ⟨v', w', hr, h2, h3, ?_⟩
  subst hsize
  subst hby
  rcases hown.2 with ⟨rfl, rfl⟩ | ⟨g, cap, cur, rfl, hbg, hg, hnc, hcm, hcs, htake⟩
  · refine Soft.keeps fun g cs t fr _ h0 => ?_
    rw [h3.block g (Array.getElem?_eq_some_iff.1 h0).1 (by simp [Value.ownBlock])]
    exact h0
  · by_cases hroom : n + 2 ≤ cap
    · have hfit : n * i.size + news.length ≤ cur.size := by
        rw [hl, hcs, ← Nat.add_mul]
        exact Nat.mul_le_mul_right _ hroom
      have hr2 := run_append_room (P := Try.prog) w t ty e i ht hi g n cap cur hg a 2 c news hl hnews h1 hroom hfit
      rw [hr2] at hr
      simp only [Result.ok.injEq] at hr
      obtain ⟨_, rfl⟩ := hr
      intro g' cs' t' hg' h'
      by_cases eg : g' = g
      · subst eg
        rw [hg] at h'
        simp only [Option.some.injEq, Obj.cells.injEq] at h'
        obtain ⟨rfl, rfl, _⟩ := h'
        refine ⟨_, setRow_heap w g' cur _ e _ hg, ?_, fun j x hx => ?_⟩
        · simp only [List.size_toArray, List.length_append, List.length_take, List.length_drop, Array.length_toList]
          omega
        · have hxl : (cur.toList.take (n * i.size) ++ news ++ cur.toList.drop (n * i.size + news.length))[j]? = some x := by simpa using hx
          have htl : (cur.toList.take (n * i.size)).length = n * i.size := by rw [List.length_take, Array.length_toList]; omega
          by_cases j1 : j < n * i.size
          · left
            rw [List.append_assoc, List.getElem?_append_left (by omega), List.getElem?_take, if_pos j1] at hxl
            simpa using hxl
          · by_cases j2 : j < n * i.size + news.length
            · right
              rw [List.append_assoc, List.getElem?_append_right (by omega), htl, List.getElem?_append_left (by omega)] at hxl
              have := hT (w.setRow g' (cur.toList.take (n * i.size) ++ news ++ cur.toList.drop (n * i.size + news.length)).toArray) (j - n * i.size) x hxl
              rwa [show n * i.size + (j - n * i.size) = j from by omega] at this
            · left
              rw [List.getElem?_append_right (by rw [List.length_append, htl]; omega), List.length_append, htl, List.getElem?_drop] at hxl
              rw [show n * i.size + news.length + (j - (n * i.size + news.length)) = j from by omega] at hxl
              simpa using hxl
      · refine ⟨cs', ?_, rfl, fun _ _ h => .inl h⟩
        rw [setRow_other w g g' _ eg]
        exact h'
    · have holds : ∀ j u, xs[j]? = some u → w.cell? ((⟨g, 0, none⟩ : Addr).add j) = some u := hown.cells (g := g) rfl
      have hr2 := run_append_grow (P := Try.prog) w t ty e i z ht hi hz ⟨g, 0, none⟩ n cap xs hown.1 holds a 2 c news hl hnews (by omega) (by omega) (growslice_fits (by omega) hbytes)
      rw [hr2] at hr
      simp only [Result.ok.injEq] at hr
      obtain ⟨_, rfl⟩ := hr
      exact Soft.keeps (Keeps.alloc' _)
/-- Two instructions' cells. -/
def row2 (x y : Ins) : Array Value := #[.int .u8 x.k, .int .u8 x.op, .int .i64 x.d, .int .i64 x.a, .int .i64 x.b, .int .i64 x.n, .slice none 0 0, .int .u8 y.k, .int .u8 y.op, .int .i64 y.d, .int .i64 y.a, .int .i64 y.b, .int .i64 y.n, .slice none 0 0]
theorem row2_eq (x y : Ins) : (row2 x y).toList = (rowI x (.slice none 0 0)).toList ++ (rowI y (.slice none 0 0)).toList := rfl
/-- Two instructions more, with no arguments. -/
theorem run_app46two {B : Nat} (w : World) (ty : TypeId) {ui : Value} {is : List Ins} (hO : InssO B w ui is) {h : Nat} {x y : Ins} (hx : x.args = []) (hy : y.args = []) (hh : w.heap[h]? = some (Obj.cells (row2 x y) 46 (0, 0))) (hl : is.length ≤ 1000000) (hB : B ≤ w.heap.size) :
    ∃ v' w', (Builtin.append_ #[36, 36] ty #[ui, .slice (some ⟨h, 0, none⟩) 2 2]).run Try.prog w = .ok v' w' ∧ InssO B w' v' (is ++ [x, y]) ∧ w.grownBy w' ui.ownBlock ∧ Soft B w w' := by
  obtain ⟨i, hi, hz, hsize, hby⟩ := info_parts info46
  have hO' := hO
  obtain ⟨ps, h1, h2, h3⟩ := hO
  have hlp : ps.length = is.length := by rw [← h1, List.length_map]
  have hnil : ∀ W, ∃ xs, ArgsO B W (.slice none 0 0) xs := fun W => ⟨[], ArgsO.nil B W⟩
  obtain ⟨v', w', hr, g2, g3, g4⟩ := run_app_two (B := B) w 36 ty 46 i _ 7 64 Try.underlying36 hi hz hsize hby rfl (by decide) ui _ _ h2 ⟨h, 0, none⟩ 2 (row2 x y).toList rfl
    (by intro j c hj; rw [Addr.add_lit, Nat.zero_add, cell_of_row _ _ _ _ _ _ hh]; simpa using hj) (by intro c hc; simp [row2] at hc; rcases hc with rfl | rfl | rfl | rfl | rfl | rfl | rfl | rfl | rfl | rfl | rfl | rfl | rfl | rfl <;> rfl) (by omega) (by omega) hB
    (fun W k c hk => by
      rw [row2_eq] at hk
      by_cases hk7 : k < 7
      · rw [List.getElem?_append_left (by simpa [rowI] using hk7)] at hk
        exact typed_row W ps.length hnil k c hk
      · rw [List.getElem?_append_right (by simp [rowI]; omega)] at hk
        have := typed_row W (ps.length + 1) hnil (k - 7) c (by simpa [rowI] using hk)
        rwa [show (ps.length + 1) * 7 + (k - 7) = ps.length * 7 + k from by omega] at this)
  have hk3 : Keeps T3 w w' := (hO'.grown3 g3).weak fun t ht => by simp [T3] at *; subst ht; decide
  refine ⟨v', w', hr, ⟨ps ++ [(x, .slice none 0 0), (y, .slice none 0 0)], by simp [h1], ?_, fun p hp => ?_⟩, g3, g4⟩
  · refine owns_cast g2 (by simp) ?_
    simp [cellsI, row2]
  · rcases List.mem_append.1 hp with hp | hp
    · exact (h3 p hp).keeps hk3
    · simp at hp
      rcases hp with rfl | rfl
      · simp only [hx]
        exact ArgsO.nil _ _
      · simp only [hy]
        exact ArgsO.nil _ _
end Go.Proofs.Ytbgedbahabbanaa
