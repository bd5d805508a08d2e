/- One more behind a row of the call's own: what else lies there is of its kind. -/
import Derived.Test.YtbjnhicikkjadaaRowI
import Derived.Test.YtbjnhicikkjadaaMade1
namespace Go.Proofs.Ytbjnhicikkjadaa
open Go.RowKit Ir

theorem Keeps.alloc' {w : World} (o : Obj) : Keeps (fun _ => true) w (w.drew.alloc o) := by
  intro g cs t fr _ h0
  rw [Below.heap_alloc _ _ _ (by have := (Array.getElem?_eq_some_iff.1 h0).1; exact this)]
  exact h0
theorem run_app_gen {B : Nat} (w : World) (t ty e : TypeId) (i : TypeInfo) (z : Value) (size bytes : Nat) (ht : Try.prog.underlying t = some (.slice e)) (hi : Try.prog.info? e = some i) (hz : i.zero = some z) (hsize : i.size = size) (hby : i.bytes = bytes) (hzs : z.cells.size = size) (hsz : 0 < size)
    (v : Value) (n : Nat) (xs : List Value) (hown : w.ownsRow B e size v n xs) (a : Addr) (c : Nat) (news : List Value) (hl : news.length = 1 * size) (hnews : ∀ j u, news[j]? = some u → w.cell? (a.add j) = some u) (h1 : ∀ u ∈ news, u.oneCell' = true)
    (hn : n ≤ 1000000) (hbb : bytes ≤ 1000) (hB : B ≤ w.heap.size) (hT : ∀ W k x, news[k]? = some x → Typed B W e (n * size + k) x) :
    ∃ v' w', (Builtin.append_ #[t, t] ty #[v, .slice (some a) 1 c]).run Try.prog w = .ok v' w' ∧ w'.ownsRow B e size v' (n + 1) (xs ++ news) ∧ w.grownBy w' v.ownBlock ∧ Soft B w w' := by
  have hbytes : (n + 1) * bytes ≤ 140737488355328 := by
    have : (n + 1) * bytes ≤ 1000001 * 1000 := Nat.mul_le_mul (by omega) hbb
    omega
  obtain ⟨v', w', hr, h2, h3, _⟩ := run_append_own (P := Try.prog) w B t ty e i z size bytes ht hi hz hsize hby hzs hsz v n xs hown a 1 c news hl hnews h1 (by unfold maxLen; omega) hbytes hB
  refine ⟨v', w', hr, h2, h3, ?_⟩
  subst hsize
  subst hby
  rcases hown.2 with ⟨rfl, rfl⟩ | ⟨g, cap, cur, rfl, hbg, hg, hnc, hcm, hcs, htake⟩
  · refine Soft.keeps fun g cs t fr _ h0 => ?_
    rw [h3.block g (Array.getElem?_eq_some_iff.1 h0).1 (by simp [Value.ownBlock])]
    exact h0
  · by_cases hroom : n + 1 ≤ cap
    · have hfit : n * i.size + news.length ≤ cur.size := by
        rw [hl, hcs, ← Nat.add_mul]
        exact Nat.mul_le_mul_right _ hroom
      have hr2 := run_append_room (P := Try.prog) w t ty e i ht hi g n cap cur hg a 1 c news hl hnews h1 hroom hfit
      rw [hr2] at hr
      simp only [Result.ok.injEq] at hr
      obtain ⟨_, rfl⟩ := hr
      intro g' cs' t' hg' h'
      by_cases eg : g' = g
      · subst eg
        rw [hg] at h'
        simp only [Option.some.injEq, Obj.cells.injEq] at h'
        obtain ⟨rfl, rfl, _⟩ := h'
        refine ⟨_, setRow_heap w g' cur _ e _ hg, ?_, fun j x hx => ?_⟩
        · simp only [List.size_toArray, List.length_append, List.length_take, List.length_drop, Array.length_toList]
          omega
        · have hxl : (cur.toList.take (n * i.size) ++ news ++ cur.toList.drop (n * i.size + news.length))[j]? = some x := by simpa using hx
          have htl : (cur.toList.take (n * i.size)).length = n * i.size := by rw [List.length_take, Array.length_toList]; omega
          by_cases j1 : j < n * i.size
          · left
            rw [List.append_assoc, List.getElem?_append_left (by omega), List.getElem?_take, if_pos j1] at hxl
            simpa using hxl
          · by_cases j2 : j < n * i.size + news.length
            · right
              rw [List.append_assoc, List.getElem?_append_right (by omega), htl, List.getElem?_append_left (by omega)] at hxl
              have := hT (w.setRow g' (cur.toList.take (n * i.size) ++ news ++ cur.toList.drop (n * i.size + news.length)).toArray) (j - n * i.size) x hxl
              rwa [show n * i.size + (j - n * i.size) = j from by omega] at this
            · left
              rw [List.getElem?_append_right (by rw [List.length_append, htl]; omega), List.length_append, htl, List.getElem?_drop] at hxl
              rw [show n * i.size + news.length + (j - (n * i.size + news.length)) = j from by omega] at hxl
              simpa using hxl
      · refine ⟨cs', ?_, rfl, fun _ _ h => .inl h⟩
        rw [setRow_other w g g' _ eg]
        exact h'
    · have holds : ∀ j u, xs[j]? = some u → w.cell? ((⟨g, 0, none⟩ : Addr).add j) = some u := hown.cells (g := g) rfl
      have hr2 := run_append_grow (P := Try.prog) w t ty e i z ht hi hz ⟨g, 0, none⟩ n cap xs hown.1 holds a 1 c news hl hnews (by omega) (by omega) (growslice_fits (by omega) hbytes)
      rw [hr2] at hr
      simp only [Result.ok.injEq] at hr
      obtain ⟨_, rfl⟩ := hr
      exact Soft.keeps (Keeps.alloc' _)

/-- One number more. -/
theorem run_app3 {B : Nat} (w : World) (ty : TypeId) {ua : Value} {xs : List Int} (hO : ArgsO B w ua xs) {h : Nat} {x : Int} (hc : w.cell? ⟨h, 0, none⟩ = some (.int .i64 x)) (hl : xs.length ≤ 1000000) (hB : B ≤ w.heap.size) :
    ∃ v' w', (Builtin.append_ #[49, 49] ty #[ua, .slice (some ⟨h, 0, none⟩) 1 1]).run Try.prog w = .ok v' w' ∧ ArgsO B w' v' (xs ++ [x]) ∧ w.grownBy w' ua.ownBlock ∧ Soft B w w' := by
  obtain ⟨i, hi, hz, hsize, hby⟩ := info_parts info3
  obtain ⟨v', w', hr, h2, h3, h4⟩ := run_app_gen (B := B) w 49 ty 3 i (.int .i64 0) 1 8 Try.underlying49 hi hz hsize hby rfl (by decide) ua _ _ hO ⟨h, 0, none⟩ 1 [.int .i64 x] (by simp)
    (by intro j u hj; match j, hj with | 0, hj => simp at hj; subst hj; rw [Addr.add_lit]; exact hc) (by intro u hu; simp at hu; subst hu; rfl) hl (by omega) hB
    (by intro W k y hy; match k, hy with | 0, hy => simp at hy; subst hy; exact ⟨fun _ => ⟨_, rfl⟩, fun h => by simp at h, fun h => by simp at h⟩)
  exact ⟨v', w', hr, owns_cast h2 (by simp) (by simp), h3, h4⟩
theorem typed_row {B : Nat} (W : World) (n : Nat) {x : Ins} {u : Value} (hA : ∀ W, ∃ xs, ArgsO B W u xs) (k : Nat) (c : Value) (hk : (rowI x u).toList[k]? = some c) (hx : I64 x.n) : Typed B W 86 (n * 7 + k) c := by
  have hk7 : k < 7 := by
    rcases Nat.lt_or_ge k 7 with h | h
    · exact h
    · rw [List.getElem?_eq_none (by simpa [rowI] using h)] at hk
      cases hk
  refine ⟨fun h => by simp at h, fun _ => ⟨fun h => ?_, fun h1 h2 => ?_, fun h => ?_⟩, fun h => by simp at h⟩
  · have : k = 0 ∨ k = 1 := by omega
    rcases this with rfl | rfl <;> (simp [rowI] at hk; exact ⟨_, hk.symm⟩)
  · have : k = 2 ∨ k = 3 ∨ k = 4 ∨ k = 5 := by omega
    rcases this with rfl | rfl | rfl | rfl <;> (simp [rowI] at hk; exact ⟨_, hk.symm, fun h => by first | exact hx | omega⟩)
  · have : k = 6 := by omega
    subst this
    simp [rowI] at hk
    subst hk
    exact hA W
/-- One instruction more, with no arguments. -/
theorem run_app46 {B : Nat} (w : World) (ty : TypeId) {ui : Value} {is : List Ins} (hO : InssO B w ui is) {h : Nat} {x : Ins} (hx : x.args = []) (hxn : I64 x.n) (hh : w.heap[h]? = some (Obj.cells (rowI x (.slice none 0 0)) 86 (0, 0))) (hl : is.length ≤ 1000000) (hB : B ≤ w.heap.size) :
    ∃ v' w', (Builtin.append_ #[80, 80] ty #[ui, .slice (some ⟨h, 0, none⟩) 1 1]).run Try.prog w = .ok v' w' ∧ InssO B w' v' (is ++ [x]) ∧ w.grownBy w' ui.ownBlock ∧ Soft B w w' := by
  obtain ⟨i, hi, hz, hsize, hby⟩ := info_parts info46
  have hO' := hO
  obtain ⟨ps, h1, h2, h3⟩ := hO
  have hlp : ps.length = is.length := by rw [← h1, List.length_map]
  obtain ⟨v', w', hr, g2, g3, g4⟩ := run_app_gen (B := B) w 80 ty 86 i _ 7 64 Try.underlying80 hi hz hsize hby rfl (by decide) ui _ _ h2 ⟨h, 0, none⟩ 1 (rowI x (.slice none 0 0)).toList rfl
    (by intro j c hj; rw [Addr.add_lit, Nat.zero_add, cell_of_row _ _ _ _ _ _ hh]; simpa using hj) (by intro c hc; simp [rowI] at hc; rcases hc with rfl | rfl | rfl | rfl | rfl | rfl | rfl <;> rfl) (by omega) (by omega) hB
    (fun W k c hk => typed_row W ps.length (fun W => ⟨[], ArgsO.nil B W⟩) k c hk hxn)
  exact ⟨v', w', hr, InssO.snoc h1 h3 g2 ((hO'.grown3 g3).weak fun t ht => by simp [T3] at *; subst ht; decide) (by rw [hx]; exact ArgsO.nil B w), g3, g4⟩
end Go.Proofs.Ytbjnhicikkjadaa
namespace Go.Proofs.Ytbjnhicikkjadaa
open Go.RowKit Ir

theorem BlksO.rows {B : Nat} {w : World} {u : Value} {bs : List Blk} (h : BlksO B w u bs) (h0 : 0 < bs.length) : ∃ g cap cur, u = .slice (some ⟨g, 0, none⟩) bs.length cap ∧ B ≤ g ∧ w.heap[g]? = some (Obj.cells cur 82 (0, 0)) ∧
    ∀ j, j < bs.length → ∃ uj is e, BlkCells w g (j * 5) uj e ∧ InssO B w uj is := by
  have hv := h.v
  obtain ⟨ps, rfl, h2, h3⟩ := h
  rw [List.length_map] at h0 ⊢
  rcases h2.2 with ⟨rfl, h00⟩ | ⟨g, cap, cur, rfl, hb, hg, _⟩
  · omega
  · refine ⟨g, cap, cur, rfl, hb, hg, fun j hj => ?_⟩
    have hp : ps[j]? = some ps[j] := List.getElem?_eq_getElem hj
    obtain ⟨g0, g1, g2, g3, g4⟩ := cellsB_get ps j _ hp
    have hc : ∀ k x, k < 5 → (cellsB ps)[j * 5 + k]? = some x → w.cell? ⟨g, j * 5 + k, none⟩ = some x := by
      intro k x hk hx
      rw [h2.cellAt (j * 5 + k) (by omega), hx]
    exact ⟨ps[j].2, _, ps[j].1.e, ⟨hc 0 _ (by omega) g0, hc 1 _ (by omega) g1, hc 2 _ (by omega) g2, hc 3 _ (by omega) g3, hc 4 _ (by omega) g4⟩, h3 _ (List.getElem_mem hj)⟩
theorem InssO.rows {B : Nat} {w : World} {u : Value} {is : List Ins} (h : InssO B w u is) (h0 : 0 < is.length) : ∃ g cap cur, u = .slice (some ⟨g, 0, none⟩) is.length cap ∧ B ≤ g ∧ w.heap[g]? = some (Obj.cells cur 86 (0, 0)) ∧
    ∀ j, j < is.length → ∃ uj i, InsCells w g (j * 7) i uj ∧ ArgsO B w uj i.args := by
  obtain ⟨ps, rfl, h2, h3⟩ := h
  rw [List.length_map] at h0 ⊢
  rcases h2.2 with ⟨rfl, h00⟩ | ⟨g, cap, cur, rfl, hb, hg, _⟩
  · omega
  · refine ⟨g, cap, cur, rfl, hb, hg, fun j hj => ?_⟩
    have hp : ps[j]? = some ps[j] := List.getElem?_eq_getElem hj
    obtain ⟨g0, g1, g2, g3, g4, g5, g6⟩ := cellsI_get ps j _ hp
    have hc : ∀ k x, k < 7 → (cellsI ps)[j * 7 + k]? = some x → w.cell? ⟨g, j * 7 + k, none⟩ = some x := by
      intro k x hk hx
      rw [h2.cellAt (j * 7 + k) (by omega), hx]
    exact ⟨ps[j].2, ps[j].1, ⟨hc 0 _ (by omega) g0, hc 1 _ (by omega) g1, hc 2 _ (by omega) g2, hc 3 _ (by omega) g3, hc 4 _ (by omega) g4, hc 5 _ (by omega) g5, hc 6 _ (by omega) g6⟩, h3 _ (List.getElem_mem hj)⟩

/-- What is none of a function's own rows. -/
def T24 : TypeId → Bool := fun t => t != 3 && t != 86 && t != 82
/-- Where blocks lie, their instructions' slices are as they were. -/
def K41 (w w' : World) : Prop := ∀ (g : Nat) (cs : Array Value), w.heap[g]? = some (Obj.cells cs 82 (0, 0)) → ∃ cs', w'.heap[g]? = some (Obj.cells cs' 82 (0, 0)) ∧ ∀ j : Nat, j % 5 = 0 → cs'[j]? = cs[j]?
theorem K41.keeps {T : TypeId → Bool} {w w' : World} (hT : T 82 = true) (h : Keeps T w w') : K41 w w' := fun g cs h0 => ⟨cs, h g cs 82 (0, 0) hT h0, fun _ _ => rfl⟩
theorem K41.refl (w : World) : K41 w w := fun _ cs h0 => ⟨cs, h0, fun _ _ => rfl⟩
theorem K41.set {w : World} {g j : Nat} {cs : Array Value} {u : Value} (h0 : w.heap[g]? = some (Obj.cells cs 82 (0, 0))) (hj : j % 5 ≠ 0) : K41 w (w.setCell ⟨g, j, none⟩ u) := by
  intro g' cs' h'
  by_cases e : g' = g
  · subst e
    rw [h0] at h'
    simp only [Option.some.injEq, Obj.cells.injEq] at h'
    obtain ⟨rfl, _⟩ := h'
    refine ⟨_, heap_setCell_same w g' j cs 82 u h0, fun i hi => ?_⟩
    rw [Array.getElem?_setIfInBounds_ne (fun h => hj (by rw [h]; exact hi))]
  · refine ⟨cs', ?_, fun _ _ => rfl⟩
    rw [Below.heap_setCell _ _ _ _ (fun h => e (by simpa using h))]
    exact h'
/-- What Turn leaves. -/
def TurnPost (B : Nat) (w : World) (e : Ending) (w' : World) : Prop := e = .returned (.tuple #[]) ∧ Soft B w w' ∧ Below B w w' ∧ Keeps T24 w w' ∧ K41 w w'

section
variable {B : Nat} {w : World}
theorem set41u8 {g : Nat} {cur : Array Value} (hg : w.heap[g]? = some (Obj.cells cur 82 (0, 0))) (j : Nat) (x : Int) : Soft B w (w.setCell ⟨g, j * 5 + 1, none⟩ (.int .u8 x)) :=
  Soft.set hg ⟨fun h => by simp at h, fun h => by simp at h, fun _ => ⟨fun h => by omega, fun _ => ⟨x, rfl⟩, fun h => by omega⟩⟩
theorem set41i64 {g : Nat} {cur : Array Value} (hg : w.heap[g]? = some (Obj.cells cur 82 (0, 0))) (j k : Nat) (hk : 2 ≤ k ∧ k < 5) (x : Int) : Soft B w (w.setCell ⟨g, j * 5 + k, none⟩ (.int .i64 x)) :=
  Soft.set hg ⟨fun h => by simp at h, fun h => by simp at h, fun _ => ⟨fun h => by omega, fun h => by omega, fun _ => ⟨x, rfl⟩⟩⟩
theorem set46u8 {g : Nat} {cur : Array Value} (hg : w.heap[g]? = some (Obj.cells cur 86 (0, 0))) (j k : Nat) (hk : k < 2) (x : Int) : Soft B w (w.setCell ⟨g, j * 7 + k, none⟩ (.int .u8 x)) :=
  Soft.set hg ⟨fun h => by simp at h, fun _ => ⟨fun _ => ⟨x, rfl⟩, fun h => by omega, fun h => by omega⟩, fun h => by simp at h⟩
theorem set46i64 {g : Nat} {cur : Array Value} (hg : w.heap[g]? = some (Obj.cells cur 86 (0, 0))) (j k : Nat) (hk : 2 ≤ k ∧ k < 6) (x : Int) (hx : k = 5 → I64 x) : Soft B w (w.setCell ⟨g, j * 7 + k, none⟩ (.int .i64 x)) :=
  Soft.set hg ⟨fun h => by simp at h, fun _ => ⟨fun h => by omega, fun _ _ => ⟨x, rfl, fun h => hx (by omega)⟩, fun h => by omega⟩, fun h => by simp at h⟩
end

set_option maxHeartbeats 1000000 in
set_option maxRecDepth 100000 in
theorem turn_none (B : Nat) (u : Value) (b k f n : Int) (w : World) (hu : BlksO B w u []) : Calls Try.prog 12 #[u, .int .u8 b, .int .u8 k, .int .u8 f, .int .i64 n] w (TurnPost B w) := by
  obtain ⟨ua, uc, rfl⟩ := hu.v.slice
  clear hu
  go_enter Try.func12, Try.ntmps12
  go_wp2_with fail
  go_end0
  exact ⟨rfl, Soft.refl _ _, Below.refl _ _, Keeps.refl _ _, K41.refl _⟩
set_option maxHeartbeats 2000000 in
set_option maxRecDepth 100000 in
theorem turn_e0 (B : Nat) (g cap : Nat) (cur : Array Value) (nb j m : Nat) (ui : Option Addr) (ci : Nat) (e : En) (b k f n : Int) (w : World) (hBg : B ≤ g) (hg : w.heap[g]? = some (Obj.cells cur 82 (0, 0))) (hc : BlkCells w g (j * 5) (.slice ui m ci) e)
    (hb0 : 0 ≤ b) (hb1 : b < 256) (hk0 : 0 ≤ k) (hk1 : k < 256) (hb : b.tmod (nb : Int) = (j : Int)) (hj : j < nb) (t : Nat) (hk : k.tmod ((m : Int) + 1) = (t : Int)) (hm : m < 100000) (ht : t = m) (h4 : f.tmod 4 = 0) :
    Calls Try.prog 12 #[.slice (some ⟨g, 0, none⟩) nb cap, .int .u8 b, .int .u8 k, .int .u8 f, .int .i64 n] w (TurnPost B w) := by
  obtain ⟨c0, c1, c2, c3, c4⟩ := hc
  have hfz : ∀ o, w.frozen? ⟨g, o, none⟩ = false := fun o => frozen_of_row _ _ _ _ _ hg
  have hnb : (((nb : Nat) : Int) == 0) = false := by rw [beq_eq_false_iff_ne]; omega
  have hnb1 : (((nb : Nat) : Int) == -1) = false := by rw [beq_eq_false_iff_ne]; omega
  have hm0 : (((m : Nat) : Int) + 1 == 0) = false := by rw [beq_eq_false_iff_ne]; omega
  have hm1 : (((m : Nat) : Int) + 1 == -1) = false := by rw [beq_eq_false_iff_ne]; omega
  have hji : (j : Int) < (nb : Int) := by omega
  subst ht
  have f1 := hfz (j * 5 + 1)
  have HG := hide hg
  clear hg hfz
  go_enter Try.func12, Try.ntmps12
  go_wp2_with fail
  go_end0
  exact ⟨rfl, set41u8 HG.out j _, (Below.refl _ _).setCell (p := ⟨g, j * 5 + 1, none⟩) hBg _, Keeps.set HG.out rfl _, K41.set HG.out (by omega)⟩
set_option maxHeartbeats 2000000 in
set_option maxRecDepth 100000 in
theorem turn_e1 (B : Nat) (g cap : Nat) (cur : Array Value) (nb j m : Nat) (ui : Option Addr) (ci : Nat) (e : En) (b k f n : Int) (w : World) (hBg : B ≤ g) (hg : w.heap[g]? = some (Obj.cells cur 82 (0, 0))) (hc : BlkCells w g (j * 5) (.slice ui m ci) e)
    (hb0 : 0 ≤ b) (hb1 : b < 256) (hk0 : 0 ≤ k) (hk1 : k < 256) (hb : b.tmod (nb : Int) = (j : Int)) (hj : j < nb) (t : Nat) (hk : k.tmod ((m : Int) + 1) = (t : Int)) (hm : m < 100000) (ht : t = m) (h4 : f.tmod 4 = 1) :
    Calls Try.prog 12 #[.slice (some ⟨g, 0, none⟩) nb cap, .int .u8 b, .int .u8 k, .int .u8 f, .int .i64 n] w (TurnPost B w) := by
  obtain ⟨c0, c1, c2, c3, c4⟩ := hc
  have hfz : ∀ o, w.frozen? ⟨g, o, none⟩ = false := fun o => frozen_of_row _ _ _ _ _ hg
  have hnb : (((nb : Nat) : Int) == 0) = false := by rw [beq_eq_false_iff_ne]; omega
  have hnb1 : (((nb : Nat) : Int) == -1) = false := by rw [beq_eq_false_iff_ne]; omega
  have hm0 : (((m : Nat) : Int) + 1 == 0) = false := by rw [beq_eq_false_iff_ne]; omega
  have hm1 : (((m : Nat) : Int) + 1 == -1) = false := by rw [beq_eq_false_iff_ne]; omega
  have hji : (j : Int) < (nb : Int) := by omega
  subst ht
  have f1 := hfz (j * 5 + 2)
  have HG := hide hg
  clear hg hfz
  go_enter Try.func12, Try.ntmps12
  go_wp2_with fail
  go_end0
  exact ⟨rfl, set41i64 HG.out j 2 (by omega) _, (Below.refl _ _).setCell (p := ⟨g, j * 5 + 2, none⟩) hBg _, Keeps.set HG.out rfl _, K41.set HG.out (by omega)⟩
set_option maxHeartbeats 2000000 in
set_option maxRecDepth 100000 in
theorem turn_e2 (B : Nat) (g cap : Nat) (cur : Array Value) (nb j m : Nat) (ui : Option Addr) (ci : Nat) (e : En) (b k f n : Int) (w : World) (hBg : B ≤ g) (hg : w.heap[g]? = some (Obj.cells cur 82 (0, 0))) (hc : BlkCells w g (j * 5) (.slice ui m ci) e)
    (hb0 : 0 ≤ b) (hb1 : b < 256) (hk0 : 0 ≤ k) (hk1 : k < 256) (hb : b.tmod (nb : Int) = (j : Int)) (hj : j < nb) (t : Nat) (hk : k.tmod ((m : Int) + 1) = (t : Int)) (hm : m < 100000) (ht : t = m) (h4 : f.tmod 4 = 2) :
    Calls Try.prog 12 #[.slice (some ⟨g, 0, none⟩) nb cap, .int .u8 b, .int .u8 k, .int .u8 f, .int .i64 n] w (TurnPost B w) := by
  obtain ⟨c0, c1, c2, c3, c4⟩ := hc
  have hfz : ∀ o, w.frozen? ⟨g, o, none⟩ = false := fun o => frozen_of_row _ _ _ _ _ hg
  have hnb : (((nb : Nat) : Int) == 0) = false := by rw [beq_eq_false_iff_ne]; omega
  have hnb1 : (((nb : Nat) : Int) == -1) = false := by rw [beq_eq_false_iff_ne]; omega
  have hm0 : (((m : Nat) : Int) + 1 == 0) = false := by rw [beq_eq_false_iff_ne]; omega
  have hm1 : (((m : Nat) : Int) + 1 == -1) = false := by rw [beq_eq_false_iff_ne]; omega
  have hji : (j : Int) < (nb : Int) := by omega
  subst ht
  have f1 := hfz (j * 5 + 3)
  have HG := hide hg
  clear hg hfz
  go_enter Try.func12, Try.ntmps12
  go_wp2_with fail
  go_end0
  exact ⟨rfl, set41i64 HG.out j 3 (by omega) _, (Below.refl _ _).setCell (p := ⟨g, j * 5 + 3, none⟩) hBg _, Keeps.set HG.out rfl _, K41.set HG.out (by omega)⟩
set_option maxHeartbeats 2000000 in
set_option maxRecDepth 100000 in
theorem turn_e3 (B : Nat) (g cap : Nat) (cur : Array Value) (nb j m : Nat) (ui : Option Addr) (ci : Nat) (e : En) (b k f n : Int) (w : World) (hBg : B ≤ g) (hg : w.heap[g]? = some (Obj.cells cur 82 (0, 0))) (hc : BlkCells w g (j * 5) (.slice ui m ci) e)
    (hb0 : 0 ≤ b) (hb1 : b < 256) (hk0 : 0 ≤ k) (hk1 : k < 256) (hb : b.tmod (nb : Int) = (j : Int)) (hj : j < nb) (t : Nat) (hk : k.tmod ((m : Int) + 1) = (t : Int)) (hm : m < 100000) (ht : t = m) (h4 : f.tmod 4 = 3) :
    Calls Try.prog 12 #[.slice (some ⟨g, 0, none⟩) nb cap, .int .u8 b, .int .u8 k, .int .u8 f, .int .i64 n] w (TurnPost B w) := by
  obtain ⟨c0, c1, c2, c3, c4⟩ := hc
  have hfz : ∀ o, w.frozen? ⟨g, o, none⟩ = false := fun o => frozen_of_row _ _ _ _ _ hg
  have hnb : (((nb : Nat) : Int) == 0) = false := by rw [beq_eq_false_iff_ne]; omega
  have hnb1 : (((nb : Nat) : Int) == -1) = false := by rw [beq_eq_false_iff_ne]; omega
  have hm0 : (((m : Nat) : Int) + 1 == 0) = false := by rw [beq_eq_false_iff_ne]; omega
  have hm1 : (((m : Nat) : Int) + 1 == -1) = false := by rw [beq_eq_false_iff_ne]; omega
  have hji : (j : Int) < (nb : Int) := by omega
  subst ht
  have f1 := hfz (j * 5 + 4)
  have HG := hide hg
  clear hg hfz
  go_enter Try.func12, Try.ntmps12
  go_wp2_with fail
  go_end0
  exact ⟨rfl, set41i64 HG.out j 4 (by omega) _, (Below.refl _ _).setCell (p := ⟨g, j * 5 + 4, none⟩) hBg _, Keeps.set HG.out rfl _, K41.set HG.out (by omega)⟩
set_option maxHeartbeats 2000000 in
set_option maxRecDepth 100000 in
theorem turn_i0 (B : Nat) (g cap : Nat) (cur : Array Value) (nb j m : Nat) (ui : Option Addr) (ci : Nat) (e : En) (b k f n : Int) (w : World) (hg : w.heap[g]? = some (Obj.cells cur 82 (0, 0))) (hc : BlkCells w g (j * 5) (.slice ui m ci) e)
    (hb0 : 0 ≤ b) (hb1 : b < 256) (hk0 : 0 ≤ k) (hk1 : k < 256) (hb : b.tmod (nb : Int) = (j : Int)) (hj : j < nb) (t : Nat) (hk : k.tmod ((m : Int) + 1) = (t : Int)) (hm : m < 100000) (gi : Nat) (curi : Array Value) (i : Ins) (ua : Option Addr) (ca2 : Nat) (hui : ui = some ⟨gi, 0, none⟩) (hBi : B ≤ gi) (hgi : w.heap[gi]? = some (Obj.cells curi 86 (0, 0))) (hi : InsCells w gi (t * 7) i (.slice ua i.args.length ca2)) (ht : t < m) (h8 : f.tmod 8 = 0) :
    Calls Try.prog 12 #[.slice (some ⟨g, 0, none⟩) nb cap, .int .u8 b, .int .u8 k, .int .u8 f, .int .i64 n] w (TurnPost B w) := by
  obtain ⟨c0, c1, c2, c3, c4⟩ := hc
  have hfz : ∀ o, w.frozen? ⟨g, o, none⟩ = false := fun o => frozen_of_row _ _ _ _ _ hg
  have hnb : (((nb : Nat) : Int) == 0) = false := by rw [beq_eq_false_iff_ne]; omega
  have hnb1 : (((nb : Nat) : Int) == -1) = false := by rw [beq_eq_false_iff_ne]; omega
  have hm0 : (((m : Nat) : Int) + 1 == 0) = false := by rw [beq_eq_false_iff_ne]; omega
  have hm1 : (((m : Nat) : Int) + 1 == -1) = false := by rw [beq_eq_false_iff_ne]; omega
  have hji : (j : Int) < (nb : Int) := by omega
  subst hui
  obtain ⟨a0, a1, a2, a3, a4, a5, a6⟩ := hi
  have f1 : w.frozen? ⟨gi, t * 7, none⟩ = false := frozen_of_row _ _ _ _ _ hgi
  have hti : (t : Int) < (m : Int) := by omega
  have htn : (((t : Nat) : Int) == ((m : Nat) : Int)) = false := by rw [beq_eq_false_iff_ne]; omega
  have HG := hide hgi
  clear hg hgi hfz
  go_enter Try.func12, Try.ntmps12
  go_wp2_with fail
  go_end0
  exact ⟨rfl, set46u8 HG.out t 0 (by omega) _, (Below.refl _ _).setCell (p := ⟨gi, t * 7, none⟩) hBi _, Keeps.set HG.out rfl _, K41.keeps (T := fun t => t == 82) rfl (Keeps.set HG.out rfl _)⟩
set_option maxHeartbeats 2000000 in
set_option maxRecDepth 100000 in
theorem turn_i1 (B : Nat) (g cap : Nat) (cur : Array Value) (nb j m : Nat) (ui : Option Addr) (ci : Nat) (e : En) (b k f n : Int) (w : World) (hg : w.heap[g]? = some (Obj.cells cur 82 (0, 0))) (hc : BlkCells w g (j * 5) (.slice ui m ci) e)
    (hb0 : 0 ≤ b) (hb1 : b < 256) (hk0 : 0 ≤ k) (hk1 : k < 256) (hb : b.tmod (nb : Int) = (j : Int)) (hj : j < nb) (t : Nat) (hk : k.tmod ((m : Int) + 1) = (t : Int)) (hm : m < 100000) (gi : Nat) (curi : Array Value) (i : Ins) (ua : Option Addr) (ca2 : Nat) (hui : ui = some ⟨gi, 0, none⟩) (hBi : B ≤ gi) (hgi : w.heap[gi]? = some (Obj.cells curi 86 (0, 0))) (hi : InsCells w gi (t * 7) i (.slice ua i.args.length ca2)) (ht : t < m) (h8 : f.tmod 8 = 1) :
    Calls Try.prog 12 #[.slice (some ⟨g, 0, none⟩) nb cap, .int .u8 b, .int .u8 k, .int .u8 f, .int .i64 n] w (TurnPost B w) := by
  obtain ⟨c0, c1, c2, c3, c4⟩ := hc
  have hfz : ∀ o, w.frozen? ⟨g, o, none⟩ = false := fun o => frozen_of_row _ _ _ _ _ hg
  have hnb : (((nb : Nat) : Int) == 0) = false := by rw [beq_eq_false_iff_ne]; omega
  have hnb1 : (((nb : Nat) : Int) == -1) = false := by rw [beq_eq_false_iff_ne]; omega
  have hm0 : (((m : Nat) : Int) + 1 == 0) = false := by rw [beq_eq_false_iff_ne]; omega
  have hm1 : (((m : Nat) : Int) + 1 == -1) = false := by rw [beq_eq_false_iff_ne]; omega
  have hji : (j : Int) < (nb : Int) := by omega
  subst hui
  obtain ⟨a0, a1, a2, a3, a4, a5, a6⟩ := hi
  have f1 : w.frozen? ⟨gi, t * 7 + 1, none⟩ = false := frozen_of_row _ _ _ _ _ hgi
  have hti : (t : Int) < (m : Int) := by omega
  have htn : (((t : Nat) : Int) == ((m : Nat) : Int)) = false := by rw [beq_eq_false_iff_ne]; omega
  have HG := hide hgi
  clear hg hgi hfz
  go_enter Try.func12, Try.ntmps12
  go_wp2_with fail
  go_end0
  exact ⟨rfl, set46u8 HG.out t 1 (by omega) _, (Below.refl _ _).setCell (p := ⟨gi, t * 7 + 1, none⟩) hBi _, Keeps.set HG.out rfl _, K41.keeps (T := fun t => t == 82) rfl (Keeps.set HG.out rfl _)⟩
set_option maxHeartbeats 2000000 in
set_option maxRecDepth 100000 in
theorem turn_i2 (B : Nat) (g cap : Nat) (cur : Array Value) (nb j m : Nat) (ui : Option Addr) (ci : Nat) (e : En) (b k f n : Int) (w : World) (hg : w.heap[g]? = some (Obj.cells cur 82 (0, 0))) (hc : BlkCells w g (j * 5) (.slice ui m ci) e)
    (hb0 : 0 ≤ b) (hb1 : b < 256) (hk0 : 0 ≤ k) (hk1 : k < 256) (hb : b.tmod (nb : Int) = (j : Int)) (hj : j < nb) (t : Nat) (hk : k.tmod ((m : Int) + 1) = (t : Int)) (hm : m < 100000) (gi : Nat) (curi : Array Value) (i : Ins) (ua : Option Addr) (ca2 : Nat) (hui : ui = some ⟨gi, 0, none⟩) (hBi : B ≤ gi) (hgi : w.heap[gi]? = some (Obj.cells curi 86 (0, 0))) (hi : InsCells w gi (t * 7) i (.slice ua i.args.length ca2)) (ht : t < m) (h8 : f.tmod 8 = 2) :
    Calls Try.prog 12 #[.slice (some ⟨g, 0, none⟩) nb cap, .int .u8 b, .int .u8 k, .int .u8 f, .int .i64 n] w (TurnPost B w) := by
  obtain ⟨c0, c1, c2, c3, c4⟩ := hc
  have hfz : ∀ o, w.frozen? ⟨g, o, none⟩ = false := fun o => frozen_of_row _ _ _ _ _ hg
  have hnb : (((nb : Nat) : Int) == 0) = false := by rw [beq_eq_false_iff_ne]; omega
  have hnb1 : (((nb : Nat) : Int) == -1) = false := by rw [beq_eq_false_iff_ne]; omega
  have hm0 : (((m : Nat) : Int) + 1 == 0) = false := by rw [beq_eq_false_iff_ne]; omega
  have hm1 : (((m : Nat) : Int) + 1 == -1) = false := by rw [beq_eq_false_iff_ne]; omega
  have hji : (j : Int) < (nb : Int) := by omega
  subst hui
  obtain ⟨a0, a1, a2, a3, a4, a5, a6⟩ := hi
  have f1 : w.frozen? ⟨gi, t * 7 + 2, none⟩ = false := frozen_of_row _ _ _ _ _ hgi
  have hti : (t : Int) < (m : Int) := by omega
  have htn : (((t : Nat) : Int) == ((m : Nat) : Int)) = false := by rw [beq_eq_false_iff_ne]; omega
  have HG := hide hgi
  clear hg hgi hfz
  go_enter Try.func12, Try.ntmps12
  go_wp2_with fail
  go_end0
  exact ⟨rfl, set46i64 HG.out t 2 (by omega) _ (fun h => by omega), (Below.refl _ _).setCell (p := ⟨gi, t * 7 + 2, none⟩) hBi _, Keeps.set HG.out rfl _, K41.keeps (T := fun t => t == 82) rfl (Keeps.set HG.out rfl _)⟩
set_option maxHeartbeats 2000000 in
set_option maxRecDepth 100000 in
theorem turn_i3 (B : Nat) (g cap : Nat) (cur : Array Value) (nb j m : Nat) (ui : Option Addr) (ci : Nat) (e : En) (b k f n : Int) (w : World) (hg : w.heap[g]? = some (Obj.cells cur 82 (0, 0))) (hc : BlkCells w g (j * 5) (.slice ui m ci) e)
    (hb0 : 0 ≤ b) (hb1 : b < 256) (hk0 : 0 ≤ k) (hk1 : k < 256) (hb : b.tmod (nb : Int) = (j : Int)) (hj : j < nb) (t : Nat) (hk : k.tmod ((m : Int) + 1) = (t : Int)) (hm : m < 100000) (gi : Nat) (curi : Array Value) (i : Ins) (ua : Option Addr) (ca2 : Nat) (hui : ui = some ⟨gi, 0, none⟩) (hBi : B ≤ gi) (hgi : w.heap[gi]? = some (Obj.cells curi 86 (0, 0))) (hi : InsCells w gi (t * 7) i (.slice ua i.args.length ca2)) (ht : t < m) (h8 : f.tmod 8 = 3) :
    Calls Try.prog 12 #[.slice (some ⟨g, 0, none⟩) nb cap, .int .u8 b, .int .u8 k, .int .u8 f, .int .i64 n] w (TurnPost B w) := by
  obtain ⟨c0, c1, c2, c3, c4⟩ := hc
  have hfz : ∀ o, w.frozen? ⟨g, o, none⟩ = false := fun o => frozen_of_row _ _ _ _ _ hg
  have hnb : (((nb : Nat) : Int) == 0) = false := by rw [beq_eq_false_iff_ne]; omega
  have hnb1 : (((nb : Nat) : Int) == -1) = false := by rw [beq_eq_false_iff_ne]; omega
  have hm0 : (((m : Nat) : Int) + 1 == 0) = false := by rw [beq_eq_false_iff_ne]; omega
  have hm1 : (((m : Nat) : Int) + 1 == -1) = false := by rw [beq_eq_false_iff_ne]; omega
  have hji : (j : Int) < (nb : Int) := by omega
  subst hui
  obtain ⟨a0, a1, a2, a3, a4, a5, a6⟩ := hi
  have f1 : w.frozen? ⟨gi, t * 7 + 3, none⟩ = false := frozen_of_row _ _ _ _ _ hgi
  have hti : (t : Int) < (m : Int) := by omega
  have htn : (((t : Nat) : Int) == ((m : Nat) : Int)) = false := by rw [beq_eq_false_iff_ne]; omega
  have HG := hide hgi
  clear hg hgi hfz
  go_enter Try.func12, Try.ntmps12
  go_wp2_with fail
  go_end0
  exact ⟨rfl, set46i64 HG.out t 3 (by omega) _ (fun h => by omega), (Below.refl _ _).setCell (p := ⟨gi, t * 7 + 3, none⟩) hBi _, Keeps.set HG.out rfl _, K41.keeps (T := fun t => t == 82) rfl (Keeps.set HG.out rfl _)⟩
set_option maxHeartbeats 2000000 in
set_option maxRecDepth 100000 in
theorem turn_i4 (B : Nat) (g cap : Nat) (cur : Array Value) (nb j m : Nat) (ui : Option Addr) (ci : Nat) (e : En) (b k f n : Int) (w : World) (hg : w.heap[g]? = some (Obj.cells cur 82 (0, 0))) (hc : BlkCells w g (j * 5) (.slice ui m ci) e)
    (hb0 : 0 ≤ b) (hb1 : b < 256) (hk0 : 0 ≤ k) (hk1 : k < 256) (hb : b.tmod (nb : Int) = (j : Int)) (hj : j < nb) (t : Nat) (hk : k.tmod ((m : Int) + 1) = (t : Int)) (hm : m < 100000) (gi : Nat) (curi : Array Value) (i : Ins) (ua : Option Addr) (ca2 : Nat) (hui : ui = some ⟨gi, 0, none⟩) (hBi : B ≤ gi) (hgi : w.heap[gi]? = some (Obj.cells curi 86 (0, 0))) (hi : InsCells w gi (t * 7) i (.slice ua i.args.length ca2)) (ht : t < m) (h8 : f.tmod 8 = 4) :
    Calls Try.prog 12 #[.slice (some ⟨g, 0, none⟩) nb cap, .int .u8 b, .int .u8 k, .int .u8 f, .int .i64 n] w (TurnPost B w) := by
  obtain ⟨c0, c1, c2, c3, c4⟩ := hc
  have hfz : ∀ o, w.frozen? ⟨g, o, none⟩ = false := fun o => frozen_of_row _ _ _ _ _ hg
  have hnb : (((nb : Nat) : Int) == 0) = false := by rw [beq_eq_false_iff_ne]; omega
  have hnb1 : (((nb : Nat) : Int) == -1) = false := by rw [beq_eq_false_iff_ne]; omega
  have hm0 : (((m : Nat) : Int) + 1 == 0) = false := by rw [beq_eq_false_iff_ne]; omega
  have hm1 : (((m : Nat) : Int) + 1 == -1) = false := by rw [beq_eq_false_iff_ne]; omega
  have hji : (j : Int) < (nb : Int) := by omega
  subst hui
  obtain ⟨a0, a1, a2, a3, a4, a5, a6⟩ := hi
  have f1 : w.frozen? ⟨gi, t * 7 + 4, none⟩ = false := frozen_of_row _ _ _ _ _ hgi
  have hti : (t : Int) < (m : Int) := by omega
  have htn : (((t : Nat) : Int) == ((m : Nat) : Int)) = false := by rw [beq_eq_false_iff_ne]; omega
  have HG := hide hgi
  clear hg hgi hfz
  go_enter Try.func12, Try.ntmps12
  go_wp2_with fail
  go_end0
  exact ⟨rfl, set46i64 HG.out t 4 (by omega) _ (fun h => by omega), (Below.refl _ _).setCell (p := ⟨gi, t * 7 + 4, none⟩) hBi _, Keeps.set HG.out rfl _, K41.keeps (T := fun t => t == 82) rfl (Keeps.set HG.out rfl _)⟩
set_option maxHeartbeats 2000000 in
set_option maxRecDepth 100000 in
theorem turn_i5 (B : Nat) (g cap : Nat) (cur : Array Value) (nb j m : Nat) (ui : Option Addr) (ci : Nat) (e : En) (b k f n : Int) (w : World) (HN : Hid (I64 n)) (hg : w.heap[g]? = some (Obj.cells cur 82 (0, 0))) (hc : BlkCells w g (j * 5) (.slice ui m ci) e)
    (hb0 : 0 ≤ b) (hb1 : b < 256) (hk0 : 0 ≤ k) (hk1 : k < 256) (hb : b.tmod (nb : Int) = (j : Int)) (hj : j < nb) (t : Nat) (hk : k.tmod ((m : Int) + 1) = (t : Int)) (hm : m < 100000) (gi : Nat) (curi : Array Value) (i : Ins) (ua : Option Addr) (ca2 : Nat) (hui : ui = some ⟨gi, 0, none⟩) (hBi : B ≤ gi) (hgi : w.heap[gi]? = some (Obj.cells curi 86 (0, 0))) (hi : InsCells w gi (t * 7) i (.slice ua i.args.length ca2)) (ht : t < m) (h8 : f.tmod 8 = 5) :
    Calls Try.prog 12 #[.slice (some ⟨g, 0, none⟩) nb cap, .int .u8 b, .int .u8 k, .int .u8 f, .int .i64 n] w (TurnPost B w) := by
  obtain ⟨c0, c1, c2, c3, c4⟩ := hc
  have hfz : ∀ o, w.frozen? ⟨g, o, none⟩ = false := fun o => frozen_of_row _ _ _ _ _ hg
  have hnb : (((nb : Nat) : Int) == 0) = false := by rw [beq_eq_false_iff_ne]; omega
  have hnb1 : (((nb : Nat) : Int) == -1) = false := by rw [beq_eq_false_iff_ne]; omega
  have hm0 : (((m : Nat) : Int) + 1 == 0) = false := by rw [beq_eq_false_iff_ne]; omega
  have hm1 : (((m : Nat) : Int) + 1 == -1) = false := by rw [beq_eq_false_iff_ne]; omega
  have hji : (j : Int) < (nb : Int) := by omega
  subst hui
  obtain ⟨a0, a1, a2, a3, a4, a5, a6⟩ := hi
  have f1 : w.frozen? ⟨gi, t * 7 + 5, none⟩ = false := frozen_of_row _ _ _ _ _ hgi
  have hti : (t : Int) < (m : Int) := by omega
  have htn : (((t : Nat) : Int) == ((m : Nat) : Int)) = false := by rw [beq_eq_false_iff_ne]; omega
  have HG := hide hgi
  clear hg hgi hfz
  go_enter Try.func12, Try.ntmps12
  go_wp2_with fail
  go_end0
  exact ⟨rfl, set46i64 HG.out t 5 (by omega) _ (fun _ => HN.out), (Below.refl _ _).setCell (p := ⟨gi, t * 7 + 5, none⟩) hBi _, Keeps.set HG.out rfl _, K41.keeps (T := fun t => t == 82) rfl (Keeps.set HG.out rfl _)⟩
end Go.Proofs.Ytbjnhicikkjadaa
namespace Go.Proofs.Ytbjnhicikkjadaa
open Go.RowKit Ir

theorem wpList_app3 (w : World) {ops : Array Oper} {rest : List Oper} {o : Oper} {a : Act} {Q : Exit → Act → World → Prop} (hgd : o.guard = none) (s y : Operand) (ho : o.op = .call { callee := .builtin .append, args := #[s, y], argTypes := #[49, 49] })
    (B : Nat) (ua : Value) (xs : List Int) (h : Nat) (x : Int) (es : a.eval s = ua) (ey : a.eval y = .slice (some ⟨h, 0, none⟩) 1 1) (hO : ArgsO B w ua xs) (hc : w.cell? ⟨h, 0, none⟩ = some (.int .i64 x)) (hl : xs.length ≤ 1000000) (hB : B ≤ w.heap.size)
    (hK : ∀ v' w', ArgsO B w' v' (xs ++ [x]) → w.grownBy w' ua.ownBlock → Soft B w w' → wpList Try.prog ops Q rest (a.put o.dst v') w') : wpList Try.prog ops Q (o :: rest) a w := by
  refine wpList_plain hgd fun K hK' => ?_
  obtain ⟨v', w', hr, h2, h3, h4⟩ := run_app3 w o.type hO hc hl hB
  unfold Oper.wp execOp
  simp only [ho, resolve, invoke, builtin, Sem.run_bind, Sem.run_pure, Result.andThen_ok, List.map_toArray, List.map_cons, List.map_nil, es, ey, hr]
  exact hK' _ _ (hK v' w' h2 h3 h4)
theorem is41 {T : TypeId → Bool} (hT : T 82 = true) : ∀ t : TypeId, (t == 82) = true → T t = true := by
  intro t ht
  have e : t = 82 := by simpa using ht
  rw [e]
  exact hT
set_option maxHeartbeats 2000000 in
set_option maxRecDepth 100000 in
theorem turn_i6 (B : Nat) (g cap : Nat) (cur : Array Value) (nb j m : Nat) (ui : Option Addr) (ci : Nat) (e : En) (b k f n : Int) (w : World) (hg : w.heap[g]? = some (Obj.cells cur 82 (0, 0))) (hc : BlkCells w g (j * 5) (.slice ui m ci) e)
    (hb0 : 0 ≤ b) (hb1 : b < 256) (hk0 : 0 ≤ k) (hk1 : k < 256) (hb : b.tmod (nb : Int) = (j : Int)) (hj : j < nb) (t : Nat) (hk : k.tmod ((m : Int) + 1) = (t : Int)) (hm : m < 100000) (gi : Nat) (curi : Array Value) (i : Ins) (ua : Option Addr) (ca2 : Nat) (hui : ui = some ⟨gi, 0, none⟩) (hBi : B ≤ gi) (hgi : w.heap[gi]? = some (Obj.cells curi 86 (0, 0))) (hi : InsCells w gi (t * 7) i (.slice ua i.args.length ca2)) (ht : t < m) (h8 : f.tmod 8 = 6) (hA : ArgsO B w (.slice ua i.args.length ca2) i.args) (hal : i.args.length ≤ 1000000) (hB : B ≤ w.heap.size) :
    Calls Try.prog 12 #[.slice (some ⟨g, 0, none⟩) nb cap, .int .u8 b, .int .u8 k, .int .u8 f, .int .i64 n] w (TurnPost B w) := by
  obtain ⟨c0, c1, c2, c3, c4⟩ := hc
  have hfz : ∀ o, w.frozen? ⟨g, o, none⟩ = false := fun o => frozen_of_row _ _ _ _ _ hg
  have hnb : (((nb : Nat) : Int) == 0) = false := by rw [beq_eq_false_iff_ne]; omega
  have hnb1 : (((nb : Nat) : Int) == -1) = false := by rw [beq_eq_false_iff_ne]; omega
  have hm0 : (((m : Nat) : Int) + 1 == 0) = false := by rw [beq_eq_false_iff_ne]; omega
  have hm1 : (((m : Nat) : Int) + 1 == -1) = false := by rw [beq_eq_false_iff_ne]; omega
  have hji : (j : Int) < (nb : Int) := by omega
  subst hui
  obtain ⟨a0, a1, a2, a3, a4, a5, a6⟩ := hi
  have hti : (t : Int) < (m : Int) := by omega
  have htn : (((t : Nat) : Int) == ((m : Nat) : Int)) = false := by rw [beq_eq_false_iff_ne]; omega
  have hBx := (Below.refl w.heap.size w).alloc (Nat.le_refl _) (.cells #[.int .i64 n] 3)
  have hA1 := hA.keeps (Keeps.below hBx)
  have hc1 : (w.alloc (.cells #[.int .i64 n] 3)).cell? ⟨w.heap.size, 0, none⟩ = some (.int .i64 n) := by rw [World.cell?_alloc_new]; rfl
  have hB1 : B ≤ (w.alloc (.cells #[.int .i64 n] 3)).heap.size := Nat.le_trans hB hBx.size
  have hgi1 : (w.alloc (.cells #[.int .i64 n] 3)).heap[gi]? = some (Obj.cells curi 86 (0, 0)) := by rw [hBx.block gi (Array.getElem?_eq_some_iff.1 hgi).1]; exact hgi
  have HG1 := hide hgi1
  have HBX := hide hBx
  have hsl : (curi)[t * 7 + 6]? = some (.slice ua i.args.length ca2) := by rw [← cell_of_row _ _ _ _ _ _ hgi]; exact a6
  have HSL := hide hsl
  clear hg hgi hfz hBx hgi1 hA hsl
  go_enter Try.func12, Try.ntmps12
  go_wp2_with (at_builtin; go_must (refine wpList_app3 _ rfl (.tmp 132) (.tmp 134) rfl B _ i.args _ n rfl rfl hA1 hc1 hal hB1 ?_))
  intro v2 w2 hO2 hg2 hS2
  have hk2 := Keeps.grown (T := fun t => t != 3) hA1 rfl hg2
  have hgi2 := hk2 _ _ _ _ rfl HG1.out
  have z1 : w2.cell? ⟨gi, t * 7 + 6, none⟩ = some (.slice ua i.args.length ca2) := by rw [cell_of_row _ _ _ _ _ _ hgi2]; exact HSL.out
  have z2 : w2.frozen? ⟨gi, t * 7 + 6, none⟩ = false := frozen_of_row _ _ _ _ _ hgi2
  have hks : Keeps (fun t => t != 86) w2 (w2.setCell ⟨gi, t * 7 + 6, none⟩ v2) := Keeps.set hgi2 rfl v2
  have hOf : ArgsO B (w2.setCell ⟨gi, t * 7 + 6, none⟩ v2) v2 (i.args ++ [n]) := owns_keeps hO2 hks rfl
  have hSf : Soft B w (w2.setCell ⟨gi, t * 7 + 6, none⟩ v2) := ((Soft.below HBX.out).trans hS2).trans (Soft.set hgi2 ⟨fun h => by simp at h, fun _ => ⟨fun h => by omega, fun h1 h2 => by omega, fun _ => ⟨_, hOf⟩⟩, fun h => by simp at h⟩)
  have hBf : Below B w (w2.setCell ⟨gi, t * 7 + 6, none⟩ v2) := (((Below.refl B w).alloc hB _).grown hg2 hB1 (fun k hk => (hA1.lt k hk).1)).setCell (p := ⟨gi, t * 7 + 6, none⟩) hBi _
  have HSF := hide hSf
  have HKF : Hid (Keeps T24 w (w2.setCell ⟨gi, t * 7 + 6, none⟩ v2)) := ((Keeps.below HBX.out).trans (hk2.weak fun t ht => by simp [T24] at *; exact ht.1.1)).trans (hks.weak fun t ht => by simp [T24] at *; exact ht.1.2)
  have HK1 : Hid (K41 w (w2.setCell ⟨gi, t * 7 + 6, none⟩ v2)) := K41.keeps (T := fun t => t == 82) rfl (((Keeps.below HBX.out).trans (hk2.weak (is41 (T := fun t => t != 3) rfl))).trans (hks.weak (is41 (T := fun t => t != 86) rfl)))
  obtain ⟨v2a, v2c, hv2⟩ := hO2.v.slice
  simp only [List.length_append, List.length_cons, List.length_nil, Nat.zero_add] at hv2
  subst hv2
  clear hO2 hg2 hS2 hk2 hgi2 hks hOf hSf hA1 hc1
  go_wp2_with fail
  go_end0
  exact ⟨rfl, HSF.out, hBf, HKF.out, HK1.out⟩
set_option maxHeartbeats 2000000 in
set_option maxRecDepth 100000 in
theorem turn_i7a (B : Nat) (g cap : Nat) (cur : Array Value) (nb j m : Nat) (ui : Option Addr) (ci : Nat) (e : En) (b k f n : Int) (w : World) (hg : w.heap[g]? = some (Obj.cells cur 82 (0, 0))) (hc : BlkCells w g (j * 5) (.slice ui m ci) e)
    (hb0 : 0 ≤ b) (hb1 : b < 256) (hk0 : 0 ≤ k) (hk1 : k < 256) (hb : b.tmod (nb : Int) = (j : Int)) (hj : j < nb) (t : Nat) (hk : k.tmod ((m : Int) + 1) = (t : Int)) (hm : m < 100000) (gi : Nat) (i : Ins) (ua : Option Addr) (ca2 : Nat) (hui : ui = some ⟨gi, 0, none⟩) (hi : InsCells w gi (t * 7) i (.slice ua i.args.length ca2)) (ht : t < m) (h8 : f.tmod 8 = 7) (hal : i.args.length = 0) :
    Calls Try.prog 12 #[.slice (some ⟨g, 0, none⟩) nb cap, .int .u8 b, .int .u8 k, .int .u8 f, .int .i64 n] w (TurnPost B w) := by
  obtain ⟨c0, c1, c2, c3, c4⟩ := hc
  have hfz : ∀ o, w.frozen? ⟨g, o, none⟩ = false := fun o => frozen_of_row _ _ _ _ _ hg
  have hnb : (((nb : Nat) : Int) == 0) = false := by rw [beq_eq_false_iff_ne]; omega
  have hnb1 : (((nb : Nat) : Int) == -1) = false := by rw [beq_eq_false_iff_ne]; omega
  have hm0 : (((m : Nat) : Int) + 1 == 0) = false := by rw [beq_eq_false_iff_ne]; omega
  have hm1 : (((m : Nat) : Int) + 1 == -1) = false := by rw [beq_eq_false_iff_ne]; omega
  have hji : (j : Int) < (nb : Int) := by omega
  subst hui
  obtain ⟨a0, a1, a2, a3, a4, a5, a6⟩ := hi
  have hti : (t : Int) < (m : Int) := by omega
  have htn : (((t : Nat) : Int) == ((m : Nat) : Int)) = false := by rw [beq_eq_false_iff_ne]; omega
  have hal' : ¬ (0 : Int) < (i.args.length : Int) := by omega
  clear hg hfz hal
  go_enter Try.func12, Try.ntmps12
  go_wp2_with fail
  go_end0
  exact ⟨rfl, Soft.refl _ _, Below.refl _ _, Keeps.refl _ _, K41.refl _⟩
set_option maxHeartbeats 2000000 in
set_option maxRecDepth 100000 in
theorem turn_i7b (B : Nat) (g cap : Nat) (cur : Array Value) (nb j m : Nat) (ui : Option Addr) (ci : Nat) (e : En) (b k f n : Int) (w : World) (hg : w.heap[g]? = some (Obj.cells cur 82 (0, 0))) (hc : BlkCells w g (j * 5) (.slice ui m ci) e)
    (hb0 : 0 ≤ b) (hb1 : b < 256) (hk0 : 0 ≤ k) (hk1 : k < 256) (hb : b.tmod (nb : Int) = (j : Int)) (hj : j < nb) (t : Nat) (hk : k.tmod ((m : Int) + 1) = (t : Int)) (hm : m < 100000) (gi : Nat) (i : Ins) (ua : Option Addr) (ca2 : Nat) (hui : ui = some ⟨gi, 0, none⟩) (hi : InsCells w gi (t * 7) i (.slice ua i.args.length ca2)) (ht : t < m) (h8 : f.tmod 8 = 7) (ga : Nat) (cura : Array Value) (hua : ua = some ⟨ga, 0, none⟩) (hBa : B ≤ ga) (hga : w.heap[ga]? = some (Obj.cells cura 3 (0, 0))) (x0 : Int) (hx0 : w.cell? ⟨ga, 0, none⟩ = some (.int .i64 x0)) (hal : 0 < i.args.length) :
    Calls Try.prog 12 #[.slice (some ⟨g, 0, none⟩) nb cap, .int .u8 b, .int .u8 k, .int .u8 f, .int .i64 n] w (TurnPost B w) := by
  obtain ⟨c0, c1, c2, c3, c4⟩ := hc
  have hfz : ∀ o, w.frozen? ⟨g, o, none⟩ = false := fun o => frozen_of_row _ _ _ _ _ hg
  have hnb : (((nb : Nat) : Int) == 0) = false := by rw [beq_eq_false_iff_ne]; omega
  have hnb1 : (((nb : Nat) : Int) == -1) = false := by rw [beq_eq_false_iff_ne]; omega
  have hm0 : (((m : Nat) : Int) + 1 == 0) = false := by rw [beq_eq_false_iff_ne]; omega
  have hm1 : (((m : Nat) : Int) + 1 == -1) = false := by rw [beq_eq_false_iff_ne]; omega
  have hji : (j : Int) < (nb : Int) := by omega
  subst hui
  subst hua
  obtain ⟨a0, a1, a2, a3, a4, a5, a6⟩ := hi
  have hti : (t : Int) < (m : Int) := by omega
  have htn : (((t : Nat) : Int) == ((m : Nat) : Int)) = false := by rw [beq_eq_false_iff_ne]; omega
  have hal' : (0 : Int) < (i.args.length : Int) := by omega
  have f1 : w.frozen? ⟨ga, 0, none⟩ = false := frozen_of_row _ _ _ _ _ hga
  have HG := hide hga
  clear hg hfz hal hga
  go_enter Try.func12, Try.ntmps12
  go_wp2_with fail
  go_end0
  exact ⟨rfl, Soft.set HG.out ⟨fun _ => ⟨_, rfl⟩, fun h => by simp at h, fun h => by simp at h⟩, (Below.refl _ _).setCell (p := ⟨ga, 0, none⟩) hBa _, Keeps.set HG.out rfl _, K41.keeps (T := fun t => t == 82) rfl (Keeps.set HG.out rfl _)⟩

theorem turn_any (B : Nat) (u : Value) (bs : List Blk) (b k f n : Int) (w : World) (hu : BlksO B w u bs) (hB : B ≤ w.heap.size) (hb0 : 0 ≤ b) (hb1 : b < 256) (hk0 : 0 ≤ k) (hk1 : k < 256) (hf0 : 0 ≤ f)
    (hn : I64 n) (hlen : ∀ x ∈ bs, x.ins.length < 100000 ∧ ∀ i ∈ x.ins, i.args.length ≤ 1000000) : Calls Try.prog 12 #[u, .int .u8 b, .int .u8 k, .int .u8 f, .int .i64 n] w (TurnPost B w) := by
  by_cases h0 : bs.length = 0
  · obtain rfl : bs = [] := List.eq_nil_of_length_eq_zero h0
    exact turn_none B u b k f n w hu
  have hu' := hu
  obtain ⟨ps, hps, hown, hall⟩ := hu'
  obtain ⟨g, cap, cur, rfl, hBg, hg, _⟩ := hu.rows (by omega)
  have hpl : ps.length = bs.length := by rw [← hps, List.length_map]
  have htb : b.tmod (bs.length : Int) = b % (bs.length : Int) := Int.tmod_eq_emod_of_nonneg hb0
  have hbr : 0 ≤ b % (bs.length : Int) ∧ b % (bs.length : Int) < (bs.length : Int) := ⟨Int.emod_nonneg _ (by omega), Int.emod_lt_of_pos _ (by omega)⟩
  obtain ⟨j, hj⟩ : ∃ j : Nat, (j : Int) = b % (bs.length : Int) := ⟨(b % (bs.length : Int)).toNat, by omega⟩
  have hjl : j < bs.length := by omega
  have hb : b.tmod (bs.length : Int) = (j : Int) := by rw [htb, hj]
  have hjp : j < ps.length := by omega
  have hp : ps[j]? = some ps[j] := List.getElem?_eq_getElem hjp
  obtain ⟨g0, g1, g2, g3, g4⟩ := cellsB_get ps j _ hp
  have hcc : ∀ q x, q < 5 → (cellsB ps)[j * 5 + q]? = some x → w.cell? ⟨g, j * 5 + q, none⟩ = some x := by
    intro q x _ hx
    have := hown.cells (g := g) rfl _ _ hx
    rwa [Addr.add_lit, Nat.zero_add] at this
  have hI := hall _ (List.getElem_mem hjp)
  have hmem : ps[j].1 ∈ bs := by rw [← hps]; exact List.mem_map_of_mem (List.getElem_mem hjp)
  obtain ⟨hml, hargs⟩ := hlen _ hmem
  have hcells : BlkCells w g (j * 5) ps[j].2 ps[j].1.e := ⟨hcc 0 _ (by omega) g0, hcc 1 _ (by omega) g1, hcc 2 _ (by omega) g2, hcc 3 _ (by omega) g3, hcc 4 _ (by omega) g4⟩
  generalize ps[j].2 = ui at *
  generalize ps[j].1 = blk at *
  obtain ⟨is, e⟩ := blk
  simp only at hI hml hargs hcells
  obtain ⟨ua, uc, rfl⟩ := hI.v.slice
  have htk : k.tmod ((is.length : Int) + 1) = k % ((is.length : Int) + 1) := Int.tmod_eq_emod_of_nonneg hk0
  have hkr : 0 ≤ k % ((is.length : Int) + 1) ∧ k % ((is.length : Int) + 1) < (is.length : Int) + 1 := ⟨Int.emod_nonneg _ (by omega), Int.emod_lt_of_pos _ (by omega)⟩
  obtain ⟨t, ht⟩ : ∃ t : Nat, (t : Int) = k % ((is.length : Int) + 1) := ⟨(k % ((is.length : Int) + 1)).toNat, by omega⟩
  have hkk : k.tmod ((is.length : Int) + 1) = (t : Int) := by rw [htk, ht]
  by_cases htm : t = is.length
  · have h4 : f.tmod 4 = f % 4 := Int.tmod_eq_emod_of_nonneg hf0
    have : f % 4 = 0 ∨ f % 4 = 1 ∨ f % 4 = 2 ∨ f % 4 = 3 := by omega
    rcases this with h | h | h | h
    · exact turn_e0 B g cap cur bs.length j is.length ua uc e b k f n w hBg hg hcells hb0 hb1 hk0 hk1 hb hjl t hkk hml htm (by rw [h4, h])
    · exact turn_e1 B g cap cur bs.length j is.length ua uc e b k f n w hBg hg hcells hb0 hb1 hk0 hk1 hb hjl t hkk hml htm (by rw [h4, h])
    · exact turn_e2 B g cap cur bs.length j is.length ua uc e b k f n w hBg hg hcells hb0 hb1 hk0 hk1 hb hjl t hkk hml htm (by rw [h4, h])
    · exact turn_e3 B g cap cur bs.length j is.length ua uc e b k f n w hBg hg hcells hb0 hb1 hk0 hk1 hb hjl t hkk hml htm (by rw [h4, h])
  · have htl : t < is.length := by omega
    have hI' := hI
    obtain ⟨qs, hqs, hqown, hqall⟩ := hI'
    obtain ⟨gi, ci, curi, hue, hBi, hgi, _⟩ := hI.rows (by omega)
    simp only [Value.slice.injEq, true_and] at hue
    obtain ⟨hue, rfl⟩ := hue
    have hql : qs.length = is.length := by rw [← hqs, List.length_map]
    have htq : t < qs.length := by omega
    have hq : qs[t]? = some qs[t] := List.getElem?_eq_getElem htq
    obtain ⟨i0, i1, i2, i3, i4, i5, i6⟩ := cellsI_get qs t _ hq
    have hci : ∀ q x, q < 7 → (cellsI qs)[t * 7 + q]? = some x → w.cell? ⟨gi, t * 7 + q, none⟩ = some x := by
      intro q x _ hx
      have := hqown.cells (g := gi) (by rw [hue]; rfl) _ _ hx
      rwa [Addr.add_lit, Nat.zero_add] at this
    have hA := hqall _ (List.getElem_mem htq)
    have hmemi : qs[t].1 ∈ is := by rw [← hqs]; exact List.mem_map_of_mem (List.getElem_mem htq)
    have hal := hargs _ hmemi
    have hic : InsCells w gi (t * 7) qs[t].1 qs[t].2 := ⟨hci 0 _ (by omega) i0, hci 1 _ (by omega) i1, hci 2 _ (by omega) i2, hci 3 _ (by omega) i3, hci 4 _ (by omega) i4, hci 5 _ (by omega) i5, hci 6 _ (by omega) i6⟩
    generalize qs[t].2 = va at *
    generalize qs[t].1 = i at *
    obtain ⟨aa, ac, rfl⟩ := hA.v.slice
    have h8 : f.tmod 8 = f % 8 := Int.tmod_eq_emod_of_nonneg hf0
    have : f % 8 = 0 ∨ f % 8 = 1 ∨ f % 8 = 2 ∨ f % 8 = 3 ∨ f % 8 = 4 ∨ f % 8 = 5 ∨ f % 8 = 6 ∨ f % 8 = 7 := by omega
    rcases this with h | h | h | h | h | h | h | h
    · exact turn_i0 B g cap cur bs.length j is.length ua uc e b k f n w hg hcells hb0 hb1 hk0 hk1 hb hjl t hkk hml gi curi i aa ac hue hBi hgi hic htl (by rw [h8, h])
    · exact turn_i1 B g cap cur bs.length j is.length ua uc e b k f n w hg hcells hb0 hb1 hk0 hk1 hb hjl t hkk hml gi curi i aa ac hue hBi hgi hic htl (by rw [h8, h])
    · exact turn_i2 B g cap cur bs.length j is.length ua uc e b k f n w hg hcells hb0 hb1 hk0 hk1 hb hjl t hkk hml gi curi i aa ac hue hBi hgi hic htl (by rw [h8, h])
    · exact turn_i3 B g cap cur bs.length j is.length ua uc e b k f n w hg hcells hb0 hb1 hk0 hk1 hb hjl t hkk hml gi curi i aa ac hue hBi hgi hic htl (by rw [h8, h])
    · exact turn_i4 B g cap cur bs.length j is.length ua uc e b k f n w hg hcells hb0 hb1 hk0 hk1 hb hjl t hkk hml gi curi i aa ac hue hBi hgi hic htl (by rw [h8, h])
    · exact turn_i5 B g cap cur bs.length j is.length ua uc e b k f n w (hide hn) hg hcells hb0 hb1 hk0 hk1 hb hjl t hkk hml gi curi i aa ac hue hBi hgi hic htl (by rw [h8, h])
    · exact turn_i6 B g cap cur bs.length j is.length ua uc e b k f n w hg hcells hb0 hb1 hk0 hk1 hb hjl t hkk hml gi curi i aa ac hue hBi hgi hic htl (by rw [h8, h]) hA hal hB
    · by_cases hal0 : i.args.length = 0
      · exact turn_i7a B g cap cur bs.length j is.length ua uc e b k f n w hg hcells hb0 hb1 hk0 hk1 hb hjl t hkk hml gi i aa ac hue hic htl (by rw [h8, h]) hal0
      · have hA' := hA
        rcases hA'.2 with ⟨hv, hv0⟩ | ⟨ga, cap', cura, hv, hba, hga, _⟩
        · omega
        · simp only [Value.slice.injEq] at hv
          obtain ⟨bb, off, e1, hx0⟩ := hA.v.at 0 (by omega)
          rw [hv.1] at e1
          simp only [Option.some.injEq, Addr.mk.injEq, and_true] at e1
          obtain ⟨rfl, rfl⟩ := e1
          exact turn_i7b B g cap cur bs.length j is.length ua uc e b k f n w hg hcells hb0 hb1 hk0 hk1 hb hjl t hkk hml gi i aa ac hue hic htl (by rw [h8, h]) ga cura hv.1 hba hga _ hx0 (by omega)
end Go.Proofs.Ytbjnhicikkjadaa
