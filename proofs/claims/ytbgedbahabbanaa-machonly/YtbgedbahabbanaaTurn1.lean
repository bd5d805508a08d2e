/- Turn: whatever is turned of blocks that the call has laid, blocks they are. -/
import Derived.Test.YtbgedbahabbanaaSoft
import Derived.Test.YtbgedbahabbanaaMade1
namespace Go.Proofs.Ytbgedbahabbanaa
open Go.RowKit Ir

theorem BlksO.rows {B : Nat} {w : World} {u : Value} {bs : List Blk} (h : BlksO B w u bs) (h0 : 0 < bs.length) : ∃ g cap cur, u = .slice (some ⟨g, 0, none⟩) bs.length cap ∧ B ≤ g ∧ w.heap[g]? = some (Obj.cells cur 41 (0, 0)) ∧
    ∀ j, j < bs.length → ∃ uj is e, BlkCells w g (j * 5) uj e ∧ InssO B w uj is := by
  have hv := h.v
  obtain ⟨ps, rfl, h2, h3⟩ := h
  rw [List.length_map] at h0 ⊢
  rcases h2.2 with ⟨rfl, h00⟩ | ⟨g, cap, cur, rfl, hb, hg, _⟩
  · omega
  · refine ⟨g, cap, cur, rfl, hb, hg, fun j hj => ?_⟩
    have hp : ps[j]? = some ps[j] := List.getElem?_eq_getElem hj
    obtain ⟨g0, g1, g2, g3, g4⟩ := cellsB_get ps j _ hp
    have hc : ∀ k x, k < 5 → (cellsB ps)[j * 5 + k]? = some x → w.cell? ⟨g, j * 5 + k, none⟩ = some x := by
      intro k x hk hx
      rw [h2.cellAt (j * 5 + k) (by omega), hx]
    exact ⟨ps[j].2, _, ps[j].1.e, ⟨hc 0 _ (by omega) g0, hc 1 _ (by omega) g1, hc 2 _ (by omega) g2, hc 3 _ (by omega) g3, hc 4 _ (by omega) g4⟩, h3 _ (List.getElem_mem hj)⟩
theorem InssO.rows {B : Nat} {w : World} {u : Value} {is : List Ins} (h : InssO B w u is) (h0 : 0 < is.length) : ∃ g cap cur, u = .slice (some ⟨g, 0, none⟩) is.length cap ∧ B ≤ g ∧ w.heap[g]? = some (Obj.cells cur 46 (0, 0)) ∧
    ∀ j, j < is.length → ∃ uj i, InsCells w g (j * 7) i uj ∧ ArgsO B w uj i.args := by
  obtain ⟨ps, rfl, h2, h3⟩ := h
  rw [List.length_map] at h0 ⊢
  rcases h2.2 with ⟨rfl, h00⟩ | ⟨g, cap, cur, rfl, hb, hg, _⟩
  · omega
  · refine ⟨g, cap, cur, rfl, hb, hg, fun j hj => ?_⟩
    have hp : ps[j]? = some ps[j] := List.getElem?_eq_getElem hj
    obtain ⟨g0, g1, g2, g3, g4, g5, g6⟩ := cellsI_get ps j _ hp
    have hc : ∀ k x, k < 7 → (cellsI ps)[j * 7 + k]? = some x → w.cell? ⟨g, j * 7 + k, none⟩ = some x := by
      intro k x hk hx
      rw [h2.cellAt (j * 7 + k) (by omega), hx]
    exact ⟨ps[j].2, ps[j].1, ⟨hc 0 _ (by omega) g0, hc 1 _ (by omega) g1, hc 2 _ (by omega) g2, hc 3 _ (by omega) g3, hc 4 _ (by omega) g4, hc 5 _ (by omega) g5, hc 6 _ (by omega) g6⟩, h3 _ (List.getElem_mem hj)⟩

/-- What is none of a function's own rows. -/
def T24 : TypeId → Bool := fun t => t != 3 && t != 46 && t != 41
/-- Where blocks lie, their instructions' slices are as they were. -/
def K41 (w w' : World) : Prop := ∀ (g : Nat) (cs : Array Value), w.heap[g]? = some (Obj.cells cs 41 (0, 0)) → ∃ cs', w'.heap[g]? = some (Obj.cells cs' 41 (0, 0)) ∧ ∀ j : Nat, j % 5 = 0 → cs'[j]? = cs[j]?
theorem K41.keeps {T : TypeId → Bool} {w w' : World} (hT : T 41 = true) (h : Keeps T w w') : K41 w w' := fun g cs h0 => ⟨cs, h g cs 41 (0, 0) hT h0, fun _ _ => rfl⟩
theorem K41.refl (w : World) : K41 w w := fun _ cs h0 => ⟨cs, h0, fun _ _ => rfl⟩
theorem K41.set {w : World} {g j : Nat} {cs : Array Value} {u : Value} (h0 : w.heap[g]? = some (Obj.cells cs 41 (0, 0))) (hj : j % 5 ≠ 0) : K41 w (w.setCell ⟨g, j, none⟩ u) := by
  intro g' cs' h'
  by_cases e : g' = g
  · subst e
    rw [h0] at h'
    simp only [Option.some.injEq, Obj.cells.injEq] at h'
    obtain ⟨rfl, _⟩ := h'
    refine ⟨_, heap_setCell_same w g' j cs 41 u h0, fun i hi => ?_⟩
    rw [Array.getElem?_setIfInBounds_ne (fun h => hj (by rw [h]; exact hi))]
  · refine ⟨cs', ?_, fun _ _ => rfl⟩
    rw [Below.heap_setCell _ _ _ _ (fun h => e (by simpa using h))]
    exact h'
/-- What Turn leaves. -/
def TurnPost (B : Nat) (w : World) (e : Ending) (w' : World) : Prop := e = .returned (.tuple #[]) ∧ Soft B w w' ∧ Below B w w' ∧ Keeps T24 w w' ∧ K41 w w'

section
variable {B : Nat} {w : World}
theorem set41u8 {g : Nat} {cur : Array Value} (hg : w.heap[g]? = some (Obj.cells cur 41 (0, 0))) (j : Nat) (x : Int) : Soft B w (w.setCell ⟨g, j * 5 + 1, none⟩ (.int .u8 x)) :=
  Soft.set hg ⟨fun h => by simp at h, fun h => by simp at h, fun _ => ⟨fun h => by omega, fun _ => ⟨x, rfl⟩, fun h => by omega⟩⟩
theorem set41i64 {g : Nat} {cur : Array Value} (hg : w.heap[g]? = some (Obj.cells cur 41 (0, 0))) (j k : Nat) (hk : 2 ≤ k ∧ k < 5) (x : Int) : Soft B w (w.setCell ⟨g, j * 5 + k, none⟩ (.int .i64 x)) :=
  Soft.set hg ⟨fun h => by simp at h, fun h => by simp at h, fun _ => ⟨fun h => by omega, fun h => by omega, fun _ => ⟨x, rfl⟩⟩⟩
theorem set46u8 {g : Nat} {cur : Array Value} (hg : w.heap[g]? = some (Obj.cells cur 46 (0, 0))) (j k : Nat) (hk : k < 2) (x : Int) : Soft B w (w.setCell ⟨g, j * 7 + k, none⟩ (.int .u8 x)) :=
  Soft.set hg ⟨fun h => by simp at h, fun _ => ⟨fun _ => ⟨x, rfl⟩, fun h => by omega, fun h => by omega⟩, fun h => by simp at h⟩
theorem set46i64 {g : Nat} {cur : Array Value} (hg : w.heap[g]? = some (Obj.cells cur 46 (0, 0))) (j k : Nat) (hk : 2 ≤ k ∧ k < 6) (x : Int) : Soft B w (w.setCell ⟨g, j * 7 + k, none⟩ (.int .i64 x)) :=
  Soft.set hg ⟨fun h => by simp at h, fun _ => ⟨fun h => by omega, fun _ _ => ⟨x, rfl⟩, fun h => by omega⟩, fun h => by simp at h⟩
end

set_option maxHeartbeats 1000000 in
set_option maxRecDepth 100000 in
theorem turn_none (B : Nat) (u : Value) (b k f n : Int) (w : World) (hu : BlksO B w u []) : Calls Try.prog 12 #[u, .int .u8 b, .int .u8 k, .int .u8 f, .int .i64 n] w (TurnPost B w) := by
  obtain ⟨ua, uc, rfl⟩ := hu.v.slice
  clear hu
  go_enter Try.func12, Try.ntmps12
  go_wp2_with fail
  go_end0
  exact ⟨rfl, Soft.refl _ _, Below.refl _ _, Keeps.refl _ _, K41.refl _⟩
set_option maxHeartbeats 2000000 in
set_option maxRecDepth 100000 in
theorem turn_e0 (B : Nat) (g cap : Nat) (cur : Array Value) (nb j m : Nat) (ui : Option Addr) (ci : Nat) (e : En) (b k f n : Int) (w : World) (hBg : B ≤ g) (hg : w.heap[g]? = some (Obj.cells cur 41 (0, 0))) (hc : BlkCells w g (j * 5) (.slice ui m ci) e)
    (hb0 : 0 ≤ b) (hb1 : b < 256) (hk0 : 0 ≤ k) (hk1 : k < 256) (hb : b.tmod (nb : Int) = (j : Int)) (hj : j < nb) (t : Nat) (hk : k.tmod ((m : Int) + 1) = (t : Int)) (hm : m < 100000) (ht : t = m) (h4 : f.tmod 4 = 0) :
    Calls Try.prog 12 #[.slice (some ⟨g, 0, none⟩) nb cap, .int .u8 b, .int .u8 k, .int .u8 f, .int .i64 n] w (TurnPost B w) := by
  obtain ⟨c0, c1, c2, c3, c4⟩ := hc
  have hfz : ∀ o, w.frozen? ⟨g, o, none⟩ = false := fun o => frozen_of_row _ _ _ _ _ hg
  have hnb : (((nb : Nat) : Int) == 0) = false := by rw [beq_eq_false_iff_ne]; omega
  have hnb1 : (((nb : Nat) : Int) == -1) = false := by rw [beq_eq_false_iff_ne]; omega
  have hm0 : (((m : Nat) : Int) + 1 == 0) = false := by rw [beq_eq_false_iff_ne]; omega
  have hm1 : (((m : Nat) : Int) + 1 == -1) = false := by rw [beq_eq_false_iff_ne]; omega
  have hji : (j : Int) < (nb : Int) := by omega
  subst ht
  have f1 := hfz (j * 5 + 1)
  have HG := hide hg
  clear hg hfz
  go_enter Try.func12, Try.ntmps12
  go_wp2_with fail
  go_end0
  exact ⟨rfl, set41u8 HG.out j _, (Below.refl _ _).setCell (p := ⟨g, j * 5 + 1, none⟩) hBg _, Keeps.set HG.out rfl _, K41.set HG.out (by omega)⟩
set_option maxHeartbeats 2000000 in
set_option maxRecDepth 100000 in
theorem turn_e1 (B : Nat) (g cap : Nat) (cur : Array Value) (nb j m : Nat) (ui : Option Addr) (ci : Nat) (e : En) (b k f n : Int) (w : World) (hBg : B ≤ g) (hg : w.heap[g]? = some (Obj.cells cur 41 (0, 0))) (hc : BlkCells w g (j * 5) (.slice ui m ci) e)
    (hb0 : 0 ≤ b) (hb1 : b < 256) (hk0 : 0 ≤ k) (hk1 : k < 256) (hb : b.tmod (nb : Int) = (j : Int)) (hj : j < nb) (t : Nat) (hk : k.tmod ((m : Int) + 1) = (t : Int)) (hm : m < 100000) (ht : t = m) (h4 : f.tmod 4 = 1) :
    Calls Try.prog 12 #[.slice (some ⟨g, 0, none⟩) nb cap, .int .u8 b, .int .u8 k, .int .u8 f, .int .i64 n] w (TurnPost B w) := by
  obtain ⟨c0, c1, c2, c3, c4⟩ := hc
  have hfz : ∀ o, w.frozen? ⟨g, o, none⟩ = false := fun o => frozen_of_row _ _ _ _ _ hg
  have hnb : (((nb : Nat) : Int) == 0) = false := by rw [beq_eq_false_iff_ne]; omega
  have hnb1 : (((nb : Nat) : Int) == -1) = false := by rw [beq_eq_false_iff_ne]; omega
  have hm0 : (((m : Nat) : Int) + 1 == 0) = false := by rw [beq_eq_false_iff_ne]; omega
  have hm1 : (((m : Nat) : Int) + 1 == -1) = false := by rw [beq_eq_false_iff_ne]; omega
  have hji : (j : Int) < (nb : Int) := by omega
  subst ht
  have f1 := hfz (j * 5 + 2)
  have HG := hide hg
  clear hg hfz
  go_enter Try.func12, Try.ntmps12
  go_wp2_with fail
  go_end0
  exact ⟨rfl, set41i64 HG.out j 2 (by omega) _, (Below.refl _ _).setCell (p := ⟨g, j * 5 + 2, none⟩) hBg _, Keeps.set HG.out rfl _, K41.set HG.out (by omega)⟩
set_option maxHeartbeats 2000000 in
set_option maxRecDepth 100000 in
theorem turn_e2 (B : Nat) (g cap : Nat) (cur : Array Value) (nb j m : Nat) (ui : Option Addr) (ci : Nat) (e : En) (b k f n : Int) (w : World) (hBg : B ≤ g) (hg : w.heap[g]? = some (Obj.cells cur 41 (0, 0))) (hc : BlkCells w g (j * 5) (.slice ui m ci) e)
    (hb0 : 0 ≤ b) (hb1 : b < 256) (hk0 : 0 ≤ k) (hk1 : k < 256) (hb : b.tmod (nb : Int) = (j : Int)) (hj : j < nb) (t : Nat) (hk : k.tmod ((m : Int) + 1) = (t : Int)) (hm : m < 100000) (ht : t = m) (h4 : f.tmod 4 = 2) :
    Calls Try.prog 12 #[.slice (some ⟨g, 0, none⟩) nb cap, .int .u8 b, .int .u8 k, .int .u8 f, .int .i64 n] w (TurnPost B w) := by
  obtain ⟨c0, c1, c2, c3, c4⟩ := hc
  have hfz : ∀ o, w.frozen? ⟨g, o, none⟩ = false := fun o => frozen_of_row _ _ _ _ _ hg
  have hnb : (((nb : Nat) : Int) == 0) = false := by rw [beq_eq_false_iff_ne]; omega
  have hnb1 : (((nb : Nat) : Int) == -1) = false := by rw [beq_eq_false_iff_ne]; omega
  have hm0 : (((m : Nat) : Int) + 1 == 0) = false := by rw [beq_eq_false_iff_ne]; omega
  have hm1 : (((m : Nat) : Int) + 1 == -1) = false := by rw [beq_eq_false_iff_ne]; omega
  have hji : (j : Int) < (nb : Int) := by omega
  subst ht
  have f1 := hfz (j * 5 + 3)
  have HG := hide hg
  clear hg hfz
  go_enter Try.func12, Try.ntmps12
  go_wp2_with fail
  go_end0
  exact ⟨rfl, set41i64 HG.out j 3 (by omega) _, (Below.refl _ _).setCell (p := ⟨g, j * 5 + 3, none⟩) hBg _, Keeps.set HG.out rfl _, K41.set HG.out (by omega)⟩
set_option maxHeartbeats 2000000 in
set_option maxRecDepth 100000 in
theorem turn_e3 (B : Nat) (g cap : Nat) (cur : Array Value) (nb j m : Nat) (ui : Option Addr) (ci : Nat) (e : En) (b k f n : Int) (w : World) (hBg : B ≤ g) (hg : w.heap[g]? = some (Obj.cells cur 41 (0, 0))) (hc : BlkCells w g (j * 5) (.slice ui m ci) e)
    (hb0 : 0 ≤ b) (hb1 : b < 256) (hk0 : 0 ≤ k) (hk1 : k < 256) (hb : b.tmod (nb : Int) = (j : Int)) (hj : j < nb) (t : Nat) (hk : k.tmod ((m : Int) + 1) = (t : Int)) (hm : m < 100000) (ht : t = m) (h4 : f.tmod 4 = 3) :
    Calls Try.prog 12 #[.slice (some ⟨g, 0, none⟩) nb cap, .int .u8 b, .int .u8 k, .int .u8 f, .int .i64 n] w (TurnPost B w) := by
  obtain ⟨c0, c1, c2, c3, c4⟩ := hc
  have hfz : ∀ o, w.frozen? ⟨g, o, none⟩ = false := fun o => frozen_of_row _ _ _ _ _ hg
  have hnb : (((nb : Nat) : Int) == 0) = false := by rw [beq_eq_false_iff_ne]; omega
  have hnb1 : (((nb : Nat) : Int) == -1) = false := by rw [beq_eq_false_iff_ne]; omega
  have hm0 : (((m : Nat) : Int) + 1 == 0) = false := by rw [beq_eq_false_iff_ne]; omega
  have hm1 : (((m : Nat) : Int) + 1 == -1) = false := by rw [beq_eq_false_iff_ne]; omega
  have hji : (j : Int) < (nb : Int) := by omega
  subst ht
  have f1 := hfz (j * 5 + 4)
  have HG := hide hg
  clear hg hfz
  go_enter Try.func12, Try.ntmps12
  go_wp2_with fail
  go_end0
  exact ⟨rfl, set41i64 HG.out j 4 (by omega) _, (Below.refl _ _).setCell (p := ⟨g, j * 5 + 4, none⟩) hBg _, Keeps.set HG.out rfl _, K41.set HG.out (by omega)⟩
set_option maxHeartbeats 2000000 in
set_option maxRecDepth 100000 in
theorem turn_i0 (B : Nat) (g cap : Nat) (cur : Array Value) (nb j m : Nat) (ui : Option Addr) (ci : Nat) (e : En) (b k f n : Int) (w : World) (hg : w.heap[g]? = some (Obj.cells cur 41 (0, 0))) (hc : BlkCells w g (j * 5) (.slice ui m ci) e)
    (hb0 : 0 ≤ b) (hb1 : b < 256) (hk0 : 0 ≤ k) (hk1 : k < 256) (hb : b.tmod (nb : Int) = (j : Int)) (hj : j < nb) (t : Nat) (hk : k.tmod ((m : Int) + 1) = (t : Int)) (hm : m < 100000) (gi : Nat) (curi : Array Value) (i : Ins) (ua : Option Addr) (ca2 : Nat) (hui : ui = some ⟨gi, 0, none⟩) (hBi : B ≤ gi) (hgi : w.heap[gi]? = some (Obj.cells curi 46 (0, 0))) (hi : InsCells w gi (t * 7) i (.slice ua i.args.length ca2)) (ht : t < m) (h8 : f.tmod 8 = 0) :
    Calls Try.prog 12 #[.slice (some ⟨g, 0, none⟩) nb cap, .int .u8 b, .int .u8 k, .int .u8 f, .int .i64 n] w (TurnPost B w) := by
  obtain ⟨c0, c1, c2, c3, c4⟩ := hc
  have hfz : ∀ o, w.frozen? ⟨g, o, none⟩ = false := fun o => frozen_of_row _ _ _ _ _ hg
  have hnb : (((nb : Nat) : Int) == 0) = false := by rw [beq_eq_false_iff_ne]; omega
  have hnb1 : (((nb : Nat) : Int) == -1) = false := by rw [beq_eq_false_iff_ne]; omega
  have hm0 : (((m : Nat) : Int) + 1 == 0) = false := by rw [beq_eq_false_iff_ne]; omega
  have hm1 : (((m : Nat) : Int) + 1 == -1) = false := by rw [beq_eq_false_iff_ne]; omega
  have hji : (j : Int) < (nb : Int) := by omega
  subst hui
  obtain ⟨a0, a1, a2, a3, a4, a5, a6⟩ := hi
  have f1 : w.frozen? ⟨gi, t * 7, none⟩ = false := frozen_of_row _ _ _ _ _ hgi
  have hti : (t : Int) < (m : Int) := by omega
  have htn : (((t : Nat) : Int) == ((m : Nat) : Int)) = false := by rw [beq_eq_false_iff_ne]; omega
  have HG := hide hgi
  clear hg hgi hfz
  go_enter Try.func12, Try.ntmps12
  go_wp2_with fail
  go_end0
  exact ⟨rfl, set46u8 HG.out t 0 (by omega) _, (Below.refl _ _).setCell (p := ⟨gi, t * 7, none⟩) hBi _, Keeps.set HG.out rfl _, K41.keeps (T := fun t => t == 41) rfl (Keeps.set HG.out rfl _)⟩
set_option maxHeartbeats 2000000 in
set_option maxRecDepth 100000 in
theorem turn_i1 (B : Nat) (g cap : Nat) (cur : Array Value) (nb j m : Nat) (ui : Option Addr) (ci : Nat) (e : En) (b k f n : Int) (w : World) (hg : w.heap[g]? = some (Obj.cells cur 41 (0, 0))) (hc : BlkCells w g (j * 5) (.slice ui m ci) e)
    (hb0 : 0 ≤ b) (hb1 : b < 256) (hk0 : 0 ≤ k) (hk1 : k < 256) (hb : b.tmod (nb : Int) = (j : Int)) (hj : j < nb) (t : Nat) (hk : k.tmod ((m : Int) + 1) = (t : Int)) (hm : m < 100000) (gi : Nat) (curi : Array Value) (i : Ins) (ua : Option Addr) (ca2 : Nat) (hui : ui = some ⟨gi, 0, none⟩) (hBi : B ≤ gi) (hgi : w.heap[gi]? = some (Obj.cells curi 46 (0, 0))) (hi : InsCells w gi (t * 7) i (.slice ua i.args.length ca2)) (ht : t < m) (h8 : f.tmod 8 = 1) :
    Calls Try.prog 12 #[.slice (some ⟨g, 0, none⟩) nb cap, .int .u8 b, .int .u8 k, .int .u8 f, .int .i64 n] w (TurnPost B w) := by
  obtain ⟨c0, c1, c2, c3, c4⟩ := hc
  have hfz : ∀ o, w.frozen? ⟨g, o, none⟩ = false := fun o => frozen_of_row _ _ _ _ _ hg
  have hnb : (((nb : Nat) : Int) == 0) = false := by rw [beq_eq_false_iff_ne]; omega
  have hnb1 : (((nb : Nat) : Int) == -1) = false := by rw [beq_eq_false_iff_ne]; omega
  have hm0 : (((m : Nat) : Int) + 1 == 0) = false := by rw [beq_eq_false_iff_ne]; omega
  have hm1 : (((m : Nat) : Int) + 1 == -1) = false := by rw [beq_eq_false_iff_ne]; omega
  have hji : (j : Int) < (nb : Int) := by omega
  subst hui
  obtain ⟨a0, a1, a2, a3, a4, a5, a6⟩ := hi
  have f1 : w.frozen? ⟨gi, t * 7 + 1, none⟩ = false := frozen_of_row _ _ _ _ _ hgi
  have hti : (t : Int) < (m : Int) := by omega
  have htn : (((t : Nat) : Int) == ((m : Nat) : Int)) = false := by rw [beq_eq_false_iff_ne]; omega
  have HG := hide hgi
  clear hg hgi hfz
  go_enter Try.func12, Try.ntmps12
  go_wp2_with fail
  go_end0
  exact ⟨rfl, set46u8 HG.out t 1 (by omega) _, (Below.refl _ _).setCell (p := ⟨gi, t * 7 + 1, none⟩) hBi _, Keeps.set HG.out rfl _, K41.keeps (T := fun t => t == 41) rfl (Keeps.set HG.out rfl _)⟩
set_option maxHeartbeats 2000000 in
set_option maxRecDepth 100000 in
theorem turn_i2 (B : Nat) (g cap : Nat) (cur : Array Value) (nb j m : Nat) (ui : Option Addr) (ci : Nat) (e : En) (b k f n : Int) (w : World) (hg : w.heap[g]? = some (Obj.cells cur 41 (0, 0))) (hc : BlkCells w g (j * 5) (.slice ui m ci) e)
    (hb0 : 0 ≤ b) (hb1 : b < 256) (hk0 : 0 ≤ k) (hk1 : k < 256) (hb : b.tmod (nb : Int) = (j : Int)) (hj : j < nb) (t : Nat) (hk : k.tmod ((m : Int) + 1) = (t : Int)) (hm : m < 100000) (gi : Nat) (curi : Array Value) (i : Ins) (ua : Option Addr) (ca2 : Nat) (hui : ui = some ⟨gi, 0, none⟩) (hBi : B ≤ gi) (hgi : w.heap[gi]? = some (Obj.cells curi 46 (0, 0))) (hi : InsCells w gi (t * 7) i (.slice ua i.args.length ca2)) (ht : t < m) (h8 : f.tmod 8 = 2) :
    Calls Try.prog 12 #[.slice (some ⟨g, 0, none⟩) nb cap, .int .u8 b, .int .u8 k, .int .u8 f, .int .i64 n] w (TurnPost B w) := by
  obtain ⟨c0, c1, c2, c3, c4⟩ := hc
  have hfz : ∀ o, w.frozen? ⟨g, o, none⟩ = false := fun o => frozen_of_row _ _ _ _ _ hg
  have hnb : (((nb : Nat) : Int) == 0) = false := by rw [beq_eq_false_iff_ne]; omega
  have hnb1 : (((nb : Nat) : Int) == -1) = false := by rw [beq_eq_false_iff_ne]; omega
  have hm0 : (((m : Nat) : Int) + 1 == 0) = false := by rw [beq_eq_false_iff_ne]; omega
  have hm1 : (((m : Nat) : Int) + 1 == -1) = false := by rw [beq_eq_false_iff_ne]; omega
  have hji : (j : Int) < (nb : Int) := by omega
  subst hui
  obtain ⟨a0, a1, a2, a3, a4, a5, a6⟩ := hi
  have f1 : w.frozen? ⟨gi, t * 7 + 2, none⟩ = false := frozen_of_row _ _ _ _ _ hgi
  have hti : (t : Int) < (m : Int) := by omega
  have htn : (((t : Nat) : Int) == ((m : Nat) : Int)) = false := by rw [beq_eq_false_iff_ne]; omega
  have HG := hide hgi
  clear hg hgi hfz
  go_enter Try.func12, Try.ntmps12
  go_wp2_with fail
  go_end0
  exact ⟨rfl, set46i64 HG.out t 2 (by omega) _, (Below.refl _ _).setCell (p := ⟨gi, t * 7 + 2, none⟩) hBi _, Keeps.set HG.out rfl _, K41.keeps (T := fun t => t == 41) rfl (Keeps.set HG.out rfl _)⟩
set_option maxHeartbeats 2000000 in
set_option maxRecDepth 100000 in
theorem turn_i3 (B : Nat) (g cap : Nat) (cur : Array Value) (nb j m : Nat) (ui : Option Addr) (ci : Nat) (e : En) (b k f n : Int) (w : World) (hg : w.heap[g]? = some (Obj.cells cur 41 (0, 0))) (hc : BlkCells w g (j * 5) (.slice ui m ci) e)
    (hb0 : 0 ≤ b) (hb1 : b < 256) (hk0 : 0 ≤ k) (hk1 : k < 256) (hb : b.tmod (nb : Int) = (j : Int)) (hj : j < nb) (t : Nat) (hk : k.tmod ((m : Int) + 1) = (t : Int)) (hm : m < 100000) (gi : Nat) (curi : Array Value) (i : Ins) (ua : Option Addr) (ca2 : Nat) (hui : ui = some ⟨gi, 0, none⟩) (hBi : B ≤ gi) (hgi : w.heap[gi]? = some (Obj.cells curi 46 (0, 0))) (hi : InsCells w gi (t * 7) i (.slice ua i.args.length ca2)) (ht : t < m) (h8 : f.tmod 8 = 3) :
    Calls Try.prog 12 #[.slice (some ⟨g, 0, none⟩) nb cap, .int .u8 b, .int .u8 k, .int .u8 f, .int .i64 n] w (TurnPost B w) := by
  obtain ⟨c0, c1, c2, c3, c4⟩ := hc
  have hfz : ∀ o, w.frozen? ⟨g, o, none⟩ = false := fun o => frozen_of_row _ _ _ _ _ hg
  have hnb : (((nb : Nat) : Int) == 0) = false := by rw [beq_eq_false_iff_ne]; omega
  have hnb1 : (((nb : Nat) : Int) == -1) = false := by rw [beq_eq_false_iff_ne]; omega
  have hm0 : (((m : Nat) : Int) + 1 == 0) = false := by rw [beq_eq_false_iff_ne]; omega
  have hm1 : (((m : Nat) : Int) + 1 == -1) = false := by rw [beq_eq_false_iff_ne]; omega
  have hji : (j : Int) < (nb : Int) := by omega
  subst hui
  obtain ⟨a0, a1, a2, a3, a4, a5, a6⟩ := hi
  have f1 : w.frozen? ⟨gi, t * 7 + 3, none⟩ = false := frozen_of_row _ _ _ _ _ hgi
  have hti : (t : Int) < (m : Int) := by omega
  have htn : (((t : Nat) : Int) == ((m : Nat) : Int)) = false := by rw [beq_eq_false_iff_ne]; omega
  have HG := hide hgi
  clear hg hgi hfz
  go_enter Try.func12, Try.ntmps12
  go_wp2_with fail
  go_end0
  exact ⟨rfl, set46i64 HG.out t 3 (by omega) _, (Below.refl _ _).setCell (p := ⟨gi, t * 7 + 3, none⟩) hBi _, Keeps.set HG.out rfl _, K41.keeps (T := fun t => t == 41) rfl (Keeps.set HG.out rfl _)⟩
set_option maxHeartbeats 2000000 in
set_option maxRecDepth 100000 in
theorem turn_i4 (B : Nat) (g cap : Nat) (cur : Array Value) (nb j m : Nat) (ui : Option Addr) (ci : Nat) (e : En) (b k f n : Int) (w : World) (hg : w.heap[g]? = some (Obj.cells cur 41 (0, 0))) (hc : BlkCells w g (j * 5) (.slice ui m ci) e)
    (hb0 : 0 ≤ b) (hb1 : b < 256) (hk0 : 0 ≤ k) (hk1 : k < 256) (hb : b.tmod (nb : Int) = (j : Int)) (hj : j < nb) (t : Nat) (hk : k.tmod ((m : Int) + 1) = (t : Int)) (hm : m < 100000) (gi : Nat) (curi : Array Value) (i : Ins) (ua : Option Addr) (ca2 : Nat) (hui : ui = some ⟨gi, 0, none⟩) (hBi : B ≤ gi) (hgi : w.heap[gi]? = some (Obj.cells curi 46 (0, 0))) (hi : InsCells w gi (t * 7) i (.slice ua i.args.length ca2)) (ht : t < m) (h8 : f.tmod 8 = 4) :
    Calls Try.prog 12 #[.slice (some ⟨g, 0, none⟩) nb cap, .int .u8 b, .int .u8 k, .int .u8 f, .int .i64 n] w (TurnPost B w) := by
  obtain ⟨c0, c1, c2, c3, c4⟩ := hc
  have hfz : ∀ o, w.frozen? ⟨g, o, none⟩ = false := fun o => frozen_of_row _ _ _ _ _ hg
  have hnb : (((nb : Nat) : Int) == 0) = false := by rw [beq_eq_false_iff_ne]; omega
  have hnb1 : (((nb : Nat) : Int) == -1) = false := by rw [beq_eq_false_iff_ne]; omega
  have hm0 : (((m : Nat) : Int) + 1 == 0) = false := by rw [beq_eq_false_iff_ne]; omega
  have hm1 : (((m : Nat) : Int) + 1 == -1) = false := by rw [beq_eq_false_iff_ne]; omega
  have hji : (j : Int) < (nb : Int) := by omega
  subst hui
  obtain ⟨a0, a1, a2, a3, a4, a5, a6⟩ := hi
  have f1 : w.frozen? ⟨gi, t * 7 + 4, none⟩ = false := frozen_of_row _ _ _ _ _ hgi
  have hti : (t : Int) < (m : Int) := by omega
  have htn : (((t : Nat) : Int) == ((m : Nat) : Int)) = false := by rw [beq_eq_false_iff_ne]; omega
  have HG := hide hgi
  clear hg hgi hfz
  go_enter Try.func12, Try.ntmps12
  go_wp2_with fail
  go_end0
  exact ⟨rfl, set46i64 HG.out t 4 (by omega) _, (Below.refl _ _).setCell (p := ⟨gi, t * 7 + 4, none⟩) hBi _, Keeps.set HG.out rfl _, K41.keeps (T := fun t => t == 41) rfl (Keeps.set HG.out rfl _)⟩
set_option maxHeartbeats 2000000 in
set_option maxRecDepth 100000 in
theorem turn_i5 (B : Nat) (g cap : Nat) (cur : Array Value) (nb j m : Nat) (ui : Option Addr) (ci : Nat) (e : En) (b k f n : Int) (w : World) (hg : w.heap[g]? = some (Obj.cells cur 41 (0, 0))) (hc : BlkCells w g (j * 5) (.slice ui m ci) e)
    (hb0 : 0 ≤ b) (hb1 : b < 256) (hk0 : 0 ≤ k) (hk1 : k < 256) (hb : b.tmod (nb : Int) = (j : Int)) (hj : j < nb) (t : Nat) (hk : k.tmod ((m : Int) + 1) = (t : Int)) (hm : m < 100000) (gi : Nat) (curi : Array Value) (i : Ins) (ua : Option Addr) (ca2 : Nat) (hui : ui = some ⟨gi, 0, none⟩) (hBi : B ≤ gi) (hgi : w.heap[gi]? = some (Obj.cells curi 46 (0, 0))) (hi : InsCells w gi (t * 7) i (.slice ua i.args.length ca2)) (ht : t < m) (h8 : f.tmod 8 = 5) :
    Calls Try.prog 12 #[.slice (some ⟨g, 0, none⟩) nb cap, .int .u8 b, .int .u8 k, .int .u8 f, .int .i64 n] w (TurnPost B w) := by
  obtain ⟨c0, c1, c2, c3, c4⟩ := hc
  have hfz : ∀ o, w.frozen? ⟨g, o, none⟩ = false := fun o => frozen_of_row _ _ _ _ _ hg
  have hnb : (((nb : Nat) : Int) == 0) = false := by rw [beq_eq_false_iff_ne]; omega
  have hnb1 : (((nb : Nat) : Int) == -1) = false := by rw [beq_eq_false_iff_ne]; omega
  have hm0 : (((m : Nat) : Int) + 1 == 0) = false := by rw [beq_eq_false_iff_ne]; omega
  have hm1 : (((m : Nat) : Int) + 1 == -1) = false := by rw [beq_eq_false_iff_ne]; omega
  have hji : (j : Int) < (nb : Int) := by omega
  subst hui
  obtain ⟨a0, a1, a2, a3, a4, a5, a6⟩ := hi
  have f1 : w.frozen? ⟨gi, t * 7 + 5, none⟩ = false := frozen_of_row _ _ _ _ _ hgi
  have hti : (t : Int) < (m : Int) := by omega
  have htn : (((t : Nat) : Int) == ((m : Nat) : Int)) = false := by rw [beq_eq_false_iff_ne]; omega
  have HG := hide hgi
  clear hg hgi hfz
  go_enter Try.func12, Try.ntmps12
  go_wp2_with fail
  go_end0
  exact ⟨rfl, set46i64 HG.out t 5 (by omega) _, (Below.refl _ _).setCell (p := ⟨gi, t * 7 + 5, none⟩) hBi _, Keeps.set HG.out rfl _, K41.keeps (T := fun t => t == 41) rfl (Keeps.set HG.out rfl _)⟩
end Go.Proofs.Ytbgedbahabbanaa
