/- A run's leave: an end is done. -/
import Derived.Test.YtepmbkiojpffpaaSs
namespace Go.Proofs.Ytepmbkiojpffpaa
open Go.RowKit Ir

def bxE (e : En) : Obj := .cells #[.int .u8 e.k, .int .i64 e.a, .int .i64 e.to, .int .i64 e.el] 58
theorem bxE_cells (w : World) (e : En) : (w.alloc (bxE e)).cell? ⟨w.heap.size, 0, none⟩ = some (.int .u8 e.k) ∧ (w.alloc (bxE e)).cell? ⟨w.heap.size, 1, none⟩ = some (.int .i64 e.a) ∧ (w.alloc (bxE e)).cell? ⟨w.heap.size, 2, none⟩ = some (.int .i64 e.to) ∧ (w.alloc (bxE e)).cell? ⟨w.heap.size, 3, none⟩ = some (.int .i64 e.el) := by
  unfold bxE
  refine ⟨?_, ?_, ?_, ?_⟩
  all_goals (rw [cell_of_row _ _ _ _ _ _ (heap_alloc_new w _)]; rfl)
/-- The run stands as x says, and the block that is next was told. -/
def LeavePost (B g gp : Nat) (r : Int) (w : World) (x : Rs (Int × St)) (e : Ending) (w' : World) : Prop :=
  Mv B gp w w' ∧ match x with
  | .inl (t, s) => e = .returned (.int .i64 t) ∧ ∃ cv av, RunAt B g gp r w' 0 0 s cv av
  | .inr o => (∃ t, e = .returned (.int .i64 t)) ∧ Ended B g gp r w' o

set_option maxHeartbeats 1000000 in
set_option maxRecDepth 100000 in
theorem leave_any (B g gp : Nat) (r : Int) (w : World) (s : St) (cv av : Value) (e : En) (nb : Nat) (h : RunAt B g gp r w 0 0 s cv av) (he : OkE s.p.length nb e) :
    Calls Try.prog 43 #[.pointer (some ⟨g, 0, none⟩), endV e] w (LeavePost B g gp r w (leave e s)) := by
  obtain ⟨k, a, to, el⟩ := e
  have hBx := bel1' w (bxE ⟨k, a, to, el⟩)
  have hR1 := h.of hBx
  have hM1 : Mv B gp w _ := Mv.of hBx h.size.1
  obtain ⟨b0, b1, b2, b3⟩ := bxE_cells w ⟨k, a, to, el⟩
  simp only [bxE] at b0 b1 b2 b3 hR1 hM1
  have HR := hide hR1
  have HM := hide hM1
  have hk := he.k
  have hk3 : k = 1 ∨ k = 2 ∨ k = 3 := by simp only at hk; omega
  unfold endV
  simp only
  rcases hk3 with rfl | rfl | rfl
  · have hE : Hid (leave ⟨1, a, to, el⟩ s = .inl (to, s)) := by show _ = _; simp [leave]
    clear h hR1 hM1 hBx he hk
    go_enter Try.func43, Try.ntmps43
    go_wp2_with fail
    go_region
    all_goals
      go_wp2_with fail
      go_ret
      refine ⟨HM.out.trans (Mv.of (Below.refl _ _).drew HR.out.size.1), ?_⟩
      rw [hE.out]
      exact ⟨rfl, _, _, HR.out.of (Below.refl _ _).drew⟩
  · obtain ⟨an, ha, ha2⟩ := nat_of (he.a (by simp))
    simp only at ha
    subst ha
    obtain ⟨x, hx⟩ : ∃ x, pg s.p (an : Int) = x := ⟨_, rfl⟩
    have hal : (an : Int) < (s.p.length : Int) := by omega
    have c69 := hR1.c69
    have p1 := hR1.pp ha2 hx
    by_cases h0 : x = 0
    · have hE : Hid (leave ⟨2, an, to, el⟩ s = .inl (el, s)) := by show _ = _; simp [leave, hx, h0]
      subst h0
      clear h hR1 hM1 hBx he hk hx
      go_enter Try.func43, Try.ntmps43
      go_wp2_with fail
      go_region
      all_goals
        go_wp2_with fail
        go_ret
        refine ⟨HM.out.trans (Mv.of (Below.refl _ _).drew HR.out.size.1), ?_⟩
        rw [hE.out]
        exact ⟨rfl, _, _, HR.out.of (Below.refl _ _).drew⟩
    · have hE : Hid (leave ⟨2, an, to, el⟩ s = .inl (to, s)) := by show _ = _; simp [leave, hx, h0]
      have h1 : (x == 0) = false := by simpa using h0
      clear h hR1 hM1 hBx he hk hx h0
      go_enter Try.func43, Try.ntmps43
      go_wp2_with fail
      go_region
      all_goals
        go_wp2_with fail
        go_ret
        refine ⟨HM.out.trans (Mv.of (Below.refl _ _).drew HR.out.size.1), ?_⟩
        rw [hE.out]
        exact ⟨rfl, _, _, HR.out.of (Below.refl _ _).drew⟩
  · obtain ⟨an, ha, ha2⟩ := nat_of (he.a (by simp))
    simp only at ha
    subst ha
    obtain ⟨x, hx⟩ : ∃ x, pg s.p (an : Int) = x := ⟨_, rfl⟩
    have hE : Hid (leave ⟨3, an, to, el⟩ s = .inr ⟨1, x, s.calls, s.mem, s.left⟩) := by show _ = _; simp [leave, hx]
    have hal : (an : Int) < (s.p.length : Int) := by omega
    have HB := hide b1
    clear h hR1 hM1 hBx he hk b1 b2 b3
    go_enter Try.func43, Try.ntmps43
    go_wp2_with fail
    clear b0
    generalize w.alloc (.cells #[.int .u8 3, .int .i64 (an : Nat), .int .i64 to, .int .i64 el] 58) = W1 at *
    have hRd := HR.out.of (Below.refl _ _).drew
    obtain ⟨hR2, hM2⟩ := hRd.put (j := 0) (u := .int .i64 1) (how' := 1) (val' := 0) (mem' := s.mem) (left' := s.left) hRd.calls hRd.ans hRd.mem (rowL_set0 1)
    obtain ⟨hR3, hM3⟩ := hR2.put (j := 1) (u := .int .i64 x) (how' := 1) (val' := x) (mem' := s.mem) (left' := s.left) hR2.calls hR2.ans hR2.mem (rowL_set1 x)
    have HR3 := hide hR3
    have HM3 := hide (((HM.out.trans (Mv.of (Below.refl _ _).drew HR.out.size.1)).trans hM2).trans hM3)
    clear hR3 hM3 hR2 hM2 hRd
    refine lv2_ok (g := g) (gp := gp) (n := s.p.length) rfl rfl rfl HB.out HR.out.c69 (HR.out.pp ha2 hx) HR.out.c0 HR.out.c1 (HR.out.fr 0) (HR.out.fr 1) hal ?_
    intro q
    simp [overlay, dstsOf, ops_lv2_ok]
    clear HR HM
    go_wp2_with fail
    go_ret
    refine ⟨HM3.out, ?_⟩
    rw [hE.out]
    exact ⟨⟨0, rfl⟩, _, _, _, HR3.out, rfl, rfl, rfl⟩
end Go.Proofs.Ytepmbkiojpffpaa
