/- Small functions of a run: mach.Free, paid, word, result. -/
import Derived.Test.YtepmbkiojpffpaaRn
import Derived.Test.YtepmbkiojpffpaaInts
namespace Go.Proofs.Ytepmbkiojpffpaa
open Go.RowKit Ir


set_option maxHeartbeats 1000000 in
set_option maxRecDepth 100000 in
theorem free_any (i : Ins) (u : Value) (w : World) : Calls Try.prog 40 #[insV i u] w fun e w' => e = .returned (.bool (free i.k)) ∧ Below w.heap.size w w' := by
  unfold insV
  have hE : Hid (free i.k = (decide (i.k = 2) || decide (i.k = 7) || decide (i.k = 8))) := by show _ = _; simp [free, Bool.or_assoc]
  go_enter Try.func40, Try.ntmps40
  go_wp2_with fail
  all_goals
    go_ret
    refine ⟨congrArg (fun b => Ending.returned (.bool b)) ?_, bel1' _ _⟩
    rw [hE.out, Bool.eq_iff_iff]
    simp_all

set_option maxRecDepth 100000 in
theorem paid_any (B g gp : Nat) (r : Int) (w : World) (s : St) (cv av : Value) (h : RunAt B g gp r w 0 0 s cv av) (hl : s.left ≤ 1048576) :
    Calls Try.prog 41 #[.pointer (some ⟨g, 0, none⟩)] w fun e w' => (∃ b : Bool, e = .returned (.bool b) ∧ (b = true ↔ s.left ≠ 0)) ∧ Came B g gp r w' (paid s) ∧ Mv B gp w w' := by
  have c67 := h.c67
  have c0 := h.c0
  have f67 := h.fr 67
  have f0 := h.fr 0
  by_cases h0 : s.left = 0
  · have hp : Hid (paid s = .inr ⟨3, 0, s.calls, s.mem, 0⟩) := by show _ = _; unfold paid; rw [if_pos h0]
    obtain ⟨hR, hM⟩ := h.put (j := 0) (u := .int .i64 3) (how' := 3) (val' := 0) (mem' := s.mem) (left' := s.left) h.calls h.ans h.mem (rowL_set0 3)
    have HR := hide hR
    have HM := hide hM
    rw [h0] at c67
    clear hR hM h
    go_enter Try.func41, Try.ntmps41
    go_wp2_with fail
    go_ret
    refine ⟨⟨false, rfl, by simp [h0]⟩, ?_, HM.out⟩
    rw [hp.out]
    exact ⟨_, _, _, HR.out, rfl, rfl, h0⟩
  · have hp : Hid (paid s = .inl { s with left := s.left - 1 }) := by show _ = _; unfold paid; rw [if_neg h0]
    obtain ⟨hR, hM⟩ := h.put (j := 67) (u := .int .i64 ((s.left - 1 : Nat) : Int)) (how' := 0) (val' := 0) (mem' := s.mem) (left' := s.left - 1) h.calls h.ans h.mem (rowL_set_left h.mem _)
    have HR := hide hR
    have HM := hide hM
    have hz : ((s.left : Int) == 0) = false := by rw [beq_eq_false_iff_ne]; omega
    have hs1 : ((s.left - 1 : Nat) : Int) = (s.left : Int) - 1 := by omega
    rw [hs1] at HR HM
    clear hR hM h
    have hl2 : (s.left : Int) ≤ 1048576 := by omega
    have hl1 : (1 : Int) ≤ (s.left : Int) := by omega
    go_enter Try.func41, Try.ntmps41
    go_wp2_with fail
    go_ret
    refine ⟨⟨true, rfl, by simp [h0]⟩, ?_, HM.out⟩
    rw [hp.out]
    exact ⟨_, _, HR.out⟩

theorem wrapmod (x : Int) : (IntKind.u64.wrap x).tmod 64 = ((wd x : Nat) : Int) := by
  rw [IntKind.wrap_u64]
  unfold wd
  rw [Int.tmod_eq_emod_of_nonneg (Int.emod_nonneg _ (by decide))]
  omega
theorem wd_lt (x : Int) : wd x < 64 := by unfold wd; omega
set_option maxRecDepth 100000 in
theorem word_any (g : Nat) (x : Int) (w : World) : Calls Try.prog 57 #[.pointer (some ⟨g, 0, none⟩), .int .i64 x] w fun e w' => e = .returned (.pointer (some ⟨g, 3 + wd x, none⟩)) ∧ w' = w := by
  have hw := wrapmod x
  have hl := wd_lt x
  have hrun : ∀ W, (convert 2 77 (.int .i64 x)).run Try.prog W = .ok (.int .u64 (IntKind.u64.wrap x)) W := fun W => by go_simp
  generalize IntKind.u64.wrap x = y at hw hrun
  have hrem : ∀ W, (binOp .rem 77 (.int .u64 y) (.int .u64 64)).run Try.prog W = .ok (.int .u64 ((wd x : Nat) : Int)) W := fun W => by
    rw [← hw]
    rfl
  generalize wd x = j at *
  have hl' : (j : Int) < 64 := by omega
  have hy : 0 ≤ y.tmod 64 ∧ y.tmod 64 < 64 := by omega
  have HW := hide hw
  clear hw hrem
  go_enter Try.func57, Try.ntmps57
  go_wp2_with fail
  go_ret
  refine ⟨?_, rfl⟩
  show Ending.returned (.pointer (some ⟨g, 3 + (y.tmod 64).toNat, none⟩)) = _
  rw [HW.out, Int.toNat_natCast]
end Go.Proofs.Ytepmbkiojpffpaa
namespace Go.Proofs.Ytepmbkiojpffpaa
open Go.RowKit Ir

/-- What result tells. -/
def rsv (op x y : Int) : Int := if op = 7 ∧ y = 0 then 0 else bnd op x y
def rsk (op y : Int) : Bool := !decide (op = 7 ∧ y = 0)

set_option maxHeartbeats 1000000 in
set_option maxRecDepth 100000 in
theorem result_any (op x y : Int) (w : World) (hop : 1 ≤ op ∧ op ≤ 7) : Calls Try.prog 63 #[.int .u8 op, .int .i64 x, .int .i64 y] w fun e w' =>
    e = .returned (.tuple #[.int .i64 (rsv op x y), .bool (rsk op y)]) ∧ w' = w := by
  unfold rsv rsk
  have h1 : op = 1 ∨ op = 2 ∨ op = 3 ∨ op = 4 ∨ op = 5 ∨ op = 6 ∨ op = 7 := by omega
  rcases h1 with rfl | rfl | rfl | rfl | rfl | rfl | rfl
  iterate 6
    · go_enter Try.func63, Try.ntmps63
      go_wp2_with fail
      all_goals
        go_ret2
        refine ⟨?_, rfl⟩
        simp_all [bnd, IntWalk.i64_left]
  · by_cases hy : y = 0
    · subst hy
      go_enter Try.func63, Try.ntmps63
      go_wp2_with fail
      go_ret2
      exact ⟨rfl, rfl⟩
    · have hy1 : (y == 0) = false := by simpa using hy
      go_enter Try.func63, Try.ntmps63
      go_wp2_with fail
      go_ret2
      refine ⟨?_, rfl⟩
      simp_all [bnd, IntWalk.i64_left]
set_option maxHeartbeats 1000000 in
set_option maxRecDepth 100000 in
theorem refBin_any (op x y : Int) (w : World) (hop : 1 ≤ op ∧ op ≤ 7) (hy : op = 7 → y ≠ 0) : Calls Try.prog 23 #[.int .u8 op, .int .i64 x, .int .i64 y] w fun e w' => e = .returned (.int .i64 (bnd op x y)) ∧ w' = w := by
  have h1 : op = 1 ∨ op = 2 ∨ op = 3 ∨ op = 4 ∨ op = 5 ∨ op = 6 ∨ op = 7 := by omega
  rcases h1 with rfl | rfl | rfl | rfl | rfl | rfl | rfl
  iterate 6
    · clear hy
      go_enter Try.func23, Try.ntmps23
      go_wp2_with fail
      all_goals
        go_ret
        refine ⟨?_, rfl⟩
        simp_all [bnd, IntWalk.i64_left]
  · by_cases hm : y = -1
    · subst hm
      go_enter Try.func23, Try.ntmps23
      go_wp2_with fail
      go_ret
      refine ⟨?_, rfl⟩
      have : x.tdiv (-1) = -x := by rw [Int.tdiv_neg, Int.tdiv_one]
      simp_all [bnd, IntWalk.i64_left]
    · have hy0 := hy rfl
      have hy1 : (y == 0) = false := by simpa using hy0
      have hy2 : (y == -1) = false := by simpa using hm
      go_enter Try.func23, Try.ntmps23
      go_wp2_with fail
      go_ret
      refine ⟨?_, rfl⟩
      simp_all [bnd, IntWalk.i64_left]
end Go.Proofs.Ytepmbkiojpffpaa
