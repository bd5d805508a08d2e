/- frame.lengthOf: how many bytes a frame says that it has, and where what is behind that number begins. -/
import Derived.Test.YtlonniegaaocoaaCut
import Derived.Test.YtlonniegaaocoaaRead
import Derived.Test.YtlonniegaaocoaaNew
namespace Go.Proofs.Ytlonniegaaocoaa
open Go.RowKit

theorem front_cut (xs : List Int) : (xs.drop 2).take (min xs.length 12 - 2) = Frm.front xs := by
  unfold Frm.front
  rcases Nat.le_total xs.length 12 with h | h
  · rw [Nat.min_eq_left h, List.take_of_length_le (by simp), List.take_of_length_le (by simp; omega)]
  · rw [Nat.min_eq_right h]

theorem run_min12 (n m : Nat) (hm : m = min n 12) (ts : Array TypeId) (t : TypeId) (W : World) : (Builtin.min_ ts t #[.int .i64 (n : Int), .int .i64 12]).run Try.prog W = .ok (.int .i64 (m : Int)) W := by
  rw [run_min_int2]
  subst hm
  split <;> (congr 2; omega)

set_option maxHeartbeats 400000 in
set_option maxRecDepth 100000 in
/-- Where the number is refused, or greater than may be. -/
theorem length_bad (v : Value) (xs : List Int) (w : World) (c : Int) (hv : Byt w v xs) (h2 : 2 ≤ xs.length) (hx : xs.length ≤ 1000000000) (hc : (Frm.lc xs ≠ 0 ∧ c = Frm.lc xs) ∨ (Frm.lc xs = 0 ∧ 65536 < Frm.ln xs ∧ c = 4)) :
    Calls Try.prog 21 #[v] w fun e w' => e = .returned (.tuple #[.int .i64 0, .int .i64 0, .int .i64 c]) ∧ Below w.heap.size w w' := by
  obtain ⟨ao, cap, rfl⟩ := hv.slice
  have hcap := hv.cap.2.1
  obtain ⟨m, hm⟩ : ∃ m, m = min xs.length 12 := ⟨_, rfl⟩
  have hmin := run_min12 xs.length m hm
  have hcut := hv.cut (i := 2) (j := m) (by omega) (by omega)
  have hrun : ∀ W, (Instr.sliceAt 22 (.slice ao xs.length cap) (some (.int .i64 2)) (some (.int .i64 (m : Int))) none).run Try.prog W = .ok (cutV ao cap 2 m) W := fun W => run_lh (ao := ao) (n := xs.length) (cap := cap) (i := 2) (j := m) (by omega) (by omega) W
  rw [hm, front_cut] at hcut
  rw [← hm] at hcut
  generalize cutV ao cap 2 m = u at *
  have hfl : (Frm.front xs).length ≤ 10 := by rw [Frm.front_len]; omega
  obtain ⟨a', c', rfl⟩ := hcut.slice
  have hN := hide (new_any _ _ w hcut (by omega))
  have HC := hide hc
  have eA : Hid (Leb.numA (Frm.front xs) 0 = Frm.ln xs) := rfl
  have eC : Hid (Leb.numC (Frm.front xs) 0 = Frm.lc xs) := rfl
  clear hcut hm hc hv
  go_enter Try.func21, Try.ntmps21
  go_wp2_with fail
  refine hN.out.mono ?_
  rintro e w1 ⟨p, b, rfl, hp, hb, hb1, hR, hB⟩
  clear hN
  go_wp2_with fail
  refine (num_any p b _ _ _ hR).mono ?_
  rintro e w2 ⟨rfl, hR2, hG2⟩
  have hB2 : Below w.heap.size w w2 := hB.grown hG2 hB.size (fun k hk => by simp at hk; omega)
  rw [eA.out]
  rw [eC.out] at hR2
  clear hR hB hG2 hb hb1
  go_wp2_with fail
  refine (code_any p b _ _ _ hR2).mono ?_
  rintro e w3 ⟨rfl, rfl⟩
  clear hR2
  rcases HC.out with ⟨h1, rfl⟩ | ⟨h1, h3, rfl⟩
  · have hbf : (Frm.lc xs == 0) = false := by simp [h1]
    clear h1
    go_wp2_with fail
    go_ret3
    exact ⟨rfl, hB2⟩
  · rw [h1]
    clear h1
    have h3' : (65536 : Int) < (Frm.ln xs : Int) := by omega
    go_wp2_with fail
    go_ret3
    exact ⟨rfl, hB2⟩

set_option maxHeartbeats 400000 in
set_option maxRecDepth 100000 in
theorem length_ok (v : Value) (xs : List Int) (w : World) (hv : Byt w v xs) (h2 : 2 ≤ xs.length) (hx : xs.length ≤ 1000000000) (h0 : Frm.lc xs = 0) (h1 : Frm.ln xs ≤ 65536) :
    Calls Try.prog 21 #[v] w fun e w' => e = .returned (.tuple #[.int .i64 (Frm.ln xs : Nat), .int .i64 (2 + Frm.ls xs : Nat), .int .i64 0]) ∧ Below w.heap.size w w' := by
  obtain ⟨ao, cap, rfl⟩ := hv.slice
  have hcap := hv.cap.2.1
  obtain ⟨m, hm⟩ : ∃ m, m = min xs.length 12 := ⟨_, rfl⟩
  have hmin := run_min12 xs.length m hm
  have hcut := hv.cut (i := 2) (j := m) (by omega) (by omega)
  have hrun : ∀ W, (Instr.sliceAt 22 (.slice ao xs.length cap) (some (.int .i64 2)) (some (.int .i64 (m : Int))) none).run Try.prog W = .ok (cutV ao cap 2 m) W := fun W => run_lh (ao := ao) (n := xs.length) (cap := cap) (i := 2) (j := m) (by omega) (by omega) W
  rw [hm, front_cut] at hcut
  rw [← hm] at hcut
  generalize cutV ao cap 2 m = u at *
  have hfl : (Frm.front xs).length ≤ 10 := by rw [Frm.front_len]; omega
  obtain ⟨a', c', rfl⟩ := hcut.slice
  have hN := hide (new_any _ _ w hcut (by omega))
  have eA : Hid (Leb.numA (Frm.front xs) 0 = Frm.ln xs) := rfl
  have eC : Hid (Leb.numC (Frm.front xs) 0 = 0) := h0
  have eL : Hid (Leb.numL (Frm.front xs) 0 = (Frm.front xs).drop (Frm.ls xs)) := rfl
  have hls := (Frm.ls_le h0).2
  clear hcut hm hv h0
  go_enter Try.func21, Try.ntmps21
  go_wp2_with fail
  refine hN.out.mono ?_
  rintro e w1 ⟨p, b, rfl, hp, hb, hb1, hR, hB⟩
  clear hN
  go_wp2_with fail
  refine (num_any p b _ _ _ hR).mono ?_
  rintro e w2 ⟨rfl, hR2, hG2⟩
  have hB2 : Below w.heap.size w w2 := hB.grown hG2 hB.size (fun k hk => by simp at hk; omega)
  rw [eA.out]
  rw [eC.out, eL.out] at hR2
  clear hR hB hG2 hb hb1
  go_wp2_with fail
  refine (code_any p b _ _ _ hR2).mono ?_
  rintro e w3 ⟨rfl, rfl⟩
  have h3' : (Frm.ln xs : Int) ≤ (65536 : Int) := by omega
  go_wp2_with fail
  refine (left_any p b _ _ _ hR2).mono ?_
  rintro e w4 ⟨rfl, rfl⟩
  have hdl : ((Frm.front xs).drop (Frm.ls xs)).length = (Frm.front xs).length - Frm.ls xs := by simp
  rw [hdl]
  clear hR2 hdl
  go_wp2_with fail
  go_ret3
  refine ⟨?_, hB2⟩
  have e : (2 + ((Frm.front xs).length : Int) - (((Frm.front xs).length - Frm.ls xs : Nat) : Int)) = ((2 + Frm.ls xs : Nat) : Int) := by omega
  rw [← e]
  rfl
end Go.Proofs.Ytlonniegaaocoaa
