/- The reader's Int out of Num. -/
import Derived.Test.YtocjongjgbccnaaRead
namespace Go.Proofs.Ytocjongjgbccnaa
open Go.RowKit

theorem and_one (n : Nat) (h : Leb.Fits n) : bits .and .u64 (n : Int) 1 = ((n % 2 : Nat) : Int) := by
  rw [show (1 : Int) = ((1 : Nat) : Int) from rfl, u64_and_nat _ _ h.out (by omega), Nat.and_one_is_mod]
theorem half (n : Nat) (h : Leb.Fits n) : wrap64 ((n : Int) / 2) = (n : Int) / 2 := by
  have := h.out
  unfold wrap64; omega
theorem half_not (n : Nat) (h : Leb.Fits n) : bits .xor .i64 (-1) (wrap64 ((n : Int) / 2)) = -1 - (n : Int) / 2 := by
  have := h.out
  rw [half n h]; exact i64_not_any _ (by omega) (by omega)
theorem ret_int {k : IntKind} {a b : Int} (h : a = b) : Ending.returned (.int k a) = .returned (.int k b) := by rw [h]

set_option maxHeartbeats 400000 in
set_option maxRecDepth 100000 in
theorem int_any (p b : Nat) (xs : List Int) (code : Int) (w : World) (h : RdrAt w p b xs code) :
    Calls Try.prog 17 #[.pointer (some ⟨p, 0, none⟩)] w fun e w' => e = .returned (.int .i64 (Leb.zag (Leb.numA xs code))) ∧ RdrAt w' p b (Leb.numL xs code) (Leb.numC xs code) ∧ w.grownBy w' (some p) := by
  have hf : Leb.Fits (Leb.numA xs code) := by
    obtain ⟨v, _, _, _, _, h5, _⟩ := h
    exact Leb.numA_fits code h5.1
  have H := hide (num_any p b xs code w h)
  generalize Leb.numA xs code = n at *
  generalize Leb.numL xs code = ys at *
  generalize Leb.numC xs code = cc at *
  have H1 := and_one n hf
  have H2 := hide (half n hf)
  have H3 := hide (half_not n hf)
  clear h hf
  by_cases ho : n % 2 = 1
  · rw [ho] at H1
    have e : Leb.zag n = -1 - ((n / 2 : Nat) : Int) := by unfold Leb.zag; rw [if_pos ho]
    rw [e]
    clear e ho
    go_enter Try.func17, Try.ntmps17
    go_wp2_with fail
    refine H.out.mono ?_
    rintro e w1 ⟨rfl, hR, hG⟩
    go_wp2_with fail
    go_ret
    exact ⟨ret_int H3.out, hR, hG⟩
  · rw [show n % 2 = 0 from by omega] at H1
    have e : Leb.zag n = ((n / 2 : Nat) : Int) := by unfold Leb.zag; rw [if_neg ho]
    rw [e]
    clear e ho
    go_enter Try.func17, Try.ntmps17
    go_wp2_with fail
    refine H.out.mono ?_
    rintro e w1 ⟨rfl, hR, hG⟩
    go_wp2_with fail
    go_ret
    exact ⟨ret_int H2.out, hR, hG⟩
end Go.Proofs.Ytocjongjgbccnaa
