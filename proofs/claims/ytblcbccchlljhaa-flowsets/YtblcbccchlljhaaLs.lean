/- Sets: Less. -/
import Derived.Test.YtblcbccchlljhaaOf
namespace Go.Proofs.Ytblcbccchlljhaa.Bg
open Go.RowKit Bag
set_option maxHeartbeats 4000000 in
set_option maxRecDepth 100000 in
theorem less_any (b : Nat) (v : Value) (f g : Nat → Bool) (w : World) (h : SetAt w b f) (k : SetV v g) : Calls Try.prog 16 #[.pointer (some ⟨b, 0, none⟩), v] w fun e w' => e = .returned (.tuple #[]) ∧ SetAt w' b (fun y => f y && !g y) ∧ w.grownBy w' (some b) := by
  obtain ⟨cs, rfl, ks⟩ := k
  have hb := h.lt
  go_enter Try.func16, Try.ntmps16
  go_wp2_with (first | (refine wpList_box' rfl 40 (.tmp 1) rfl cs rfl ?_; intro o w1 h1) | (refine wpList_load_row rfl 38 (.tmp 6) rfl o rfl 40 cs _ h1.out.2.1 Try.underlying38 rfl (by rw [ks.1]; exact info25) ?_))
  have H1 : SetAt w1 b f := h.kept (gb_at h1.out) (by simp)
  have G1 := hide (gb_at h1.out)
  go_loopw [4, 5, 8] (fun _ _ iv wr => ∃ i : Nat, i ≤ 64 ∧ iv = .int .i64 i ∧ Hid (SetAt wr b (upto (64 * i) (fun y => f y && !g y) f)) ∧ Hid (w1.grownBy wr (some b))) (fun _ _ iv _ => 64 - (intOf iv).toNat)
  case atStart => exact ⟨0, by omega, rfl, hide (H1.congr fun x _ => by simp [upto]), hide (gb_refl _ _)⟩
  case round =>
    rename World => wq
    obtain ⟨i, hi, rfl, HS, HG⟩ := hrel
    by_cases hlt : i < 64
    · obtain ⟨x, hx, hw⟩ := ks.2 i hlt
      have hix := run_index25 hx hlt
      have hlt' : (i : Int) < 64 := by omega
      obtain ⟨y, hc, hf, hy⟩ := HS.out.cell i hlt
      have hy' : Word f i y := word_congr hy fun j hj => upto_no _ _ (by omega)
      have HW := hide hw
      have HY := hide hy'
      clear hx hw hy hy'
      go_wp2_with fail
      go_region
      go_wp2
      go_roundw
      case rel =>
        refine ⟨i + 1, by omega, by go_num, hide ?_, hide (gb_drew' ((HG.out).trans (gb_set _ _ _ _)))⟩
        rw [u64_andNot_nat _ _ HY.out.1 HW.out.1]
        refine (HS.out.set i hlt _ _ (word_congr (word_andNot HY.out HW.out) fun j hj => ?_) fun j hj hne k hk => ?_).drew
        · rw [upto_yes _ _ (by omega)]
        · exact upto_step (n := 64 * i) (m := 64 * (i + 1)) _ _ (x := 64 * j + k) (by omega)
      case measure => simp [intOf]; omega
    · obtain rfl : i = 64 := by omega
      go_wp2_with fail
      go_end0
      exact ⟨rfl, HS.out.congr fun x hx => upto_yes _ _ hx, gb_then G1.out HG.out⟩
end Go.Proofs.Ytblcbccchlljhaa.Bg
