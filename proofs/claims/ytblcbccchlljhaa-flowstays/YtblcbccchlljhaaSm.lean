/- Has, Copy, Same. -/
import Derived.Test.YtblcbccchlljhaaEq
namespace Go.Proofs.Ytblcbccchlljhaa.Bg
open Go.RowKit Bag
def z64 : Array Value := Array.replicate 64 (.int .u64 0)
theorem z27 (W : World) : (zeroValue 40).run Try.prog W = .ok (.agg z64) W := by kernel_rfl
theorem z64_set : SetC z64 (fun _ => false) := SetV.zero
set_option maxHeartbeats 4000000 in
set_option maxRecDepth 100000 in
theorem has_mid (cs : Array Value) (at0 : Nat) (x bit y : Int) (w : World) (hs : ∀ W : World, Calls Try.prog 46 #[.int .i64 x] W fun e w' => e = .returned (.tuple #[.int .i64 (at0 : Int), .int .u64 bit]) ∧ W.grownBy w' none) (h64 : (at0 : Int) < 64)
    (hc : cs[at0]? = some (.int .u64 y)) :
    Calls Try.prog 19 #[.agg cs, .int .i64 x] w fun e w' => e = .returned (.bool (bits BinOp.and IntKind.u64 bit y != 0)) ∧ w.grownBy w' none := by
  have HC := hide hc
  clear hc
  have HS := hide hs
  clear hs
  go_enter Try.func19, Try.ntmps19
  go_wp2_with (first | (refine wpList_box' rfl 40 (.tmp 0) rfl cs rfl ?_; intro g w1 h1) | (go_at_call 46; refine (HS.out _).mono ?_; rintro e w2 ⟨rfl, hg⟩; have hc2 : w2.cell? ⟨g, at0, none⟩ = some (.int .u64 y) := hg.cell ((cell_of_row w1 g at0 cs 40 _ h1.out.2.1).trans HC.out) (by simp)))
  go_ret
  exact ⟨rfl, (gb_at h1.out).trans hg⟩
theorem has_any (v : Value) (x : Int) (f : Nat → Bool) (w : World) (h : SetV v f) : Calls Try.prog 19 #[v, .int .i64 x] w fun e w' => e = .returned (.bool (isIn f x)) ∧ w.grownBy w' none := by
  obtain ⟨cs, rfl, hs, hc⟩ := h
  by_cases hx : 0 ≤ x ∧ x < 4096
  · obtain ⟨n, rfl⟩ : ∃ n : Nat, x = n := ⟨x.toNat, by omega⟩
    have hn : n < 4096 := by omega
    obtain ⟨y, hy, hw⟩ := hc (n / 64) (by omega)
    have hbw := word_bit n (n / 64)
    rw [if_pos rfl] at hbw
    refine (has_mid cs (n / 64) n ((2 ^ (n % 64) : Nat) : Int) y w (fun W => by rw [← spotV_yes hn]; exact spot_any _ _) (by omega) hy).mono ?_
    rintro e w' ⟨rfl, hg⟩
    refine ⟨?_, hg⟩
    rw [u64_and_nat _ _ hbw.1 hw.1]
    have := bit_and n y f hw
    rw [ne0_cast, isIn, inS_nat hn, Int.toNat_natCast, Bool.true_and, ← this]
  · have hx' : x < 0 ∨ 4096 ≤ x := by omega
    obtain ⟨y, hy, hw⟩ := hc 0 (by omega)
    refine (has_mid cs 0 x 0 y w (fun W => by have := spot_any x W; rw [spotV_no hx'] at this; exact this) (by omega) hy).mono ?_
    rintro e w' ⟨rfl, hg⟩
    refine ⟨?_, hg⟩
    have := u64_and_nat 0 y (by decide) hw.1
    simp only [Int.ofNat_zero, Nat.zero_and] at this
    simp [this, isIn, inS_no hx']
set_option maxHeartbeats 4000000 in
set_option maxRecDepth 100000 in
theorem copy_any (v : Value) (f : Nat → Bool) (w : World) (h : SetV v f) : Calls Try.prog 15 #[v] w fun e w' => ∃ u, e = .returned u ∧ SetV u f ∧ w.grownBy w' none := by
  obtain ⟨cs, rfl, hs⟩ := h
  go_enter Try.func15, Try.ntmps15
  go_wp2_with (first | (refine wpList_box' rfl 40 (.tmp 0) rfl cs rfl ?_; intro g w1 h1) | (refine wpList_alloc' rfl 40 rfl z64 z27 ?_; intro g2 w2 h2) | (refine wpList_load_row rfl 40 (.tmp 1) rfl g rfl 40 cs _ ((h2.out.2.2.block g (by have := (Array.getElem?_eq_some_iff.1 h1.out.2.1).1; rw [h2.out.1]; exact this)).trans h1.out.2.1) Try.underlying40 rfl (by rw [hs.1]; exact info27) ?_) | (refine wpList_store_whole rfl 40 (.tmp 2) (.tmp 3) rfl g2 40 z64 cs rfl rfl h2.out.2.1 (by rw [hs.1]; exact info27) (by rw [hs.1]; rfl) hs.cells ?_; intro w3 h3 h4 h5))
  refine bodyPost_ret (v := .agg cs) (results_cell_row Try.results15 _ w3 g2 40 cs (0, 0) _ rfl h3.out Try.underlying40 rfl (by rw [hs.1]; exact info27)) rfl ?_
  exact ⟨_, rfl, ⟨cs, rfl, hs⟩, (gb_at h1.out).andThen ((gb_at h2.out).andThen h4.out (fun j e => by cases e; exact .inl (by rw [h2.out.1]; exact Nat.le_refl _))) (fun j e => by cases e)⟩
end Go.Proofs.Ytblcbccchlljhaa.Bg
