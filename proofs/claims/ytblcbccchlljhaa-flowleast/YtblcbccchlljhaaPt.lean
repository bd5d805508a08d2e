/- Put, Cut: a number put into a set, cut out of it. -/
import Derived.Test.YtblcbccchlljhaaSp
import Derived.Laws.Bits64b
import Derived.Laws.BitsAllLaws
namespace Go.Proofs.Ytblcbccchlljhaa.Bg
open Go.RowKit Bag
theorem cell_gb {w w' : World} {b i : Nat} {v : Value} {r : Option Nat} (hg : w.grownBy w' r) (hc : w.cell? ⟨b, i, none⟩ = some v) (hf : w.frozen? ⟨b, i, none⟩ = false) (hne : some b ≠ r) : w'.cell? ⟨b, i, none⟩ = some v ∧ w'.frozen? ⟨b, i, none⟩ = false :=
  ⟨hg.cell hc hne, by rw [World.frozen?_of_block (w := w) (hg.block b (World.block_lt_of_cell? w _ hc) hne)]; exact hf⟩
theorem gb_then {w w1 w2 : World} {b : Nat} (h : w.grownBy w1 none) (k : w1.grownBy w2 (some b)) : w.grownBy w2 (some b) := (gb_any h).trans k
theorem gb_drew' {w w1 : World} {r : Option Nat} (h : w.grownBy w1 r) : w.grownBy w1.drew r := ⟨h.os, h.tape, h.output, h.size, h.block⟩
theorem ne0_cast (m : Nat) : (((m : Nat) : Int) != 0) = (m != 0) := by
  rcases Nat.eq_zero_or_pos m with h | h
  · subst h; rfl
  · have h1 : ((m : Int) != 0) = true := by simp; omega
    have h2 : (m != 0) = true := by simp; omega
    rw [h1, h2]
theorem SetAt.drew {w : World} {b : Nat} {f : Nat → Bool} (h : SetAt w b f) : SetAt w.drew b f := h
set_option maxHeartbeats 4000000 in
set_option maxRecDepth 100000 in
theorem put_mid (b at0 : Nat) (x bit y : Int) (w : World) (hs : ∀ W : World, Calls Try.prog 46 #[.int .i64 x] W fun e w' => e = .returned (.tuple #[.int .i64 (at0 : Int), .int .u64 bit]) ∧ W.grownBy w' none) (h64 : (at0 : Int) < 64)
    (hc : w.cell? ⟨b, at0, none⟩ = some (.int .u64 y)) (hf : w.frozen? ⟨b, at0, none⟩ = false) :
    Calls Try.prog 45 #[.pointer (some ⟨b, 0, none⟩), .int .i64 x] w fun e w' => e = .returned (.bool (bits BinOp.andNot IntKind.u64 bit y != 0)) ∧ ∃ w1, w.grownBy w1 none ∧ w' = (w1.setCell ⟨b, at0, none⟩ (.int .u64 (bits BinOp.or IntKind.u64 y bit))).drew := by
  have HC := hide hc
  have HF := hide hf
  clear hc hf
  have HS := hide hs
  clear hs
  go_enter Try.func45, Try.ntmps45
  go_wp2_with (go_at_call 46; refine (HS.out w).mono ?_; rintro e w1 ⟨rfl, hg⟩; obtain ⟨hc1, hf1⟩ := cell_gb hg HC.out HF.out (by simp))
  go_region
  go_wp2
  go_ret
  exact ⟨rfl, w1, hg, rfl⟩
theorem put_any (b : Nat) (x : Int) (f : Nat → Bool) (w : World) (h : SetAt w b f) : Calls Try.prog 45 #[.pointer (some ⟨b, 0, none⟩), .int .i64 x] w fun e w' => e = .returned (.bool (inS x && !f x.toNat)) ∧ SetAt w' b (ins f x) ∧ w.grownBy w' (some b) := by
  by_cases hx : 0 ≤ x ∧ x < 4096
  · obtain ⟨n, rfl⟩ : ∃ n : Nat, x = n := ⟨x.toNat, by omega⟩
    have hn : n < 4096 := by omega
    obtain ⟨y, hc, hf, hw⟩ := h.cell (n / 64) (by omega)
    have hbw := word_bit n (n / 64)
    rw [if_pos rfl] at hbw
    refine (put_mid b (n / 64) n ((2 ^ (n % 64) : Nat) : Int) y w (fun W => by rw [← spotV_yes hn]; exact spot_any _ _) (by omega) hc hf).mono ?_
    rintro e w' ⟨rfl, w1, hg, rfl⟩
    refine ⟨?_, ?_, gb_drew' (gb_then hg (gb_set _ _ _ _))⟩
    · rw [u64_andNot_nat _ _ hbw.1 hw.1]
      have := bit_andNot n y f hw
      rw [ne0_cast, inS_nat hn, Int.toNat_natCast, Bool.true_and, ← this]
      rfl
    · rw [u64_or_nat _ _ hw.1 hbw.1]
      refine ((h.kept hg (by simp)).set (n / 64) (by omega) _ _ ((word_congr (word_or hw hbw)) fun j hj => by simp [ins, inS_nat hn]) fun j hj hne k hk => ?_).drew
      have : (64 * j + k == n) = false := by simp; omega
      simp [ins, inS_nat hn, this]
  · have hx' : x < 0 ∨ 4096 ≤ x := by omega
    obtain ⟨y, hc, hf, hw⟩ := h.cell 0 (by omega)
    refine (put_mid b 0 x 0 y w (fun W => by have := spot_any x W; rw [spotV_no hx'] at this; exact this) (by omega) hc hf).mono ?_
    rintro e w' ⟨rfl, w1, hg, rfl⟩
    have e0 : ins f x = f := by funext z; simp [ins, inS_no hx']
    refine ⟨?_, ?_, gb_drew' (gb_then hg (gb_set _ _ _ _))⟩
    · have := u64_andNot_nat 0 y (by decide) hw.1
      simp only [Int.ofNat_zero, Nat.zero_and] at this
      simp [this, inS_no hx']
    · have := u64_or_nat y 0 hw.1 (by decide)
      simp only [Int.ofNat_zero] at this
      rw [this, e0]
      refine ((h.kept hg (by simp)).set 0 (by omega) _ _ ?_ fun j hj hne k hk => rfl).drew
      simpa using hw
end Go.Proofs.Ytblcbccchlljhaa.Bg
