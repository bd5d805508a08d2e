/- leb.PutInt out of leb.Put. -/
import Derived.Test.YtocjongjgbccnaaPut
namespace Go.Proofs.Ytocjongjgbccnaa
open Go.RowKit

set_option maxHeartbeats 400000 in
set_option maxRecDepth 100000 in
theorem putInt_neg (v : Value) (xs : List Int) (m : Nat) (w : World) (hv : Byt w v xs) (hx : xs.length ≤ 1000000000) (hm : m < 9223372036854775808) :
    Calls Try.prog 11 #[v, .int .i64 (-1 - (m : Int))] w fun e w' => ∃ v', e = .returned v' ∧ Byt w' v' (xs ++ Leb.enc (2 * m + 1)) ∧ Below w.heap.size w w' := by
  have hneg : (-1 - (m : Int)) < 0 := by omega
  have hz := zig_neg m hm
  have hf : Leb.Fits (2 * m + 1) := by unfold Leb.Fits; omega
  have HZ := hide hz
  clear hm hz
  go_enter Try.func11, Try.ntmps11
  go_wp2_with fail
  rw [HZ.out]
  refine (put_any v xs (2 * m + 1) w hv hx hf).mono ?_
  rintro e w1 ⟨v', rfl, h1, h2⟩
  clear HZ
  go_wp2
  go_ret
  exact ⟨v', rfl, h1, h2⟩

set_option maxHeartbeats 400000 in
set_option maxRecDepth 100000 in
theorem putInt_pos (v : Value) (xs : List Int) (m : Nat) (w : World) (hv : Byt w v xs) (hx : xs.length ≤ 1000000000) (hm : m < 9223372036854775808) :
    Calls Try.prog 11 #[v, .int .i64 (m : Int)] w fun e w' => ∃ v', e = .returned v' ∧ Byt w' v' (xs ++ Leb.enc (2 * m)) ∧ Below w.heap.size w w' := by
  have hneg : ¬ (m : Int) < 0 := by omega
  have hz := zig_pos m hm
  have hf : Leb.Fits (2 * m) := by unfold Leb.Fits; omega
  have HZ := hide hz
  clear hm hz
  go_enter Try.func11, Try.ntmps11
  go_wp2_with fail
  rw [HZ.out]
  refine (put_any v xs (2 * m) w hv hx hf).mono ?_
  rintro e w1 ⟨v', rfl, h1, h2⟩
  clear HZ
  go_wp2
  go_ret
  exact ⟨v', rfl, h1, h2⟩

theorem putInt_any (v : Value) (xs : List Int) (i : Int) (w : World) (hv : Byt w v xs) (hx : xs.length ≤ 1000000000) (h1 : -9223372036854775808 ≤ i) (h2 : i ≤ 9223372036854775807) :
    Calls Try.prog 11 #[v, .int .i64 i] w fun e w' => ∃ v', e = .returned v' ∧ Byt w' v' (xs ++ Leb.enc (Leb.zig i)) ∧ Below w.heap.size w w' := by
  by_cases h : i < 0
  · obtain ⟨m, hm⟩ : ∃ m : Nat, i = -1 - (m : Int) := ⟨(-1 - i).toNat, by omega⟩
    subst hm
    have e : Leb.zig (-1 - (m : Int)) = 2 * m + 1 := by unfold Leb.zig; rw [if_pos h]; omega
    rw [e]
    exact putInt_neg v xs m w hv hx (by omega)
  · obtain ⟨m, hm⟩ : ∃ m : Nat, i = (m : Int) := ⟨i.toNat, by omega⟩
    subst hm
    have e : Leb.zig (m : Int) = 2 * m := by unfold Leb.zig; rw [if_neg h]; omega
    rw [e]
    exact putInt_pos v xs m w hv hx (by omega)
end Go.Proofs.Ytocjongjgbccnaa
