/- frame.sumOf: the sum of a kind and of bytes, as four bytes. -/
import Derived.Test.YtlonniegaaocoaaMore
namespace Go.Proofs.Ytlonniegaaocoaa
open Go.RowKit

/-- Four bytes as an array. -/
def arr4 (l : List Int) : Value := .agg #[.int .u8 (l.getD 0 0), .int .u8 (l.getD 1 0), .int .u8 (l.getD 2 0), .int .u8 (l.getD 3 0)]

theorem Parts.two {w : World} {u v : Value} {xs ys : List Int} (h1 : Byt w u xs) (h2 : Byt w v ys) :
    Parts (w.alloc (.cells #[u, v] 22)) (.slice (some ⟨w.heap.size, 0, none⟩) 2 2) [xs, ys] := by
  refine ⟨_, 2, rfl, by simp, fun _ => ⟨_, _, rfl, fun j hj => ?_⟩⟩
  have hb := (Below.refl w.heap.size w).alloc (Nat.le_refl _) (.cells #[u, v] 22)
  match j, hj with
  | 0, _ => exact ⟨u, by rw [World.cell?_alloc_new]; rfl, h1.below hb⟩
  | 1, _ => exact ⟨v, by rw [World.cell?_alloc_new]; rfl, h2.below hb⟩

set_option maxHeartbeats 400000 in
set_option maxRecDepth 100000 in
theorem sumOf_any (k : Int) (v : Value) (xs : List Int) (w : World) (hk0 : 0 ≤ k) (hk1 : k < 256) (hv : Byt w v xs) :
    Calls Try.prog 17 #[.int .u8 k, v] w fun e w' => e = .returned (arr4 (Frm.chk k xs)) ∧ Below w.heap.size w w' := by
  obtain ⟨ao, cap, rfl⟩ := hv.slice
  have hB1 := (Below.refl w.heap.size w).alloc (Nat.le_refl _) (.cells #[.int .u8 0, .int .u8 0, .int .u8 0, .int .u8 0] 47)
  have hB2 := hB1.alloc (by simp) (.cells #[.int .u8 k] 5)
  have hP := Parts.two (Byt.one (w.alloc (.cells #[.int .u8 0, .int .u8 0, .int .u8 0, .int .u8 0] 47)) k hk0 hk1) (hv.below hB2)
  have hS := sum_any _ _ _ hP
  simp only [World.size_alloc] at hS
  have hn := sumOf_lt (k :: xs) (Frm.Bts.cons hk0 hk1 (by obtain ⟨_, h, _⟩ := hv; exact h))
  have eC : Frm.chk k xs = Frm.le4 (sumOf (k :: xs)) := rfl
  have eF : [[k], xs].flatten = k :: xs := by simp
  rw [eF] at hS
  rw [eC]
  generalize sumOf (k :: xs) = n at *
  have HS := hide hS
  clear hB1 hB2 hP hv hS eC eF
  go_enter Try.func17, Try.ntmps17
  go_wp2_with fail
  refine HS.out.mono ?_
  rintro e w1 ⟨rfl, rfl⟩
  go_wp2_with fail
  refine bodyPost_ret (v := .agg #[.int .u8 ((n : Int) % 256), .int .u8 ((n : Int) / 256 % 256), .int .u8 ((n : Int) / 65536 % 256), .int .u8 ((n : Int) / 16777216)]) (by simp [results, Try.results17, go_sem]) rfl ⟨?_, ?_⟩
  · have e : (n : Int) / 16777216 = ((n / 16777216 % 256 : Nat) : Int) := by omega
    rw [e]
    rfl
  · exact (((Below.refl _ _).alloc (Nat.le_refl _) _).alloc (by simp) _).alloc (by simp; omega) _
end Go.Proofs.Ytlonniegaaocoaa
