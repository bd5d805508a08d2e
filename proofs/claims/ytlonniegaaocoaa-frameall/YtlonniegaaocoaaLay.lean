/- frame.Lay: a frame, in new memory; or the fault, where there are too many bytes. -/
import Derived.Test.YtlonniegaaocoaaSumOf
namespace Go.Proofs.Ytlonniegaaocoaa
open Go.RowKit

theorem owns_mono {w : World} {base base' : Nat} {e : TypeId} {size : Nat} {v : Value} {n : Nat} {xs : List Value} (h : w.ownsRow base e size v n xs) (hb : base' ≤ base) : w.ownsRow base' e size v n xs := by
  obtain ⟨h1, h2⟩ := h
  refine ⟨h1, ?_⟩
  rcases h2 with h2 | ⟨g, cap, cur, e1, e2, e3⟩
  · exact .inl h2
  · exact .inr ⟨g, cap, cur, e1, by omega, e3⟩

theorem bel_at {B : Nat} {w w' : World} (h : Below B w w') (e : B = w.heap.size) : Below w.heap.size w w' := e ▸ h

theorem owns_cast {w : World} {base : Nat} {e : TypeId} {size : Nat} {v : Value} {n m : Nat} {xs ys : List Value} (h : w.ownsRow base e size v n xs) (hn : n = m) (hx : xs = ys) : w.ownsRow base e size v m ys := by subst hn; subst hx; exact h

/-- The bytes of an array that has just been laid. -/
theorem Byt.four (w : World) (a b c d : Int) (h : Frm.Bts [a, b, c, d]) : Byt (w.alloc (.cells #[.int .u8 a, .int .u8 b, .int .u8 c, .int .u8 d] 47)) (.slice (some ⟨w.heap.size, 0, none⟩) 4 4) [a, b, c, d] := by
  refine ⟨w.heap.size, h, _, 4, rfl, by simp, by simp [maxLen], by simp, fun _ => ⟨0, rfl, fun j hj => ?_⟩⟩
  simp only [Nat.zero_add]
  rw [World.cell?_alloc_new]
  match j, hj with
  | 0, _ => rfl
  | 1, _ => rfl
  | 2, _ => rfl
  | 3, _ => rfl

set_option maxHeartbeats 400000 in
set_option maxRecDepth 100000 in
theorem lay_long (k : Int) (v : Value) (xs : List Int) (w : World) (hv : Byt w v xs) (hl : 65536 < xs.length) :
    Calls Try.prog 10 #[.int .u8 k, v] w fun e w' => e = .returned (.tuple #[.slice none 0 0, .int .i64 4]) ∧ w' = w := by
  obtain ⟨ao, cap, rfl⟩ := hv.slice
  clear hv
  go_enter Try.func10, Try.ntmps10
  go_wp2_with fail
  go_ret2
  exact ⟨rfl, rfl⟩

set_option maxHeartbeats 400000 in
set_option maxRecDepth 100000 in
theorem lay_own (k : Int) (v : Value) (xs : List Int) (w : World) (hk0 : 0 ≤ k) (hk1 : k < 256) (hv : Byt w v xs) (hl : xs.length ≤ 65536) :
    Calls Try.prog 10 #[.int .u8 k, v] w fun e w' => ∃ v', e = .returned (.tuple #[v', .int .i64 0]) ∧ w'.ownsRow w.heap.size 5 1 v' (Frm.lay k xs).length ((Frm.lay k xs).map (Value.int .u8)) ∧ Below w.heap.size w w' := by
  obtain ⟨i0, hi, hz0, hz1, hz2⟩ := info_parts info5
  have hS := sumOf_any k v xs w hk0 hk1 hv
  have hC := Frm.chk_bts k xs
  obtain ⟨a, b, c, d, eC⟩ : ∃ a b c d, Frm.chk k xs = [a, b, c, d] := ⟨_, _, _, _, rfl⟩
  have eL : Frm.lay k xs = 111 :: k :: (Leb.enc xs.length ++ ([a, b, c, d] ++ xs)) := by rw [← eC]; rfl
  rw [eC] at hS hC
  rw [show arr4 [a, b, c, d] = .agg #[.int .u8 a, .int .u8 b, .int .u8 c, .int .u8 d] from rfl] at hS
  obtain ⟨ao, cap, rfl⟩ := hv.slice
  have HL := hide eL
  have HS := hide hS
  have h10 := Leb.enc_len10 (n := xs.length) (by omega)
  clear hS eL eC
  go_enter Try.func10, Try.ntmps10
  go_wp2_with fail
  refine HS.out.mono ?_
  rintro e w1 ⟨rfl, hB1⟩
  have hB2 := (hB1.alloc hB1.size (.cells #[.int .u8 a, .int .u8 b, .int .u8 c, .int .u8 d] 47))
  have hB2' := (Below.refl w1.heap.size w1).alloc (Nat.le_refl _) (.cells #[.int .u8 a, .int .u8 b, .int .u8 c, .int .u8 d] 47)
  have hB3 := hB2.alloc (by have := hB1.size; simp; omega) (.cells #[.int .u8 111, .int .u8 k] 5)
  have h4 := Byt.four w1 a b c d hC
  have h2 := Byt.two (w1.alloc (.cells #[.int .u8 a, .int .u8 b, .int .u8 c, .int .u8 d] 47)) 111 k (by omega) (by omega) hk0 hk1
  have h4' := h4.below ((Below.refl _ _).alloc (Nat.le_refl _) (.cells #[.int .u8 111, .int .u8 k] 5))
  have hP := put_own _ [111, k] xs.length _ h2 (by simp) (by unfold Leb.Fits; omega)
  have hs1 := hB1.size
  simp only [World.size_alloc] at hP
  have HP := hide hP
  clear hP h2 h4 hB1 hB2 hB2' HS
  go_wp2_with fail
  refine HP.out.mono ?_
  rintro e w3 ⟨v3, rfl, hO3, hB4⟩
  have hB4 := bel_at hB4 (by simp)
  have h43 := h4'.below hB4
  have hB5 := bel_of hB3 hB4
  have hO3 := owns_mono (base' := w.heap.size) hO3 (by omega)
  clear HP h4' hB3 hB4
  go_wp2_with (at_builtin; go_must (refine wpList_append_byt _ rfl (.tmp 20) (.tmp 21) 22 rfl w.heap.size i0 Try.underlying22 hi hz0 hz1 hz2 _ _ _ rfl hO3 _ _ rfl h43 (by simp; omega) hB5.size ?_))
  intro v4 w4 hO4 hg4
  have hB6 := hB5.grown hg4 hB5.size (fun k hk => (hO3.lt k hk).1)
  clear hO3 hg4 h43 hB5
  have hv4 := hv.below hB6
  have hlen : ([111, k] ++ Leb.enc xs.length).length + [a, b, c, d].length + xs.length ≤ 140737488355328 := by simp; omega
  go_wp2_with (at_builtin; go_must (refine wpList_append_byt _ rfl (.tmp 23) (.tmp 24) 22 rfl w.heap.size i0 Try.underlying22 hi hz0 hz1 hz2 _ _ _ rfl hO4 _ _ rfl hv4 hlen hB6.size ?_))
  intro v5 w5 hO5 hg5
  have hB7 := hB6.grown hg5 hB6.size (fun k hk => (hO4.lt k hk).1)
  clear hO4 hg5 hB6 hv4 hv
  go_wp2_with fail
  go_ret2
  refine ⟨v5, rfl, ?_, hB7⟩
  rw [HL.out]
  exact owns_cast hO5 (by simp; omega) (by simp)
end Go.Proofs.Ytlonniegaaocoaa
