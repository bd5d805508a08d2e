/- The document's check and Lay. -/
import Derived.Test.YtlonniegaaocoaaLay
import Derived.Test.YtlonniegaaocoaaRefPut
import Derived.Test.YtlonniegaaocoaaRefSum
namespace Go.Proofs.Ytlonniegaaocoaa
open Go.RowKit

theorem owns_below {w w' : World} {base : Nat} {e : TypeId} {size : Nat} {v : Value} {n : Nat} {xs : List Value} (h : w.ownsRow base e size v n xs) (hb : Below w.heap.size w w') : w'.ownsRow base e size v n xs :=
  h.kept (grownBy_below hb none) (Classical.em _)
theorem owns_one (w : World) (c : Int) (base : Nat) (hb : base ≤ w.heap.size) : (w.alloc (.cells #[.int .u8 c] 5)).ownsRow base 5 1 (.slice (some ⟨w.heap.size, 0, none⟩) 1 1) 1 [.int .u8 c] :=
  ⟨rfl, .inr ⟨w.heap.size, 1, #[.int .u8 c], rfl, hb, heap_alloc_new w _, by omega, by simp [maxLen], rfl, rfl⟩⟩
theorem owns_two (w : World) (c d : Int) (base : Nat) (hb : base ≤ w.heap.size) : (w.alloc (.cells #[.int .u8 c, .int .u8 d] 5)).ownsRow base 5 1 (.slice (some ⟨w.heap.size, 0, none⟩) 2 2) 2 [.int .u8 c, .int .u8 d] :=
  ⟨rfl, .inr ⟨w.heap.size, 2, #[.int .u8 c, .int .u8 d], rfl, hb, heap_alloc_new w _, by omega, by simp [maxLen], rfl, rfl⟩⟩
theorem Byt.four5 (w : World) (l : List Int) (a b c d : Int) (e : l = [a, b, c, d]) (h : Frm.Bts l) : Byt (w.alloc (.cells #[.int .u8 a, .int .u8 b, .int .u8 c, .int .u8 d] 5)) (.slice (some ⟨w.heap.size, 0, none⟩) 4 4) l := by
  subst e
  refine ⟨w.heap.size, h, _, 4, rfl, by simp, by simp [maxLen], by simp, fun _ => ⟨0, rfl, fun j hj => ?_⟩⟩
  simp only [Nat.zero_add]
  rw [World.cell?_alloc_new]
  match j, hj with
  | 0, _ => rfl
  | 1, _ => rfl
  | 2, _ => rfl
  | 3, _ => rfl

set_option maxHeartbeats 400000 in
set_option maxRecDepth 100000 in
theorem refCheck_any (k : Int) (v : Value) (xs : List Int) (w : World) (hk0 : 0 ≤ k) (hk1 : k < 256) (hv : Byt w v xs) (hx : xs.length ≤ 1000000000) :
    Calls Try.prog 20 #[.int .u8 k, v] w fun e w' => ∃ v', e = .returned v' ∧ Byt w' v' (Frm.chk k xs) ∧ Below w.heap.size w w' := by
  obtain ⟨i0, hi, hz0, hz1, hz2⟩ := info_parts info5
  have hE := owns_one w k w.heap.size (Nat.le_refl _)
  have hBE := (Below.refl w.heap.size w).alloc (Nat.le_refl _) (.cells #[.int .u8 k] 5)
  have hv1 := hv.below hBE
  have hbts : Frm.Bts (k :: xs) := Frm.Bts.cons hk0 hk1 hv.bytes
  have hn := sumOf_lt (k :: xs) hbts
  have eC : Frm.chk k xs = Frm.le4 (sumOf (k :: xs)) := rfl
  obtain ⟨ao, cap, rfl⟩ := hv.slice
  rw [eC]
  have hC := Frm.le4_bts (sumOf (k :: xs))
  obtain ⟨n, hnn⟩ : ∃ n, n = sumOf (k :: xs) := ⟨_, rfl⟩
  rw [← hnn] at hn hC ⊢
  have HN := hide hnn
  clear hv eC hnn
  go_enter Try.func20, Try.ntmps20
  go_wp2_with (at_builtin; go_must (refine wpList_append_byt _ rfl (.tmp 7) (.tmp 8) 22 rfl w.heap.size i0 Try.underlying22 hi hz0 hz1 hz2 _ _ _ rfl hE _ xs rfl hv1 (by omega) (by simp) ?_))
  intro v1 w1 hown1 hg1
  have hB1 : Below w.heap.size w w1 := hBE.grown hg1 (by simp) (fun k hk => (hE.lt k hk).1)
  have hb1 : Byt w1 v1 (k :: xs) := Byt.of_owns (n := 1 + xs.length) (by simpa using hown1) hbts
  clear hE hBE hg1 hv1 hown1
  have hS := refSum_any v1 (k :: xs) w1 hb1
  rw [← HN.out] at hS
  have hS := hide hS
  have hB2 := hB1.alloc hB1.size (.cells #[.int .u8 ((n : Int) % 256), .int .u8 ((n : Int) / 256 % 256), .int .u8 ((n : Int) / 65536 % 256), .int .u8 ((n : Int) / 16777216)] 5)
  have h4 := Byt.four5 w1 (Frm.le4 n) ((n : Int) % 256) ((n : Int) / 256 % 256) ((n : Int) / 65536 % 256) ((n : Int) / 16777216) (by
    have e : (n : Int) / 16777216 = ((n / 16777216 % 256 : Nat) : Int) := by omega
    rw [e]
    rfl) hC
  clear hb1 hB1
  go_wp2_with fail
  refine hS.out.mono ?_
  rintro e w2 ⟨rfl, rfl⟩
  clear hS
  go_wp2_with fail
  go_ret
  exact ⟨.slice (some ⟨w2.heap.size, 0, none⟩) 4 4, rfl, h4, hB2⟩

set_option maxHeartbeats 400000 in
set_option maxRecDepth 100000 in
theorem refLay_own (k : Int) (v : Value) (xs : List Int) (w : World) (hk0 : 0 ≤ k) (hk1 : k < 256) (hv : Byt w v xs) (hx : xs.length ≤ 1000000) :
    Calls Try.prog 11 #[.int .u8 k, v] w fun e w' => ∃ v', e = .returned v' ∧ w'.ownsRow w.heap.size 5 1 v' (Frm.lay k xs).length ((Frm.lay k xs).map (Value.int .u8)) ∧ Below w.heap.size w w' := by
  obtain ⟨i0, hi, hz0, hz1, hz2⟩ := info_parts info5
  have hC := Frm.chk_bts k xs
  have hCl := Frm.chk_len k xs
  have eL : Frm.lay k xs = [111, k] ++ Leb.enc xs.length ++ Frm.chk k xs ++ xs := by simp [Frm.lay]
  have HL := hide eL
  have h10 := Leb.enc_len10 (n := xs.length) (by omega)
  obtain ⟨ao, cap, rfl⟩ := hv.slice
  have hB2 := (Below.refl w.heap.size w).alloc (Nat.le_refl _) (.cells #[.int .u8 111, .int .u8 k] 5)
  have h2 := Byt.two w 111 k (by omega) (by omega) hk0 hk1
  have hP := hide (refPut_own _ [111, k] xs.length _ h2 (by simp) (by unfold Leb.Fits; omega))
  clear eL h2
  go_enter Try.func11, Try.ntmps11
  go_wp2_with fail
  refine hP.out.mono ?_
  rintro e w3 ⟨v3, rfl, hO3, hB4⟩
  have hB3 := bel_of hB2 hB4
  have hO3 := owns_mono (base' := w.heap.size) hO3 (by simp)
  have hC3 := hide (refCheck_any k _ xs w3 hk0 hk1 (hv.below hB3) (by omega))
  clear hP hB4 hB2
  go_wp2_with fail
  refine hC3.out.mono ?_
  rintro e w4 ⟨v4, rfl, hck, hB4⟩
  have hO4 := owns_below hO3 hB4
  have hB5 := bel_of hB3 hB4
  have hlen : ([111, k] ++ Leb.enc xs.length).length + (Frm.chk k xs).length ≤ 140737488355328 := by rw [hCl]; simp; omega
  clear hO3 hB3 hB4 hC3
  go_wp2_with (at_builtin; go_must (refine wpList_append_byt _ rfl (.tmp 10) (.tmp 13) 22 rfl w.heap.size i0 Try.underlying22 hi hz0 hz1 hz2 _ _ _ rfl hO4 _ _ rfl hck hlen hB5.size ?_))
  intro v5 w5 hO5 hg5
  have hB6 := hB5.grown hg5 hB5.size (fun k hk => (hO4.lt k hk).1)
  clear hO4 hg5 hB5 hck
  have hv5 := hv.below hB6
  have hlen2 : ([111, k] ++ Leb.enc xs.length).length + (Frm.chk k xs).length + xs.length ≤ 140737488355328 := by rw [hCl]; simp; omega
  go_wp2_with (at_builtin; go_must (refine wpList_append_byt _ rfl (.tmp 14) (.tmp 15) 22 rfl w.heap.size i0 Try.underlying22 hi hz0 hz1 hz2 _ _ _ rfl hO5 _ _ rfl hv5 hlen2 hB6.size ?_))
  intro v6 w6 hO6 hg6
  have hB7 := hB6.grown hg6 hB6.size (fun k hk => (hO5.lt k hk).1)
  clear hO5 hg6 hB6 hv5 hv
  go_wp2_with fail
  go_ret
  refine ⟨v6, rfl, ?_, hB7⟩
  rw [HL.out]
  exact owns_cast hO6 (by simp; omega) (by simp)
end Go.Proofs.Ytlonniegaaocoaa
