/- The reader's Below and Bytes. -/
import Derived.Test.YtocjongjgbccnaaRead
import Derived.Test.YtocjongjgbccnaaSpec
namespace Go.Proofs.Ytocjongjgbccnaa
open Go.RowKit

set_option maxHeartbeats 400000 in
set_option maxRecDepth 100000 in
theorem below_any (p b : Nat) (xs : List Int) (code limit : Int) (w : World) (h : RdrAt w p b xs code) (hl : limit ≤ 9223372036854775807) :
    Calls Try.prog 19 #[.pointer (some ⟨p, 0, none⟩), .int .i64 limit] w fun e w' => e = .returned (.int .i64 (Leb.belA (Leb.numA xs code) limit)) ∧
      RdrAt w' p b (Leb.numL xs code) (Leb.belC (Leb.numA xs code) (Leb.numC xs code) limit) ∧ w.grownBy w' (some p) := by
  have H := hide (num_any p b xs code w h)
  generalize Leb.numA xs code = n at *
  generalize Leb.numL xs code = ys at *
  generalize Leb.numC xs code = cc at *
  clear h
  by_cases h0 : limit ≤ 0
  · have e1 : Leb.belA n limit = 0 := by unfold Leb.belA; rw [if_pos (Or.inl h0)]
    have e2 : Leb.belC n cc limit = Leb.failed cc 2 := by unfold Leb.belC; rw [if_pos (Or.inl h0)]
    rw [e1, e2]
    clear e1 e2
    go_enter Try.func19, Try.ntmps19
    go_wp2_with fail
    refine H.out.mono ?_
    rintro e w1 ⟨rfl, hR, hG⟩
    go_wp2_with fail
    refine (fail_any p b ys cc 2 w1 hR).mono ?_
    rintro e w2 ⟨rfl, hR2, hG2⟩
    have hG' := grownBy_trans hG hG2
    clear hG hG2 hR
    go_wp2_with fail
    go_ret
    exact ⟨rfl, hR2, hG'⟩
  · by_cases h1 : limit ≤ (n : Int)
    · have e1 : Leb.belA n limit = 0 := by unfold Leb.belA; rw [if_pos (Or.inr h1)]
      have e2 : Leb.belC n cc limit = Leb.failed cc 2 := by unfold Leb.belC; rw [if_pos (Or.inr h1)]
      rw [e1, e2]
      clear e1 e2
      go_enter Try.func19, Try.ntmps19
      go_wp2_with fail
      refine H.out.mono ?_
      rintro e w1 ⟨rfl, hR, hG⟩
      go_wp2_with fail
      refine (fail_any p b ys cc 2 w1 hR).mono ?_
      rintro e w2 ⟨rfl, hR2, hG2⟩
      have hG' := grownBy_trans hG hG2
      clear hG hG2 hR
      go_wp2_with fail
      go_ret
      exact ⟨rfl, hR2, hG'⟩
    · have e1 : Leb.belA n limit = (n : Int) := by unfold Leb.belA; rw [if_neg (by omega)]
      have e2 : Leb.belC n cc limit = cc := by unfold Leb.belC; rw [if_neg (by omega)]
      rw [e1, e2]
      clear e1 e2
      have hlt : (n : Int) < limit := by omega
      go_enter Try.func19, Try.ntmps19
      go_wp2_with fail
      refine H.out.mono ?_
      rintro e w1 ⟨rfl, hR, hG⟩
      go_wp2_with fail
      go_ret
      exact ⟨rfl, hR, hG⟩

theorem bytAt_nil (b : Nat) (w : World) : BytAt b w (.slice none 0 0) [] :=
  ⟨by simp, none, 0, rfl, Nat.le_refl _, by simp [maxLen], fun _ => rfl, fun h => by simp at h⟩

set_option maxHeartbeats 400000 in
set_option maxRecDepth 100000 in
theorem bytes_in (p b : Nat) (xs : List Int) (k : Nat) (w : World) (h : RdrAt w p b xs 0) (hk : k ≤ xs.length) (hx : xs.length ≤ 1000000000) :
    Calls Try.prog 21 #[.pointer (some ⟨p, 0, none⟩), .int .i64 k] w fun e w' => ∃ v g, e = .returned v ∧ w.heap.size ≤ g ∧ BytAt g w' v (xs.take k) ∧ RdrAt w' p b (xs.drop k) 0 ∧ w.grownBy w' (some p) := by
  have hR := h
  have hplt := h.lt
  obtain ⟨v, h1, h2, h3, h4, h5, h6⟩ := h
  have h5' := h5
  obtain ⟨hb0, ao, cap, rfl, hlc, hcm, hao, hcell⟩ := h5
  obtain ⟨i0, hi, hz0, hz1, hz2⟩ := info_parts info5
  unfold maxLen at hcm
  go_enter Try.func21, Try.ntmps21
  go_wp2_with (at_make; go_must (refine wpList_make_lc _ rfl (.tmp 24) (.tmp 24) 22 rfl 5 i0 Try.underlying22 hi hz0 hz1 .i64 .i64 _ _ k k rfl rfl (by simp) (by simp) (by omega) (by rw [hz2]; omega) (by unfold maxLen; omega) ?_))
  intro w1 HG hB hz
  obtain ⟨X, hX⟩ : ∃ X, X = (xs.take k).map (Value.int .u8) := ⟨_, rfl⟩
  have hXl : X.length = k := by rw [hX]; simp; omega
  have HX := hide hX
  have g1 := (hB.cell (p := ⟨p, 0, none⟩) hplt).trans h1
  have g2 := (hB.cell (p := ⟨p, 1, none⟩) hplt).trans h2
  clear hX
  go_wp2_with (refine wpList_copy_splice rfl (.tmp 26) (.tmp 30) 22 22 rfl 5 Try.underlying22 size5 _ _ _ _ _ _ rfl rfl w.heap.size 0 (zrow k) 5 HG.out X ?_ ?_ ?_ ?_ w.heap.size w hB (Nat.le_refl _) ?_)
  · rw [hXl]; exact (Nat.min_eq_right hk).symm
  · intro hp
    obtain ⟨off, rfl, hc⟩ := hcell (by omega)
    refine ⟨_, rfl, fun j u hj => ?_⟩
    rw [HX.out] at hj
    have hjl : j < k := by
      rcases Nat.lt_or_ge j k with h | h
      · exact h
      · rw [List.getElem?_eq_none (by simp; omega)] at hj; simp at hj
    have hlt : b < w.heap.size := World.block_lt_of_cell? w _ (hc 0 (by omega))
    rw [Addr.add_lit, hB.cell (p := ⟨b, off + j, none⟩) hlt, hc j (by omega)]
    simp [hjl] at hj
    obtain ⟨y, hy, rfl⟩ := hj
    simp [hy]
  · rw [zrow_length, hXl]; omega
  · intro u hu
    rw [HX.out] at hu
    obtain ⟨x, _, rfl⟩ := List.mem_map.1 hu
    rfl
  intro w2 HG2 hB2
  have hown0 := owns_of_splice (n := k) (cap := k) HG2.out (Nat.le_refl _) hXl (by omega) (by unfold maxLen; omega)
  rw [HX.out] at hown0
  obtain ⟨gb, hgb, hbyt⟩ := BytAt.of_owns hown0 (fun x hx => hb0 x (List.mem_of_mem_take hx))
  have hbyt_kept : ∀ {w3 : World}, w2.grownBy w3 (some p) → BytAt gb w3 (.slice (some ⟨w.heap.size, 0, none⟩) k k) (xs.take k) := fun hg => hbyt.kept hg (by omega)
  clear hbyt
  have hR2 := hR.below hB2
  have k1 := (hB2.cell (p := ⟨p, 0, none⟩) hplt).trans h1
  have k2 := (hB2.cell (p := ⟨p, 1, none⟩) hplt).trans h2
  have k3 := (hB2.frozen (p := ⟨p, 0, none⟩) hplt).trans h3
  have h52 := h5'.below hB2 (fun hp => h5'.lt hp)
  clear HG2 HG HX hXl hcell hB g1 g2 h1 h2 h3 h4 h5' hR hown0 hi hz0 hz1 hz2
  have hg2 := grownBy_below hB2 (some p)
  by_cases hkc : k < cap
  · have hD := h52.drop k hk (ao.map (fun x => x.add k)) (fun off ho _ => by rw [ho, Option.map_some, Addr.add_lit]) (fun hn => by cases ao <;> simp_all)
    have hR3 := hR2.setRest hD
    have hG3 := grownBy_setCell w2 p 0 (.slice (ao.map (fun x => x.add k)) (xs.length - k) (cap - k))
    have hbyt3 := hbyt_kept hG3
    have hG := grownBy_trans hg2 hG3
    clear hg2 hG3 hR2 hD h52 hB2
    go_wp2_with fail
    go_ret
    exact ⟨_, gb, rfl, hgb, hbyt3, hR3, hG⟩
  · obtain rfl : cap = k := by omega
    have hD := h52.drop cap hk ao (fun off ho hl => by omega) (fun hn => hn)
    rw [Nat.sub_self, show xs.length - cap = 0 from by omega] at hD
    have hR3 := hR2.setRest hD
    have hG3 := grownBy_setCell w2 p 0 (.slice ao 0 0)
    have hbyt3 := hbyt_kept hG3
    have hG := grownBy_trans hg2 hG3
    clear hg2 hG3 hR2 hD h52 hB2
    go_wp2_with fail
    go_ret
    exact ⟨_, gb, rfl, hgb, hbyt3, hR3, hG⟩

set_option maxHeartbeats 400000 in
set_option maxRecDepth 100000 in
theorem bytes_fault (p b : Nat) (xs : List Int) (code n : Int) (w : World) (h : RdrAt w p b xs code) (hc : code ≠ 0) :
    Calls Try.prog 21 #[.pointer (some ⟨p, 0, none⟩), .int .i64 n] w fun e w' => ∃ v g, e = .returned v ∧ w.heap.size ≤ g ∧ BytAt g w' v [] ∧ RdrAt w' p b xs code ∧ w.grownBy w' (some p) := by
  have hR := h
  obtain ⟨v, h1, h2, h3, h4, h5, h6⟩ := h
  have hcb : (code == 0) = false := by simp [hc]
  clear h5 hc
  go_enter Try.func21, Try.ntmps21
  go_wp2_with fail
  go_ret
  exact ⟨_, w.heap.size, rfl, Nat.le_refl _, bytAt_nil _ _, hR, grownBy_refl _ _⟩

set_option maxHeartbeats 400000 in
set_option maxRecDepth 100000 in
theorem bytes_out (p b : Nat) (xs : List Int) (n : Int) (w : World) (h : RdrAt w p b xs 0) (hn : ¬ (0 ≤ n ∧ n ≤ (xs.length : Int))) :
    Calls Try.prog 21 #[.pointer (some ⟨p, 0, none⟩), .int .i64 n] w fun e w' => ∃ v g, e = .returned v ∧ w.heap.size ≤ g ∧ BytAt g w' v [] ∧ RdrAt w' p b xs 3 ∧ w.grownBy w' (some p) := by
  have hR := h
  obtain ⟨v, h1, h2, h3, h4, h5, h6⟩ := h
  obtain ⟨hb0, ao, cap, rfl, _⟩ := h5
  by_cases h0 : n < 0
  · clear hn
    go_enter Try.func21, Try.ntmps21
    go_wp2_with fail
    refine (fail_any p b xs 0 3 w hR).mono ?_
    rintro e w1 ⟨rfl, hR1, hG⟩
    rw [Leb.failed_zero] at hR1
    clear hR h1 h2 h3 h4
    go_wp2_with fail
    go_ret
    exact ⟨_, w.heap.size, rfl, Nat.le_refl _, bytAt_nil _ _, hR1, hG⟩
  · have h1' : (xs.length : Int) < n := by omega
    clear hn
    go_enter Try.func21, Try.ntmps21
    go_wp2_with fail
    refine (fail_any p b xs 0 3 w hR).mono ?_
    rintro e w1 ⟨rfl, hR1, hG⟩
    rw [Leb.failed_zero] at hR1
    clear hR h1 h2 h3 h4
    go_wp2_with fail
    go_ret
    exact ⟨_, w.heap.size, rfl, Nat.le_refl _, bytAt_nil _ _, hR1, hG⟩

theorem bytes_any (p b : Nat) (xs : List Int) (code n : Int) (w : World) (h : RdrAt w p b xs code) (hx : xs.length ≤ 1000000000) :
    Calls Try.prog 21 #[.pointer (some ⟨p, 0, none⟩), .int .i64 n] w fun e w' => ∃ v g, e = .returned v ∧ w.heap.size ≤ g ∧ BytAt g w' v (Leb.bytA xs code n) ∧ RdrAt w' p b (Leb.bytL xs code n) (Leb.bytC xs code n) ∧ w.grownBy w' (some p) := by
  by_cases hc : code = 0
  · subst hc
    by_cases hn : 0 ≤ n ∧ n ≤ (xs.length : Int)
    · obtain ⟨k, rfl⟩ := Int.eq_ofNat_of_zero_le hn.1
      obtain ⟨e1, e2, e3⟩ := Leb.byt_in (xs := xs) (k := k) (by omega)
      rw [e1, e2, e3]
      exact bytes_in p b xs k w h (by omega) hx
    · obtain ⟨e1, e2, e3⟩ := Leb.byt_out hn
      rw [e1, e2, e3]
      exact bytes_out p b xs n w h hn
  · obtain ⟨e1, e2, e3⟩ := Leb.byt_fault (xs := xs) (n := n) hc
    rw [e1, e2, e3]
    exact bytes_fault p b xs code n w h hc

end Go.Proofs.Ytocjongjgbccnaa
