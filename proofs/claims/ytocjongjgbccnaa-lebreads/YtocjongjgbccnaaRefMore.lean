/- The document's reader: Fail, End, Below, Bytes; and Zag. -/
import Derived.Test.YtocjongjgbccnaaRefNum
namespace Go.Proofs.Ytocjongjgbccnaa
open Go.RowKit

set_option maxHeartbeats 400000 in
theorem refFail_any (p b : Nat) (xs : List Int) (code c : Int) (w : World) (h : RdrAt w p b xs code) :
    Calls Try.prog 24 #[.pointer (some ⟨p, 0, none⟩), .int .i64 c] w fun e w' => e = .returned (.tuple #[]) ∧ RdrAt w' p b xs (Leb.failed code c) ∧ w.grownBy w' (some p) := by
  have hR := h
  obtain ⟨v, h1, h2, h3, h4, h5, h6⟩ := h
  by_cases hc : code = 0
  · subst hc
    have hS := hR.setCode c
    have hG := grownBy_setCell w p 1 (.int .i64 c)
    clear hR h5
    rw [Leb.failed_zero]
    go_enter Try.func24, Try.ntmps24
    go_wp2
    go_end0
    exact ⟨rfl, hS, hG⟩
  · rw [Leb.failed_ne hc]
    have hb : (code == 0) = false := by simp [hc]
    clear h5 hc
    go_enter Try.func24, Try.ntmps24
    go_wp2
    go_end0
    exact ⟨rfl, hR, grownBy_refl _ _⟩

set_option maxHeartbeats 400000 in
theorem refEnd_any (p b : Nat) (xs : List Int) (code : Int) (w : World) (h : RdrAt w p b xs code) :
    Calls Try.prog 26 #[.pointer (some ⟨p, 0, none⟩)] w fun e w' => e = .returned (.int .i64 (Leb.ended xs code)) ∧ RdrAt w' p b xs (Leb.ended xs code) ∧ w.grownBy w' (some p) := by
  have hR := h
  obtain ⟨v, h1, h2, h3, h4, h5, h6⟩ := h
  obtain ⟨h0, ao, cap, rfl, _⟩ := h5
  by_cases hc : code = 0
  · subst hc
    by_cases hp : 0 < xs.length
    · have e1 : Leb.ended xs 0 = 5 := by unfold Leb.ended; rw [if_pos hp, Leb.failed_zero]
      rw [e1]
      have hS := hR.setCode 5
      have hG := grownBy_setCell w p 1 (.int .i64 5)
      clear e1 hR
      go_enter Try.func26, Try.ntmps26
      go_wp2
      go_ret
      exact ⟨rfl, hS, hG⟩
    · have e1 : Leb.ended xs 0 = 0 := by unfold Leb.ended; rw [if_neg hp]
      rw [e1]
      clear e1
      go_enter Try.func26, Try.ntmps26
      go_wp2
      go_ret
      exact ⟨rfl, hR, grownBy_refl _ _⟩
  · have e1 : Leb.ended xs code = code := by unfold Leb.ended; rw [Leb.failed_ne hc]; split <;> rfl
    rw [e1]
    have hb : (code == 0) = false := by simp [hc]
    clear e1 hc
    go_enter Try.func26, Try.ntmps26
    go_wp2
    go_ret
    exact ⟨rfl, hR, grownBy_refl _ _⟩

theorem ret_i64 {a b : Int} (h : a = b) : Ending.returned (.int .i64 a) = .returned (.int .i64 b) := by rw [h]

set_option maxHeartbeats 400000 in
theorem refZag_any (n : Nat) (w : World) (h : Leb.Fits n) :
    Calls Try.prog 18 #[.int .u64 n] w fun e w' => e = .returned (.int .i64 (Leb.zag n)) ∧ w' = w := by
  have hf := h.out
  by_cases ho : n % 2 = 1
  · have e : Hid (Leb.zag n = -1 - ((n / 2 : Nat) : Int)) := by show _ = _; unfold Leb.zag; rw [if_pos ho]
    have hb : ((n : Int) % 2 == 1) = true := by simp; omega
    clear ho
    go_enter Try.func18, Try.ntmps18
    go_wp2
    go_ret
    refine ⟨ret_i64 ?_, rfl⟩
    rw [e.out]
    omega
  · have e : Hid (Leb.zag n = ((n / 2 : Nat) : Int)) := by show _ = _; unfold Leb.zag; rw [if_neg ho]
    have hb : ((n : Int) % 2 == 1) = false := by simp; omega
    clear ho
    go_enter Try.func18, Try.ntmps18
    go_wp2
    go_ret
    refine ⟨ret_i64 ?_, rfl⟩
    rw [e.out]
    omega

/-- The number's fault decides: what Below answers there. -/
theorem bel_fault {n : Nat} {cc limit : Int} (h : cc ≠ 0) (hn : n = 0) : Leb.belA n limit = 0 ∧ Leb.belC n cc limit = cc := by
  unfold Leb.belA Leb.belC
  rw [hn, Leb.failed_ne h]
  refine ⟨by split <;> rfl, by split <;> rfl⟩

set_option maxHeartbeats 400000 in
set_option maxRecDepth 100000 in
theorem refBelow_any (p b : Nat) (xs : List Int) (code limit : Int) (w : World) (h : RdrAt w p b xs code) (hl : limit ≤ 9223372036854775807) :
    Calls Try.prog 20 #[.pointer (some ⟨p, 0, none⟩), .int .i64 limit] w fun e w' => e = .returned (.int .i64 (Leb.belA (Leb.numA xs code) limit)) ∧
      RdrAt w' p b (Leb.numL xs code) (Leb.belC (Leb.numA xs code) (Leb.numC xs code) limit) ∧ w.grownBy w' (some p) := by
  have H := hide (refNum_any p b xs code w h)
  have hfa := hide (fun hc => Leb.numA_fault (xs := xs) (code := code) hc)
  generalize Leb.numA xs code = n at *
  generalize Leb.numL xs code = ys at *
  generalize Leb.numC xs code = cc at *
  clear h
  by_cases hc : cc = 0
  · subst hc
    by_cases hbad : limit ≤ 0 ∨ limit ≤ (n : Int)
    · have e1 : Leb.belA n limit = 0 := by unfold Leb.belA; rw [if_pos hbad]
      have e2 : Leb.belC n 0 limit = 2 := by unfold Leb.belC; rw [if_pos hbad, Leb.failed_zero]
      rw [e1, e2]
      clear e1 e2 hfa
      by_cases h0 : limit ≤ 0
      · clear hbad
        go_enter Try.func20, Try.ntmps20
        go_wp2_with fail
        refine H.out.mono ?_
        rintro e w1 ⟨rfl, hR, hG⟩
        have hS := hR.setCode 2
        have hG' := grownBy_trans hG (grownBy_setCell w1 p 1 (.int .i64 2))
        obtain ⟨v, k1, k2, k3, k4, k5, k6⟩ := hR
        clear k5 hG
        go_wp2_with fail
        go_ret
        exact ⟨rfl, hS, hG'⟩
      · have h1 : limit ≤ (n : Int) := by omega
        clear hbad
        go_enter Try.func20, Try.ntmps20
        go_wp2_with fail
        refine H.out.mono ?_
        rintro e w1 ⟨rfl, hR, hG⟩
        have hS := hR.setCode 2
        have hG' := grownBy_trans hG (grownBy_setCell w1 p 1 (.int .i64 2))
        obtain ⟨v, k1, k2, k3, k4, k5, k6⟩ := hR
        clear k5 hG
        go_wp2_with fail
        go_ret
        exact ⟨rfl, hS, hG'⟩
    · have e1 : Leb.belA n limit = (n : Int) := by unfold Leb.belA; rw [if_neg hbad]
      have e2 : Leb.belC n 0 limit = 0 := by unfold Leb.belC; rw [if_neg hbad]
      rw [e1, e2]
      have hlt : (n : Int) < limit := by omega
      have h0 : 0 < limit := by omega
      clear e1 e2 hfa hbad
      go_enter Try.func20, Try.ntmps20
      go_wp2_with fail
      refine H.out.mono ?_
      rintro e w1 ⟨rfl, hR, hG⟩
      have hR' := hR
      obtain ⟨v, k1, k2, k3, k4, k5, k6⟩ := hR
      clear k5
      go_wp2_with fail
      go_ret
      exact ⟨rfl, hR', hG⟩
  · have hn := hfa.out hc
    obtain ⟨e1, e2⟩ := bel_fault (limit := limit) hc hn
    rw [e1, e2]
    have hb : (cc == 0) = false := by simp [hc]
    clear e1 e2 hfa hc hn
    go_enter Try.func20, Try.ntmps20
    go_wp2_with fail
    refine H.out.mono ?_
    rintro e w1 ⟨rfl, hR, hG⟩
    have hR' := hR
    obtain ⟨v, k1, k2, k3, k4, k5, k6⟩ := hR
    clear k5
    go_wp2_with fail
    go_ret
    exact ⟨rfl, hR', hG⟩

theorem BytAt.take {b : Nat} {w : World} {ao : Option Addr} {cap : Nat} {xs : List Int} (h : BytAt b w (.slice ao xs.length cap) xs) (k : Nat) (hk : k ≤ xs.length) : BytAt b w (.slice ao k cap) (xs.take k) := by
  obtain ⟨h0, ao1, cap1, e, h2, h3, h3', h4⟩ := h
  simp only [Value.slice.injEq, true_and] at e
  obtain ⟨rfl, rfl⟩ := e
  have hlen : (xs.take k).length = k := by simp; omega
  refine ⟨fun x hx => h0 x (List.mem_of_mem_take hx), ao, cap, by rw [hlen], by omega, h3, h3', fun hp => ?_⟩
  rw [hlen] at hp
  obtain ⟨off, rfl, hc⟩ := h4 (by omega)
  refine ⟨off, rfl, fun j hj => ?_⟩
  rw [hlen] at hj
  rw [hc j (by omega)]
  simp [hj]

set_option maxHeartbeats 400000 in
set_option maxRecDepth 100000 in
theorem refBytes_in (p b : Nat) (xs : List Int) (k : Nat) (w : World) (h : RdrAt w p b xs 0) (hk : k ≤ xs.length) :
    Calls Try.prog 22 #[.pointer (some ⟨p, 0, none⟩), .int .i64 k] w fun e w' => ∃ v, e = .returned v ∧ Byt w' v (xs.take k) ∧ RdrAt w' p b (xs.drop k) 0 ∧ w.grownBy w' (some p) := by
  have hR := h
  obtain ⟨v, h1, h2, h3, h4, h5, h6⟩ := h
  have h5' := h5
  obtain ⟨hb0, ao, cap, rfl, hlc, hcm, hao, hcell⟩ := h5
  unfold maxLen at hcm
  have hT := h5'.take k hk
  clear hcell hb0
  by_cases hkc : k < cap
  · have hD := h5'.drop k hk (ao.map (fun x => x.add k)) (fun off ho _ => by rw [ho, Option.map_some, Addr.add_lit]) (fun hn => by cases ao <;> simp_all)
    have hR3 := hR.setRest hD
    have hG3 := grownBy_setCell w p 0 (.slice (ao.map (fun x => x.add k)) (xs.length - k) (cap - k))
    have hbyt3 := hT.kept hG3 (by omega)
    clear hR hD h5' hT
    go_enter Try.func22, Try.ntmps22
    go_wp2_with fail
    go_ret
    exact ⟨_, rfl, ⟨b, hbyt3⟩, hR3, hG3⟩
  · obtain rfl : cap = k := by omega
    have hD := h5'.drop cap hk ao (fun off ho hl => by omega) (fun hn => hn)
    rw [Nat.sub_self, show xs.length - cap = 0 from by omega] at hD
    have hR3 := hR.setRest hD
    have hG3 := grownBy_setCell w p 0 (.slice ao 0 0)
    have hbyt3 := hT.kept hG3 (by omega)
    clear hR hD h5' hT
    go_enter Try.func22, Try.ntmps22
    go_wp2_with fail
    go_ret
    exact ⟨_, rfl, ⟨b, hbyt3⟩, hR3, hG3⟩

set_option maxHeartbeats 400000 in
set_option maxRecDepth 100000 in
theorem refBytes_fault (p b : Nat) (xs : List Int) (code n : Int) (w : World) (h : RdrAt w p b xs code) (hc : code ≠ 0) :
    Calls Try.prog 22 #[.pointer (some ⟨p, 0, none⟩), .int .i64 n] w fun e w' => ∃ v, e = .returned v ∧ Byt w' v [] ∧ RdrAt w' p b xs code ∧ w.grownBy w' (some p) := by
  have hR := h
  obtain ⟨v, h1, h2, h3, h4, h5, h6⟩ := h
  have hcb : (code == 0) = false := by simp [hc]
  clear h5 hc
  go_enter Try.func22, Try.ntmps22
  go_wp2_with fail
  go_ret
  exact ⟨_, rfl, Byt.nil _, hR, grownBy_refl _ _⟩

set_option maxHeartbeats 400000 in
set_option maxRecDepth 100000 in
theorem refBytes_out (p b : Nat) (xs : List Int) (n : Int) (w : World) (h : RdrAt w p b xs 0) (hn : ¬ (0 ≤ n ∧ n ≤ (xs.length : Int))) :
    Calls Try.prog 22 #[.pointer (some ⟨p, 0, none⟩), .int .i64 n] w fun e w' => ∃ v, e = .returned v ∧ Byt w' v [] ∧ RdrAt w' p b xs 3 ∧ w.grownBy w' (some p) := by
  have hR := h
  obtain ⟨v, h1, h2, h3, h4, h5, h6⟩ := h
  obtain ⟨hb0, ao, cap, rfl, _⟩ := h5
  have hS := hR.setCode 3
  have hG := grownBy_setCell w p 1 (.int .i64 3)
  clear hR
  by_cases h0 : n < 0
  · clear hn
    go_enter Try.func22, Try.ntmps22
    go_wp2_with fail
    go_ret
    exact ⟨_, rfl, Byt.nil _, hS, hG⟩
  · have h1' : (xs.length : Int) < n := by omega
    clear hn
    go_enter Try.func22, Try.ntmps22
    go_wp2_with fail
    go_ret
    exact ⟨_, rfl, Byt.nil _, hS, hG⟩

theorem refBytes_any (p b : Nat) (xs : List Int) (code n : Int) (w : World) (h : RdrAt w p b xs code) :
    Calls Try.prog 22 #[.pointer (some ⟨p, 0, none⟩), .int .i64 n] w fun e w' => ∃ v, e = .returned v ∧ Byt w' v (Leb.bytA xs code n) ∧ RdrAt w' p b (Leb.bytL xs code n) (Leb.bytC xs code n) ∧ w.grownBy w' (some p) := by
  by_cases hc : code = 0
  · subst hc
    by_cases hn : 0 ≤ n ∧ n ≤ (xs.length : Int)
    · obtain ⟨k, rfl⟩ := Int.eq_ofNat_of_zero_le hn.1
      obtain ⟨e1, e2, e3⟩ := Leb.byt_in (xs := xs) (k := k) (by omega)
      rw [e1, e2, e3]
      exact refBytes_in p b xs k w h (by omega)
    · obtain ⟨e1, e2, e3⟩ := Leb.byt_out hn
      rw [e1, e2, e3]
      exact refBytes_out p b xs n w h hn
  · obtain ⟨e1, e2, e3⟩ := Leb.byt_fault (xs := xs) (n := n) hc
    rw [e1, e2, e3]
    exact refBytes_fault p b xs code n w h hc

end Go.Proofs.Ytocjongjgbccnaa
