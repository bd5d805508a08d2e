/- The document's reader: Num, Fail, End, Below; and Zag. -/
import Derived.Test.YtbjnhicikkjadaaL2
namespace Go.Proofs.Ytbjnhicikkjadaa.Lb
open Go.RowKit


theorem refsum (i acc U : Nat) (c : Int) (h0 : 0 ≤ c) (h1 : c < 256) (hi : i ≤ 9) (h9 : i = 9 → c ≤ 1) (hU : U = 128 ^ i) (ha : acc < 128 ^ i) :
    IntKind.u64.wrap ((acc : Int) + IntKind.u64.wrap (c % 128 * (U : Int))) = ((acc + c.toNat % 128 * 128 ^ i : Nat) : Int) := by
  obtain ⟨d, rfl⟩ := Int.eq_ofNat_of_zero_le h0
  have hm : ((d : Int) % 128 * (U : Int)) = ((d % 128 * 128 ^ i : Nat) : Int) := by rw [hU]; push_cast; rfl
  have hle : d % 128 * 128 ^ i + 128 ^ i ≤ 18446744073709551616 := by
    by_cases h : i = 9
    · subst h
      have := h9 rfl
      have hd : d % 128 ≤ 1 := by omega
      rw [Leb.pow9]
      omega
    · have h3 := Leb.pow_le9 (i := i + 1) (by omega)
      rw [Nat.pow_succ] at h3
      have h4 : (d % 128 + 1) * 128 ^ i ≤ 128 * 128 ^ i := Nat.mul_le_mul_right _ (by omega)
      rw [Nat.add_mul] at h4
      omega
  have hpos : 0 < 128 ^ i := Nat.pow_pos (by omega)
  rw [hm, IntKind.wrap_u64, IntKind.wrap_u64, Int.toNat_natCast]
  generalize d % 128 * 128 ^ i = q at *
  omega
theorem refunit (i U : Nat) (hi : i < 9) (hU : U = 128 ^ i) : IntKind.u64.wrap ((U : Int) * 128) = ((128 ^ (i + 1) : Nat) : Int) := by
  have h3 := Leb.pow_le9 (i := i + 1) (by omega)
  have hm : ((U : Int) * 128) = ((128 ^ (i + 1) : Nat) : Int) := by rw [hU, Nat.pow_succ]; push_cast; rfl
  rw [hm, IntKind.wrap_u64]
  generalize 128 ^ (i + 1) = q at *
  omega
theorem form1 {i acc : Nat} {c : Int} {cs : List Int} (h : i = 9) (h1 : 1 < c) : Leb.num i acc (c :: cs) = (0, 0, 8) := by subst h; exact Leb.num_form1 h1
theorem ret_u64 {a b : Int} (h : a = b) : Ending.returned (.int .u64 a) = .returned (.int .u64 b) := by rw [h]

set_option maxHeartbeats 1000000 in
set_option maxRecDepth 100000 in
theorem refNum_ok (p b : Nat) (xs : List Int) (w : World) (h : RdrAt w p b xs 0) :
    Calls Try.prog 77 #[.pointer (some ⟨p, 0, none⟩)] w fun e w' => e = .returned (.int .u64 (Leb.num 0 0 xs).1) ∧ RdrAt w' p b (xs.drop (Leb.num 0 0 xs).2.1) (Leb.num 0 0 xs).2.2 ∧ w.grownBy w' (some p) := by
  have hR := h
  obtain ⟨v, h1, h2, h3, h4, h5, h6⟩ := h
  have h5' := h5
  obtain ⟨hb0, ao, cap, rfl, hlc, hcm, hao, hcell⟩ := h5
  unfold maxLen at hcm
  have HR := hide hR
  have H5 := hide h5'
  have HB := hide hb0
  have HC := hide hcell
  clear hR h5' hb0 hcell
  go_enter Try.func77, Try.ntmps77
  go_wp2_with fail
  go_loop [3, 4, 5, 6] (fun nv uv iv _ => ∃ i acc U : Nat, i ≤ 9 ∧ i ≤ xs.length ∧ iv = .int .i64 i ∧ nv = .int .u64 acc ∧ uv = .int .u64 U ∧ Hid (U = 128 ^ i) ∧ Hid (acc < 128 ^ i) ∧ Hid (Leb.num 0 0 xs = Leb.num i acc (xs.drop i))) (fun _ _ iv _ => 10 - (intOf iv).toNat)
  case atStart => exact ⟨0, 0, 1, by omega, by omega, rfl, rfl, rfl, rfl, by show _ < _; simp, rfl⟩
  case round =>
    obtain ⟨i, acc, U, hi9, hil, rfl, rfl, rfl, hU, ha, he⟩ := hrel
    by_cases hlt : i < xs.length
    · obtain ⟨off, rfl, hc⟩ := HC.out (by omega)
      have hci := hc i hlt
      obtain ⟨c, hcc⟩ : ∃ c, c = xs.getD i 0 := ⟨_, rfl⟩
      rw [← hcc] at hci
      have hcb : 0 ≤ c ∧ c < 256 := by rw [hcc]; exact HB.out _ (by simp [List.getElem?_eq_getElem hlt])
      have hdr : xs.drop i = c :: xs.drop (i + 1) := by rw [List.drop_eq_getElem_cons hlt, hcc]; simp [List.getElem?_eq_getElem hlt]
      have HD := hide hdr
      have hc0 := hcb.1
      have hc1 := hcb.2
      have hne : ((i : Int) == (xs.length : Int)) = false := by simp; omega
      clear hc hdr hcb hcc
      by_cases h9 : 9 ≤ i
      · by_cases h1c : 1 < c
        · have e9 : Hid (i = 9) := by show _ = _; omega
          have hS := HR.out.setCode 8
          go_wp2_with fail
          go_ret
          rw [he.out, HD.out, form1 e9.out h1c]
          exact ⟨rfl, hS, grownBy_setCell _ _ _ _⟩
        · by_cases h00 : c ≤ 0
          · have hS := HR.out.setCode 8
            go_wp2_with fail
            go_ret
            rw [he.out, HD.out, Leb.num_form2 (by omega) (by omega)]
            exact ⟨rfl, hS, grownBy_setCell _ _ _ _⟩
          · obtain rfl : i = 9 := by omega
            have HJ := hide (refsum 9 acc U c hc0 hc1 hi9 (fun _ => by omega) hU.out ha.out)
            by_cases hkc : 10 < cap
            · have hDr := H5.out.drop 10 (by omega) (some ⟨b, off + 10, none⟩) (fun o ho _ => by simp at ho; rw [ho]) (by simp)
              have hS := HR.out.setRest hDr
              have hG := grownBy_setCell w p 0 (.slice (some ⟨b, off + 10, none⟩) (xs.length - 10) (cap - 10))
              clear hDr
              go_wp2_with fail
              go_ret
              rw [he.out, HD.out, Leb.num_last (by omega) (by omega), HJ.out]
              exact ⟨rfl, hS, hG⟩
            · obtain rfl : cap = 10 := by omega
              have hDr := H5.out.drop 10 (by omega) (some ⟨b, off, none⟩) (fun o ho hl => by omega) (by simp)
              rw [Nat.sub_self, show xs.length - 10 = 0 from by omega] at hDr
              have hS := HR.out.setRest hDr
              have hG := grownBy_setCell w p 0 (.slice (some ⟨b, off, none⟩) 0 0)
              clear hDr
              go_wp2_with fail
              go_ret
              rw [he.out, HD.out, Leb.num_last (by omega) (by omega), HJ.out]
              exact ⟨rfl, hS, hG⟩
      · have HJ := hide (refsum i acc U c hc0 hc1 hi9 (fun h => by omega) hU.out ha.out)
        have HU := hide (refunit i U (by omega) hU.out)
        have HA : Hid (acc + c.toNat % 128 * 128 ^ i < 128 ^ (i + 1)) := by
          show _ < _
          have h1 : c.toNat % 128 * 128 ^ i ≤ 127 * 128 ^ i := Nat.mul_le_mul_right _ (by omega)
          have h2 := ha.out
          rw [Nat.pow_succ]
          omega
        by_cases h0 : 0 < i
        · by_cases h00 : c ≤ 0
          · have hS := HR.out.setCode 8
            go_wp2_with fail
            go_ret
            rw [he.out, HD.out, Leb.num_form2 (by omega) (by omega)]
            exact ⟨rfl, hS, grownBy_setCell _ _ _ _⟩
          · by_cases hc2 : c < 128
            · by_cases hkc : i + 1 < cap
              · have hDr := H5.out.drop (i + 1) (by omega) (some ⟨b, off + (i + 1), none⟩) (fun o ho _ => by simp at ho; rw [ho]) (by simp)
                have hS := HR.out.setRest hDr
                have hG := grownBy_setCell w p 0 (.slice (some ⟨b, off + (i + 1), none⟩) (xs.length - (i + 1)) (cap - (i + 1)))
                clear hDr
                go_wp2_with fail
                go_ret
                rw [he.out, HD.out, Leb.num_last (by omega) (by omega), HJ.out]
                exact ⟨rfl, hS, hG⟩
              · obtain rfl : cap = i + 1 := by omega
                have hDr := H5.out.drop (i + 1) (by omega) (some ⟨b, off, none⟩) (fun o ho hl => by omega) (by simp)
                rw [Nat.sub_self, show xs.length - (i + 1) = 0 from by omega] at hDr
                have hS := HR.out.setRest hDr
                have hG := grownBy_setCell w p 0 (.slice (some ⟨b, off, none⟩) 0 0)
                clear hDr
                go_wp2_with fail
                go_ret
                rw [he.out, HD.out, Leb.num_last (by omega) (by omega), HJ.out]
                exact ⟨rfl, hS, hG⟩
            · go_wp2_with fail
              go_round
              case rel => exact ⟨i + 1, _, 128 ^ (i + 1), by omega, by omega, by go_num, by rw [HJ.out], by rw [HU.out], rfl, HA, by show _ = _; rw [he.out, HD.out, Leb.num_more (by omega) (by omega)]⟩
              case measure => simp [intOf]; omega
        · by_cases hc2 : c < 128
          · by_cases hkc : i + 1 < cap
            · have hDr := H5.out.drop (i + 1) (by omega) (some ⟨b, off + (i + 1), none⟩) (fun o ho _ => by simp at ho; rw [ho]) (by simp)
              have hS := HR.out.setRest hDr
              have hG := grownBy_setCell w p 0 (.slice (some ⟨b, off + (i + 1), none⟩) (xs.length - (i + 1)) (cap - (i + 1)))
              clear hDr
              go_wp2_with fail
              go_ret
              rw [he.out, HD.out, Leb.num_last (by omega) (by omega), HJ.out]
              exact ⟨rfl, hS, hG⟩
            · obtain rfl : cap = i + 1 := by omega
              have hDr := H5.out.drop (i + 1) (by omega) (some ⟨b, off, none⟩) (fun o ho hl => by omega) (by simp)
              rw [Nat.sub_self, show xs.length - (i + 1) = 0 from by omega] at hDr
              have hS := HR.out.setRest hDr
              have hG := grownBy_setCell w p 0 (.slice (some ⟨b, off, none⟩) 0 0)
              clear hDr
              go_wp2_with fail
              go_ret
              rw [he.out, HD.out, Leb.num_last (by omega) (by omega), HJ.out]
              exact ⟨rfl, hS, hG⟩
          · go_wp2_with fail
            go_round
            case rel => exact ⟨i + 1, _, 128 ^ (i + 1), by omega, by omega, by go_num, by rw [HJ.out], by rw [HU.out], rfl, HA, by show _ = _; rw [he.out, HD.out, Leb.num_more (by omega) (by omega)]⟩
            case measure => simp [intOf]; omega
    · have hS := HR.out.setCode 3
      obtain rfl : i = xs.length := by omega
      go_wp2_with fail
      go_ret
      rw [he.out, List.drop_eq_nil_of_le (Nat.le_refl _)]
      exact ⟨rfl, hS, grownBy_setCell _ _ _ _⟩

set_option maxHeartbeats 400000 in
theorem refNum_any (p b : Nat) (xs : List Int) (code : Int) (w : World) (h : RdrAt w p b xs code) :
    Calls Try.prog 77 #[.pointer (some ⟨p, 0, none⟩)] w fun e w' => e = .returned (.int .u64 (Leb.numA xs code)) ∧ RdrAt w' p b (Leb.numL xs code) (Leb.numC xs code) ∧ w.grownBy w' (some p) := by
  by_cases hc : code = 0
  · subst hc
    exact refNum_ok p b xs w h
  · have eA : Leb.numA xs code = 0 := by unfold Leb.numA; rw [if_neg hc]
    have eL : Leb.numL xs code = xs := by unfold Leb.numL; rw [if_neg hc]
    have eC : Leb.numC xs code = code := by unfold Leb.numC; rw [if_neg hc]
    rw [eA, eL, eC]
    have hR := h
    obtain ⟨v, h1, h2, h3, h4, h5, h6⟩ := h
    have hb : (code == 0) = false := by simp [hc]
    clear h5 eA eL eC hc
    go_enter Try.func77, Try.ntmps77
    go_wp2_with fail
    go_ret
    exact ⟨rfl, hR, grownBy_refl _ _⟩


set_option maxHeartbeats 400000 in
theorem refFail_any (p b : Nat) (xs : List Int) (code c : Int) (w : World) (h : RdrAt w p b xs code) :
    Calls Try.prog 78 #[.pointer (some ⟨p, 0, none⟩), .int .i64 c] w fun e w' => e = .returned (.tuple #[]) ∧ RdrAt w' p b xs (Leb.failed code c) ∧ w.grownBy w' (some p) := by
  have hR := h
  obtain ⟨v, h1, h2, h3, h4, h5, h6⟩ := h
  by_cases hc : code = 0
  · subst hc
    have hS := hR.setCode c
    have hG := grownBy_setCell w p 1 (.int .i64 c)
    clear hR h5
    rw [Leb.failed_zero]
    go_enter Try.func78, Try.ntmps78
    go_wp2
    go_end0
    exact ⟨rfl, hS, hG⟩
  · rw [Leb.failed_ne hc]
    have hb : (code == 0) = false := by simp [hc]
    clear h5 hc
    go_enter Try.func78, Try.ntmps78
    go_wp2
    go_end0
    exact ⟨rfl, hR, grownBy_refl _ _⟩

set_option maxHeartbeats 400000 in
theorem refEnd_any (p b : Nat) (xs : List Int) (code : Int) (w : World) (h : RdrAt w p b xs code) :
    Calls Try.prog 48 #[.pointer (some ⟨p, 0, none⟩)] w fun e w' => e = .returned (.int .i64 (Leb.ended xs code)) ∧ RdrAt w' p b xs (Leb.ended xs code) ∧ w.grownBy w' (some p) := by
  have hR := h
  obtain ⟨v, h1, h2, h3, h4, h5, h6⟩ := h
  obtain ⟨h0, ao, cap, rfl, _⟩ := h5
  by_cases hc : code = 0
  · subst hc
    by_cases hp : 0 < xs.length
    · have e1 : Leb.ended xs 0 = 5 := by unfold Leb.ended; rw [if_pos hp, Leb.failed_zero]
      rw [e1]
      have hS := hR.setCode 5
      have hG := grownBy_setCell w p 1 (.int .i64 5)
      clear e1 hR
      go_enter Try.func48, Try.ntmps48
      go_wp2
      go_ret
      exact ⟨rfl, hS, hG⟩
    · have e1 : Leb.ended xs 0 = 0 := by unfold Leb.ended; rw [if_neg hp]
      rw [e1]
      clear e1
      go_enter Try.func48, Try.ntmps48
      go_wp2
      go_ret
      exact ⟨rfl, hR, grownBy_refl _ _⟩
  · have e1 : Leb.ended xs code = code := by unfold Leb.ended; rw [Leb.failed_ne hc]; split <;> rfl
    rw [e1]
    have hb : (code == 0) = false := by simp [hc]
    clear e1 hc
    go_enter Try.func48, Try.ntmps48
    go_wp2
    go_ret
    exact ⟨rfl, hR, grownBy_refl _ _⟩

theorem ret_i64 {a b : Int} (h : a = b) : Ending.returned (.int .i64 a) = .returned (.int .i64 b) := by rw [h]

set_option maxHeartbeats 400000 in
theorem refZag_any (n : Nat) (w : World) (h : Leb.Fits n) :
    Calls Try.prog 79 #[.int .u64 n] w fun e w' => e = .returned (.int .i64 (Leb.zag n)) ∧ w' = w := by
  have hf := h.out
  by_cases ho : n % 2 = 1
  · have e : Hid (Leb.zag n = -1 - ((n / 2 : Nat) : Int)) := by show _ = _; unfold Leb.zag; rw [if_pos ho]
    have hb : ((n : Int) % 2 == 1) = true := by simp; omega
    clear ho
    go_enter Try.func79, Try.ntmps79
    go_wp2
    go_ret
    refine ⟨ret_i64 ?_, rfl⟩
    rw [e.out]
    omega
  · have e : Hid (Leb.zag n = ((n / 2 : Nat) : Int)) := by show _ = _; unfold Leb.zag; rw [if_neg ho]
    have hb : ((n : Int) % 2 == 1) = false := by simp; omega
    clear ho
    go_enter Try.func79, Try.ntmps79
    go_wp2
    go_ret
    refine ⟨ret_i64 ?_, rfl⟩
    rw [e.out]
    omega

/-- The number's fault decides: what Below answers there. -/
theorem bel_fault {n : Nat} {cc limit : Int} (h : cc ≠ 0) (hn : n = 0) : Leb.belA n limit = 0 ∧ Leb.belC n cc limit = cc := by
  unfold Leb.belA Leb.belC
  rw [hn, Leb.failed_ne h]
  refine ⟨by split <;> rfl, by split <;> rfl⟩

set_option maxHeartbeats 400000 in
set_option maxRecDepth 100000 in
theorem refBelow_any (p b : Nat) (xs : List Int) (code limit : Int) (w : World) (h : RdrAt w p b xs code) (hl : limit ≤ 9223372036854775807) :
    Calls Try.prog 46 #[.pointer (some ⟨p, 0, none⟩), .int .i64 limit] w fun e w' => e = .returned (.int .i64 (Leb.belA (Leb.numA xs code) limit)) ∧
      RdrAt w' p b (Leb.numL xs code) (Leb.belC (Leb.numA xs code) (Leb.numC xs code) limit) ∧ w.grownBy w' (some p) := by
  have H := hide (refNum_any p b xs code w h)
  have hfa := hide (fun hc => Leb.numA_fault (xs := xs) (code := code) hc)
  generalize Leb.numA xs code = n at *
  generalize Leb.numL xs code = ys at *
  generalize Leb.numC xs code = cc at *
  clear h
  by_cases hc : cc = 0
  · subst hc
    by_cases hbad : limit ≤ 0 ∨ limit ≤ (n : Int)
    · have e1 : Leb.belA n limit = 0 := by unfold Leb.belA; rw [if_pos hbad]
      have e2 : Leb.belC n 0 limit = 2 := by unfold Leb.belC; rw [if_pos hbad, Leb.failed_zero]
      rw [e1, e2]
      clear e1 e2 hfa
      by_cases h0 : limit ≤ 0
      · clear hbad
        go_enter Try.func46, Try.ntmps46
        go_wp2_with fail
        refine H.out.mono ?_
        rintro e w1 ⟨rfl, hR, hG⟩
        have hS := hR.setCode 2
        have hG' := grownBy_trans hG (grownBy_setCell w1 p 1 (.int .i64 2))
        obtain ⟨v, k1, k2, k3, k4, k5, k6⟩ := hR
        clear k5 hG
        go_wp2_with fail
        go_ret
        exact ⟨rfl, hS, hG'⟩
      · have h1 : limit ≤ (n : Int) := by omega
        clear hbad
        go_enter Try.func46, Try.ntmps46
        go_wp2_with fail
        refine H.out.mono ?_
        rintro e w1 ⟨rfl, hR, hG⟩
        have hS := hR.setCode 2
        have hG' := grownBy_trans hG (grownBy_setCell w1 p 1 (.int .i64 2))
        obtain ⟨v, k1, k2, k3, k4, k5, k6⟩ := hR
        clear k5 hG
        go_wp2_with fail
        go_ret
        exact ⟨rfl, hS, hG'⟩
    · have e1 : Leb.belA n limit = (n : Int) := by unfold Leb.belA; rw [if_neg hbad]
      have e2 : Leb.belC n 0 limit = 0 := by unfold Leb.belC; rw [if_neg hbad]
      rw [e1, e2]
      have hlt : (n : Int) < limit := by omega
      have h0 : 0 < limit := by omega
      clear e1 e2 hfa hbad
      go_enter Try.func46, Try.ntmps46
      go_wp2_with fail
      refine H.out.mono ?_
      rintro e w1 ⟨rfl, hR, hG⟩
      have hR' := hR
      obtain ⟨v, k1, k2, k3, k4, k5, k6⟩ := hR
      clear k5
      go_wp2_with fail
      go_ret
      exact ⟨rfl, hR', hG⟩
  · have hn := hfa.out hc
    obtain ⟨e1, e2⟩ := bel_fault (limit := limit) hc hn
    rw [e1, e2]
    have hb : (cc == 0) = false := by simp [hc]
    clear e1 e2 hfa hc hn
    go_enter Try.func46, Try.ntmps46
    go_wp2_with fail
    refine H.out.mono ?_
    rintro e w1 ⟨rfl, hR, hG⟩
    have hR' := hR
    obtain ⟨v, k1, k2, k3, k4, k5, k6⟩ := hR
    clear k5
    go_wp2_with fail
    go_ret
    exact ⟨rfl, hR', hG⟩

end Go.Proofs.Ytbjnhicikkjadaa.Lb
