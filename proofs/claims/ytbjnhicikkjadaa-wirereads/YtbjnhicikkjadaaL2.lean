/- The reader of bytes: New, Num, Int, Below, Fail, Code, Left, End: what each answers and what it leaves. -/
import Derived.Test.YtbjnhicikkjadaaL1
namespace Go.Proofs.Ytbjnhicikkjadaa
namespace Leb

theorem numA_fault {xs : List Int} {code : Int} (h : numC xs code ≠ 0) : numA xs code = 0 := by
  unfold numA
  unfold numC at h
  split
  · rename_i hc
    rw [if_pos hc] at h
    exact (num_fault xs 0 0 h).1
  · rfl

/-- What Below answers of a number n, and the fault behind the fault c. -/
def belA (n : Nat) (limit : Int) : Int := if limit ≤ 0 ∨ limit ≤ (n : Int) then 0 else (n : Int)
def belC (n : Nat) (c limit : Int) : Int := if limit ≤ 0 ∨ limit ≤ (n : Int) then failed c 2 else c

/-- What Bytes answers, what is left, the fault. -/
def bytA (xs : List Int) (code n : Int) : List Int := if code = 0 ∧ 0 ≤ n ∧ n ≤ (xs.length : Int) then xs.take n.toNat else []
def bytL (xs : List Int) (code n : Int) : List Int := if code = 0 ∧ 0 ≤ n ∧ n ≤ (xs.length : Int) then xs.drop n.toNat else xs
def bytC (xs : List Int) (code n : Int) : Int := if 0 ≤ n ∧ n ≤ (xs.length : Int) then code else failed code 3

theorem byt_fault {xs : List Int} {code n : Int} (h : code ≠ 0) : bytA xs code n = [] ∧ bytL xs code n = xs ∧ bytC xs code n = code := by
  unfold bytA bytL bytC
  rw [if_neg (fun h1 => h h1.1), if_neg (fun h1 => h h1.1), failed_ne h]
  refine ⟨rfl, rfl, ?_⟩
  split <;> rfl
theorem byt_out {xs : List Int} {n : Int} (h : ¬ (0 ≤ n ∧ n ≤ (xs.length : Int))) : bytA xs 0 n = [] ∧ bytL xs 0 n = xs ∧ bytC xs 0 n = 3 := by
  unfold bytA bytL bytC
  rw [if_neg (fun h1 => h h1.2), if_neg (fun h1 => h h1.2), if_neg h, failed_zero]
  exact ⟨rfl, rfl, rfl⟩
theorem byt_in {xs : List Int} {k : Nat} (h : k ≤ xs.length) : bytA xs 0 (k : Int) = xs.take k ∧ bytL xs 0 (k : Int) = xs.drop k ∧ bytC xs 0 (k : Int) = 0 := by
  unfold bytA bytL bytC
  rw [if_pos ⟨rfl, by omega, by omega⟩, if_pos ⟨rfl, by omega, by omega⟩, if_pos ⟨by omega, by omega⟩]
  exact ⟨by simp, by simp, rfl⟩

theorem numL_len (xs : List Int) (code : Int) : (numL xs code).length ≤ xs.length := by
  unfold numL; split
  · simp
  · exact Nat.le_refl _
theorem bytL_len (xs : List Int) (code n : Int) : (bytL xs code n).length ≤ xs.length := by
  unfold bytL; split
  · simp
  · exact Nat.le_refl _

end Leb
end Go.Proofs.Ytbjnhicikkjadaa
namespace Go.Proofs.Ytbjnhicikkjadaa.Lb
open Go.RowKit


set_option maxHeartbeats 400000 in
set_option maxRecDepth 100000 in
theorem new_any (v : Value) (xs : List Int) (w : World) (hv : Byt w v xs) (hx : xs.length ≤ 1000000000) :
    Calls Try.prog 42 #[v] w fun e w' => ∃ p b, e = .returned (.pointer (some ⟨p, 0, none⟩)) ∧ w.heap.size ≤ p ∧ w.heap.size ≤ b ∧ b < w'.heap.size ∧ RdrAt w' p b xs 0 ∧ Below w.heap.size w w' := by
  obtain ⟨b, hb0, ao, cap, rfl, hlc, hcm, hao, hcell⟩ := hv
  obtain ⟨i0, hi, hz0, hz1, hz2⟩ := info_parts info5
  unfold maxLen at hcm
  go_enter Try.func42, Try.ntmps42
  go_wp2_with (at_make; go_must (refine wpList_make_lc _ rfl (.tmp 5) (.tmp 5) 25 rfl 5 i0 Try.underlying25 hi hz0 hz1 .i64 .i64 _ _ xs.length xs.length rfl rfl (by simp) (by simp) (by omega) (by rw [hz2]; omega) (by unfold maxLen; omega) ?_))
  intro w1 HG hB hz
  obtain ⟨X, hX⟩ : ∃ X, X = xs.map (Value.int .u8) := ⟨_, rfl⟩
  have hXl : X.length = xs.length := by rw [hX]; simp
  have HX := hide hX
  clear hX
  go_wp2_with (refine wpList_copy_splice rfl (.tmp 7) (.tmp 8) 25 25 rfl 5 Try.underlying25 size5 _ _ _ _ _ _ rfl rfl w.heap.size 0 (zrow xs.length) 5 HG.out X ?_ ?_ ?_ ?_ w.heap.size w hB (Nat.le_refl _) ?_)
  · rw [hXl]; simp
  · intro hp
    obtain ⟨off, rfl, hc⟩ := hcell (by omega)
    refine ⟨_, rfl, fun j u hj => ?_⟩
    rw [HX.out] at hj
    have hjl : j < xs.length := by
      rcases Nat.lt_or_ge j xs.length with h | h
      · exact h
      · simp [List.getElem?_eq_none h] at hj
    have hlt : b < w.heap.size := World.block_lt_of_cell? w _ (hc 0 (by omega))
    rw [Addr.add_lit, hB.cell (p := ⟨b, off + j, none⟩) hlt, hc j hjl]
    simp [List.getElem?_eq_getElem hjl] at hj
    simp [hj, List.getElem?_eq_getElem hjl]
  · rw [zrow_length, hXl]; omega
  · intro u hu
    rw [HX.out] at hu
    obtain ⟨x, _, rfl⟩ := List.mem_map.1 hu
    rfl
  intro w2 HG2 hB2
  have hzw2 : w.heap.size < w2.heap.size := (Array.getElem?_eq_some_iff.1 HG2.out).1
  have hown0 := owns_of_splice (n := xs.length) (cap := xs.length) HG2.out (Nat.le_refl _) hXl (by omega) (by unfold maxLen; omega)
  rw [HX.out] at hown0
  clear HG2 HG HX hXl hcell
  obtain ⟨g, hwg, hg, hbyt⟩ : ∃ g, w.heap.size ≤ g ∧ g < w2.heap.size ∧ BytAt g w2 (.slice (some ⟨w.heap.size, 0, none⟩) xs.length xs.length) xs := by
    obtain ⟨g, hwg, h⟩ := BytAt.of_owns hown0 hb0
    by_cases h0 : 0 < xs.length
    · exact ⟨g, hwg, h.lt h0, h⟩
    · exact ⟨w.heap.size, Nat.le_refl _, hzw2, h.1, _, _, rfl, Nat.le_refl _, by unfold maxLen; omega, fun e => by simp at e, fun hp => absurd hp h0⟩
  have hR := RdrAt.new (t := 131) (code := 0) hbyt hg
  have hB3 := hB2.alloc (by omega) (.cells #[.slice (some ⟨w.heap.size, 0, none⟩) xs.length xs.length, .int .i64 0] 131)
  clear hown0 hbyt hB hB2
  go_wp2
  go_ret
  exact ⟨_, g, rfl, by omega, hwg, by simp; omega, hR, hB3⟩


set_option maxHeartbeats 400000 in
set_option maxRecDepth 100000 in
theorem number_any (v : Value) (xs : List Int) (w : World) (hv : Byt w v xs) :
    Calls Try.prog 104 #[v] w fun e w' => e = .returned (.tuple #[.int .u64 (Leb.num 0 0 xs).1, .int .i64 (Leb.num 0 0 xs).2.1, .int .i64 (Leb.num 0 0 xs).2.2]) ∧ w' = w := by
  obtain ⟨b, hb0, ao, cap, rfl, hlc, hcm, hao, hcell⟩ := hv
  unfold maxLen at hcm
  go_enter Try.func104, Try.ntmps104
  go_wp2
  go_loop [5, 10] (fun nv iv => ∃ i acc : Nat, i ≤ 9 ∧ i ≤ xs.length ∧ iv = .int .i64 i ∧ nv = .int .u64 acc ∧ Hid (acc < 128 ^ i) ∧ Hid (Leb.num 0 0 xs = Leb.num i acc (xs.drop i))) (fun _ iv => 10 - (intOf iv).toNat)
  case atStart => exact ⟨0, 0, by omega, by omega, rfl, rfl, by show _ < _; simp, rfl⟩
  case round =>
    obtain ⟨i, acc, hi9, hil, rfl, rfl, ha, he⟩ := hrel
    by_cases hlt : i < xs.length
    · obtain ⟨off, rfl, hc⟩ := hcell (by omega)
      have hci := hc i hlt
      obtain ⟨c, hcc⟩ : ∃ c, c = xs.getD i 0 := ⟨_, rfl⟩
      rw [← hcc] at hci
      have hcb : 0 ≤ c ∧ c < 256 := by rw [hcc]; exact hb0 _ (by simp [List.getElem?_eq_getElem hlt])
      have hdr : xs.drop i = c :: xs.drop (i + 1) := by rw [List.drop_eq_getElem_cons hlt, hcc]; simp [List.getElem?_eq_getElem hlt]
      have HD := hide hdr
      have hc0 := hcb.1
      have hc1 := hcb.2
      clear hcell hc hdr hcb hcc
      by_cases h9 : i = 9
      · subst h9
        by_cases h1 : 1 < c
        · go_wp2
          go_ret3
          exact ⟨by rw [he.out, HD.out, Leb.num_form1 h1]; rfl, rfl⟩
        · by_cases h00 : c = 0
          · go_wp2
            go_ret3
            exact ⟨by rw [he.out, HD.out, Leb.num_form2 (by omega) h00]; rfl, rfl⟩
          · have HJ := hide (joined 9 acc c hc0 hc1 (by omega) (fun _ => by omega) ha.out)
            go_wp2
            go_ret3
            refine ⟨?_, rfl⟩
            rw [he.out, HD.out, Leb.num_last (by omega) (by omega), ← HJ.out]
            rfl
      · have HJ := hide (joined i acc c hc0 hc1 hi9 (fun h => absurd h h9) ha.out)
        have HA : Hid (acc + c.toNat % 128 * 128 ^ i < 128 ^ (i + 1)) := by
          show _ < _
          have h1 : c.toNat % 128 * 128 ^ i ≤ 127 * 128 ^ i := Nat.mul_le_mul_right _ (by omega)
          have h2 := ha.out
          rw [Nat.pow_succ]
          omega
        by_cases h0 : 0 < i
        · by_cases h00 : c = 0
          · go_wp2
            go_ret3
            exact ⟨by rw [he.out, HD.out, Leb.num_form2 (by omega) h00]; rfl, rfl⟩
          · by_cases h2 : c < 128
            · go_wp2
              go_ret3
              refine ⟨?_, rfl⟩
              rw [he.out, HD.out, Leb.num_last (by omega) h2, ← HJ.out]
              rfl
            · go_wp2
              go_round
              case rel => exact ⟨i + 1, _, by omega, by omega, by go_num, by rw [HJ.out], HA, by show _ = _; rw [he.out, HD.out, Leb.num_more (by omega) h2]⟩
              case measure => simp [intOf]; omega
        · by_cases h2 : c < 128
          · go_wp2
            go_ret3
            refine ⟨?_, rfl⟩
            rw [he.out, HD.out, Leb.num_last (by omega) h2, ← HJ.out]
            rfl
          · go_wp2
            go_round
            case rel => exact ⟨i + 1, _, by omega, by omega, by go_num, by rw [HJ.out], HA, by show _ = _; rw [he.out, HD.out, Leb.num_more (by omega) h2]⟩
            case measure => simp [intOf]; omega
    · go_wp2
      go_ret3
      exact ⟨by rw [he.out, List.drop_eq_nil_of_le (by omega)]; rfl, rfl⟩


set_option maxHeartbeats 400000 in
theorem fail_any (p b : Nat) (xs : List Int) (code c : Int) (w : World) (h : RdrAt w p b xs code) :
    Calls Try.prog 76 #[.pointer (some ⟨p, 0, none⟩), .int .i64 c] w fun e w' => e = .returned (.tuple #[]) ∧ RdrAt w' p b xs (Leb.failed code c) ∧ w.grownBy w' (some p) := by
  have hR := h
  obtain ⟨v, h1, h2, h3, h4, h5, h6⟩ := h
  by_cases hc : code = 0
  · subst hc
    have hS := hR.setCode c
    have hG := grownBy_setCell w p 1 (.int .i64 c)
    clear hR h5
    rw [Leb.failed_zero]
    go_enter Try.func76, Try.ntmps76
    go_wp2
    go_end0
    exact ⟨rfl, hS, hG⟩
  · rw [Leb.failed_ne hc]
    have hb : (code == 0) = false := by simp [hc]
    clear h5
    go_enter Try.func76, Try.ntmps76
    go_wp2
    go_end0
    exact ⟨rfl, hR, grownBy_refl _ _⟩

set_option maxHeartbeats 400000 in
theorem code_any (p b : Nat) (xs : List Int) (code : Int) (w : World) (h : RdrAt w p b xs code) :
    Calls Try.prog 81 #[.pointer (some ⟨p, 0, none⟩)] w fun e w' => e = .returned (.int .i64 code) ∧ w' = w := by
  obtain ⟨v, h1, h2, h3, h4, h5, h6⟩ := h
  clear h5
  go_enter Try.func81, Try.ntmps81
  go_wp2
  go_ret
  exact ⟨rfl, rfl⟩

set_option maxHeartbeats 400000 in

set_option maxHeartbeats 400000 in
theorem end_any (p b : Nat) (xs : List Int) (code : Int) (w : World) (h : RdrAt w p b xs code) :
    Calls Try.prog 45 #[.pointer (some ⟨p, 0, none⟩)] w fun e w' => e = .returned (.int .i64 (Leb.ended xs code)) ∧ RdrAt w' p b xs (Leb.ended xs code) ∧ w.grownBy w' (some p) := by
  have hR := h
  obtain ⟨v, h1, h2, h3, h4, h5, h6⟩ := h
  obtain ⟨h0, ao, cap, rfl, _⟩ := h5
  by_cases hp : 0 < xs.length
  · have e1 : Leb.ended xs code = Leb.failed code 5 := by unfold Leb.ended; rw [if_pos hp]
    rw [e1]
    clear e1
    go_enter Try.func45, Try.ntmps45
    go_wp2_with fail
    refine (fail_any p b xs code 5 w hR).mono ?_
    rintro e w1 ⟨rfl, hR1, hG⟩
    have hR2 := hR1
    obtain ⟨v1, k1, k2, k3, k4, k5, k6⟩ := hR2
    clear hR h1 h2 h3 h4 k5
    go_wp2
    go_ret
    exact ⟨rfl, hR1, hG⟩
  · have e1 : Leb.ended xs code = code := by unfold Leb.ended; rw [if_neg hp]
    rw [e1]
    clear e1
    go_enter Try.func45, Try.ntmps45
    go_wp2
    go_ret
    exact ⟨rfl, hR, grownBy_refl _ _⟩

set_option maxHeartbeats 400000 in
set_option maxRecDepth 100000 in
theorem num_any (p b : Nat) (xs : List Int) (code : Int) (w : World) (h : RdrAt w p b xs code) :
    Calls Try.prog 91 #[.pointer (some ⟨p, 0, none⟩)] w fun e w' => e = .returned (.int .u64 (Leb.numA xs code)) ∧ RdrAt w' p b (Leb.numL xs code) (Leb.numC xs code) ∧ w.grownBy w' (some p) := by
  have hR := h
  obtain ⟨v, h1, h2, h3, h4, h5, h6⟩ := h
  by_cases hc : code = 0
  · subst hc
    have eA : Leb.numA xs 0 = (Leb.num 0 0 xs).1 := rfl
    have eL : Leb.numL xs 0 = xs.drop (Leb.num 0 0 xs).2.1 := rfl
    have eC : Leb.numC xs 0 = (Leb.num 0 0 xs).2.2 := rfl
    rw [eA, eL, eC]
    clear eA eL eC
    have hnum := number_any v xs w ⟨b, h5⟩
    by_cases hf : (Leb.num 0 0 xs).2.2 = 0
    · have hsz := Leb.num_size xs 0 0 hf
      generalize Leb.num 0 0 xs = r at *
      obtain ⟨n, sz, cd⟩ := r
      simp only at hf hsz hnum
      subst hf
      obtain ⟨off, cap, rfl, hlc, hcm, hcell⟩ : ∃ off cap, v = .slice (some ⟨b, off, none⟩) xs.length cap ∧ xs.length ≤ cap ∧ cap ≤ maxLen ∧ True := by
        obtain ⟨_, ao, cap, rfl, hlc, hcm, _, h⟩ := h5
        obtain ⟨off, rfl, _⟩ := h (by omega)
        exact ⟨off, cap, rfl, hlc, hcm, trivial⟩
      unfold maxLen at hcm
      have hs1 := hsz.1
      have hs2 := hsz.2
      have HN := hide hnum
      clear hnum hsz
      by_cases hcs : sz < cap
      · have hB := h5.drop sz (by omega) (some ⟨b, off + sz, none⟩) (fun o ho _ => by simp at ho; rw [ho]) (by simp)
        have hR2 := hR.setRest hB
        have hG := grownBy_setCell w p 0 (.slice (some ⟨b, off + sz, none⟩) (xs.length - sz) (cap - sz))
        clear h5 hB hR
        go_enter Try.func91, Try.ntmps91
        go_wp2_with fail
        refine HN.out.mono ?_
        rintro e w1 ⟨rfl, rfl⟩
        go_wp2_with fail
        go_ret
        exact ⟨rfl, hR2, hG⟩
      · obtain rfl : sz = xs.length := by omega
        obtain rfl : cap = xs.length := by omega
        have hB := h5.drop xs.length (by omega) (some ⟨b, off, none⟩) (fun o ho hl => by omega) (by simp)
        rw [Nat.sub_self] at hB
        have hR2 := hR.setRest hB
        have hG := grownBy_setCell w p 0 (.slice (some ⟨b, off, none⟩) 0 0)
        have hdn : xs.drop xs.length = [] := by simp
        rw [hdn] at hR2 ⊢
        clear h5 hB hR hdn
        go_enter Try.func91, Try.ntmps91
        go_wp2_with fail
        refine HN.out.mono ?_
        rintro e w1 ⟨rfl, rfl⟩
        go_wp2_with fail
        go_ret
        exact ⟨rfl, hR2, hG⟩
    · have hz := Leb.num_fault xs 0 0 hf
      generalize Leb.num 0 0 xs = r at *
      obtain ⟨n, sz, cd⟩ := r
      simp only at hf hz hnum
      obtain ⟨rfl, rfl⟩ := hz
      have hbf : (cd == 0) = false := by simp [hf]
      have HN := hide hnum
      have HF := hide hf
      clear hnum hf h5
      go_enter Try.func91, Try.ntmps91
      go_wp2_with fail
      refine HN.out.mono ?_
      rintro e w1 ⟨rfl, rfl⟩
      go_wp2_with fail
      refine (fail_any p b xs 0 cd w1 hR).mono ?_
      rintro e w2 ⟨rfl, hR1, hG⟩
      rw [Leb.failed_zero] at hR1
      go_wp2
      go_ret
      exact ⟨rfl, hR1, hG⟩
  · have eA : Leb.numA xs code = 0 := by unfold Leb.numA; rw [if_neg hc]
    have eL : Leb.numL xs code = xs := by unfold Leb.numL; rw [if_neg hc]
    have eC : Leb.numC xs code = code := by unfold Leb.numC; rw [if_neg hc]
    rw [eA, eL, eC]
    have hb : (code == 0) = false := by simp [hc]
    clear h5 eA eL eC
    go_enter Try.func91, Try.ntmps91
    go_wp2
    go_ret
    exact ⟨rfl, hR, grownBy_refl _ _⟩



theorem and_one (n : Nat) (h : Leb.Fits n) : bits .and .u64 (n : Int) 1 = ((n % 2 : Nat) : Int) := by
  rw [show (1 : Int) = ((1 : Nat) : Int) from rfl, u64_and_nat _ _ h.out (by omega), Nat.and_one_is_mod]
theorem half (n : Nat) (h : Leb.Fits n) : wrap64 ((n : Int) / 2) = (n : Int) / 2 := by
  have := h.out
  unfold wrap64; omega
theorem half_not (n : Nat) (h : Leb.Fits n) : bits .xor .i64 (-1) (wrap64 ((n : Int) / 2)) = -1 - (n : Int) / 2 := by
  have := h.out
  rw [half n h]; exact i64_not_any _ (by omega) (by omega)
theorem ret_int {k : IntKind} {a b : Int} (h : a = b) : Ending.returned (.int k a) = .returned (.int k b) := by rw [h]

set_option maxHeartbeats 400000 in
set_option maxRecDepth 100000 in
theorem int_any (p b : Nat) (xs : List Int) (code : Int) (w : World) (h : RdrAt w p b xs code) :
    Calls Try.prog 92 #[.pointer (some ⟨p, 0, none⟩)] w fun e w' => e = .returned (.int .i64 (Leb.zag (Leb.numA xs code))) ∧ RdrAt w' p b (Leb.numL xs code) (Leb.numC xs code) ∧ w.grownBy w' (some p) := by
  have hf : Leb.Fits (Leb.numA xs code) := by
    obtain ⟨v, _, _, _, _, h5, _⟩ := h
    exact Leb.numA_fits code h5.1
  have H := hide (num_any p b xs code w h)
  generalize Leb.numA xs code = n at *
  generalize Leb.numL xs code = ys at *
  generalize Leb.numC xs code = cc at *
  have H1 := and_one n hf
  have H2 := hide (half n hf)
  have H3 := hide (half_not n hf)
  clear h hf
  by_cases ho : n % 2 = 1
  · rw [ho] at H1
    have e : Leb.zag n = -1 - ((n / 2 : Nat) : Int) := by unfold Leb.zag; rw [if_pos ho]
    rw [e]
    clear e ho
    go_enter Try.func92, Try.ntmps92
    go_wp2_with fail
    refine H.out.mono ?_
    rintro e w1 ⟨rfl, hR, hG⟩
    go_wp2_with fail
    go_ret
    exact ⟨ret_int H3.out, hR, hG⟩
  · rw [show n % 2 = 0 from by omega] at H1
    have e : Leb.zag n = ((n / 2 : Nat) : Int) := by unfold Leb.zag; rw [if_neg ho]
    rw [e]
    clear e ho
    go_enter Try.func92, Try.ntmps92
    go_wp2_with fail
    refine H.out.mono ?_
    rintro e w1 ⟨rfl, hR, hG⟩
    go_wp2_with fail
    go_ret
    exact ⟨ret_int H2.out, hR, hG⟩


set_option maxHeartbeats 400000 in
set_option maxRecDepth 100000 in
theorem below_any (p b : Nat) (xs : List Int) (code limit : Int) (w : World) (h : RdrAt w p b xs code) (hl : limit ≤ 9223372036854775807) :
    Calls Try.prog 69 #[.pointer (some ⟨p, 0, none⟩), .int .i64 limit] w fun e w' => e = .returned (.int .i64 (Leb.belA (Leb.numA xs code) limit)) ∧
      RdrAt w' p b (Leb.numL xs code) (Leb.belC (Leb.numA xs code) (Leb.numC xs code) limit) ∧ w.grownBy w' (some p) := by
  have H := hide (num_any p b xs code w h)
  generalize Leb.numA xs code = n at *
  generalize Leb.numL xs code = ys at *
  generalize Leb.numC xs code = cc at *
  clear h
  by_cases h0 : limit ≤ 0
  · have e1 : Leb.belA n limit = 0 := by unfold Leb.belA; rw [if_pos (Or.inl h0)]
    have e2 : Leb.belC n cc limit = Leb.failed cc 2 := by unfold Leb.belC; rw [if_pos (Or.inl h0)]
    rw [e1, e2]
    clear e1 e2
    go_enter Try.func69, Try.ntmps69
    go_wp2_with fail
    refine H.out.mono ?_
    rintro e w1 ⟨rfl, hR, hG⟩
    go_wp2_with fail
    refine (fail_any p b ys cc 2 w1 hR).mono ?_
    rintro e w2 ⟨rfl, hR2, hG2⟩
    have hG' := grownBy_trans hG hG2
    clear hG hG2 hR
    go_wp2_with fail
    go_ret
    exact ⟨rfl, hR2, hG'⟩
  · by_cases h1 : limit ≤ (n : Int)
    · have e1 : Leb.belA n limit = 0 := by unfold Leb.belA; rw [if_pos (Or.inr h1)]
      have e2 : Leb.belC n cc limit = Leb.failed cc 2 := by unfold Leb.belC; rw [if_pos (Or.inr h1)]
      rw [e1, e2]
      clear e1 e2
      go_enter Try.func69, Try.ntmps69
      go_wp2_with fail
      refine H.out.mono ?_
      rintro e w1 ⟨rfl, hR, hG⟩
      go_wp2_with fail
      refine (fail_any p b ys cc 2 w1 hR).mono ?_
      rintro e w2 ⟨rfl, hR2, hG2⟩
      have hG' := grownBy_trans hG hG2
      clear hG hG2 hR
      go_wp2_with fail
      go_ret
      exact ⟨rfl, hR2, hG'⟩
    · have e1 : Leb.belA n limit = (n : Int) := by unfold Leb.belA; rw [if_neg (by omega)]
      have e2 : Leb.belC n cc limit = cc := by unfold Leb.belC; rw [if_neg (by omega)]
      rw [e1, e2]
      clear e1 e2
      have hlt : (n : Int) < limit := by omega
      go_enter Try.func69, Try.ntmps69
      go_wp2_with fail
      refine H.out.mono ?_
      rintro e w1 ⟨rfl, hR, hG⟩
      go_wp2_with fail
      go_ret
      exact ⟨rfl, hR, hG⟩

end Go.Proofs.Ytbjnhicikkjadaa.Lb
