/- Sets of another type of numbers: Put, Len, All. -/
import Derived.Test.YtdeebmpmfedjbaaDoorAl
namespace Go.Proofs.YtdeebmpmfedjbaaDoor
open Go.RowKit Bag
theorem info47 : (Tryd.prog.info? 47).map (·.size) = some 64 := by kernel_rfl
theorem info57 : (Tryd.prog.info? 57).map (fun i => (i.zero, i.size, i.bytes)) = some (some (.int .i64 0), 1, 8) := by kernel_rfl
/-- A []Small of the call's own. -/
def ArgsS (B : Nat) (w : World) (v : Value) (xs : List Int) : Prop := w.ownsRow B 57 1 v xs.length (xs.map (.int .i64))
theorem ArgsS.alloc {B : Nat} {w : World} {v : Value} {xs : List Int} (h : ArgsS B w v xs) (o : Obj) : ArgsS B (w.alloc o) v xs := World.ownsRow.alloc h o
set_option maxHeartbeats 4000000 in
set_option maxRecDepth 100000 in
theorem putS_mid (b at0 : Nat) (x bit y : Int) (w : World) (hs : ∀ W : World, Calls Tryd.prog 38 #[.int .i64 x] W fun e w' => e = .returned (.tuple #[.int .i64 (at0 : Int), .int .u64 bit]) ∧ W.grownBy w' none) (h64 : (at0 : Int) < 64)
    (hc : w.cell? ⟨b, at0, none⟩ = some (.int .u64 y)) (hf : w.frozen? ⟨b, at0, none⟩ = false) :
    Calls Tryd.prog 24 #[.pointer (some ⟨b, 0, none⟩), .int .i64 x] w fun e w' => e = .returned (.bool (bits BinOp.andNot IntKind.u64 bit y != 0)) ∧ ∃ w1, w.grownBy w1 none ∧ w' = (w1.setCell ⟨b, at0, none⟩ (.int .u64 (bits BinOp.or IntKind.u64 y bit))).drew := by
  have HC := hide hc
  have HF := hide hf
  clear hc hf
  have HS := hide hs
  clear hs
  go_enter Tryd.func24, Tryd.ntmps24
  go_wp2_with (go_at_call 38; refine (HS.out w).mono ?_; rintro e w1 ⟨rfl, hg⟩; obtain ⟨hc1, hf1⟩ := cell_gb hg HC.out HF.out (by simp))
  go_region
  go_wp2
  go_ret
  exact ⟨rfl, w1, hg, rfl⟩
theorem putS_any (b : Nat) (x : Int) (f : Nat → Bool) (w : World) (h : SetAt w b f) : Calls Tryd.prog 24 #[.pointer (some ⟨b, 0, none⟩), .int .i64 x] w fun e w' => e = .returned (.bool (inS x && !f x.toNat)) ∧ SetAt w' b (ins f x) ∧ w.grownBy w' (some b) := by
  by_cases hx : 0 ≤ x ∧ x < 4096
  · obtain ⟨n, rfl⟩ : ∃ n : Nat, x = n := ⟨x.toNat, by omega⟩
    have hn : n < 4096 := by omega
    obtain ⟨y, hc, hf, hw⟩ := h.cell (n / 64) (by omega)
    have hbw := word_bit n (n / 64)
    rw [if_pos rfl] at hbw
    refine (putS_mid b (n / 64) n ((2 ^ (n % 64) : Nat) : Int) y w (fun W => by rw [← spotV_yes hn]; exact spot_any _ _) (by omega) hc hf).mono ?_
    rintro e w' ⟨rfl, w1, hg, rfl⟩
    refine ⟨?_, ?_, gb_drew' (gb_then hg (gb_set _ _ _ _))⟩
    · rw [u64_andNot_nat _ _ hbw.1 hw.1]
      have := bit_andNot n y f hw
      rw [ne0_cast, inS_nat hn, Int.toNat_natCast, Bool.true_and, ← this]
      rfl
    · rw [u64_or_nat _ _ hw.1 hbw.1]
      refine ((h.kept hg (by simp)).set (n / 64) (by omega) _ _ ((word_congr (word_or hw hbw)) fun j hj => by simp [ins, inS_nat hn]) fun j hj hne k hk => ?_).drew
      have : (64 * j + k == n) = false := by simp; omega
      simp [ins, inS_nat hn, this]
  · have hx' : x < 0 ∨ 4096 ≤ x := by omega
    obtain ⟨y, hc, hf, hw⟩ := h.cell 0 (by omega)
    refine (putS_mid b 0 x 0 y w (fun W => by have := spot_any x W; rw [spotV_no hx'] at this; exact this) (by omega) hc hf).mono ?_
    rintro e w' ⟨rfl, w1, hg, rfl⟩
    have e0 : ins f x = f := by funext z; simp [ins, inS_no hx']
    refine ⟨?_, ?_, gb_drew' (gb_then hg (gb_set _ _ _ _))⟩
    · have := u64_andNot_nat 0 y (by decide) hw.1
      simp only [Int.ofNat_zero, Nat.zero_and] at this
      simp [this, inS_no hx']
    · have := u64_or_nat y 0 hw.1 (by decide)
      simp only [Int.ofNat_zero] at this
      rw [this, e0]
      refine ((h.kept hg (by simp)).set 0 (by omega) _ _ ?_ fun j hj hne k hk => rfl).drew
      simpa using hw
set_option maxHeartbeats 4000000 in
set_option maxRecDepth 100000 in
theorem lenS_any (v : Value) (f : Nat → Bool) (w : World) (h : SetV v f) : Calls Tryd.prog 43 #[v] w fun e w' => e = .returned (.int .i64 ((mem f 4096).length : Nat)) ∧ w.grownBy w' none := by
  obtain ⟨cs, rfl, hs, hc⟩ := h
  have hs' := hide hs
  clear hs
  go_enter Tryd.func43, Tryd.ntmps43
  go_wp2_with (first | (refine wpList_box' rfl 47 (.tmp 0) rfl cs rfl ?_; intro g w1 h1) | (refine wpList_load_row rfl 25 (.tmp 6) rfl g rfl 47 cs _ h1.out.2.1 Tryd.underlying25 rfl (by rw [hs'.out]; exact info25) ?_))
  go_loop [3, 5, 8] (fun nv _ iv => ∃ i : Nat, i ≤ 64 ∧ iv = .int .i64 i ∧ ∃ n : Nat, nv = .int .i64 n ∧ Hid (n = (mem f (64 * i)).length)) (fun _ _ iv => 64 - (intOf iv).toNat)
  case atStart => exact ⟨0, by omega, rfl, 0, rfl, rfl⟩
  case round =>
    obtain ⟨i, hi, rfl, n, rfl, hn⟩ := hrel
    by_cases hlt : i < 64
    · obtain ⟨x, hx, hw⟩ := hc i hlt
      have hix := run_index25 hx hlt
      have hlt' : (i : Int) < 64 := by omega
      have hstep := hide (mem_step f i x hw)
      have hle := mem_len f (64 * (i + 1))
      have hb : (n : Int) + (pop 64 x : Int) ≤ 4096 := by
        rw [hstep.out] at hle
        rw [hn.out]
        omega
      clear hle
      have hw1 := hw.1
      clear hx hw
      go_wp2_with (go_at_call 40; refine (ones_any x hw1 _).mono ?_; rintro e w2 ⟨rfl, rfl⟩)
      go_round
      case rel => exact ⟨i + 1, by omega, by go_num, n + pop 64 x, by go_num, by rw [hstep.out, hn.out]; exact rfl⟩
      case measure => simp [intOf]; omega
    · obtain rfl : i = 64 := by omega
      go_wp2
      go_ret
      exact ⟨by rw [hn.out]; rfl, gb_at h1.out⟩
set_option maxHeartbeats 8000000 in
set_option maxRecDepth 100000 in
theorem allS_any (v : Value) (f : Nat → Bool) (w : World) (h : SetV v f) (hT : Tab w) : Calls Tryd.prog 27 #[v] w fun e w' => ∃ u, e = .returned u ∧ ArgsS w.heap.size w' u (ci (mem f 4096)) ∧ w.grownBy w' none := by
  obtain ⟨cs, rfl, hs⟩ := h
  have hz : 0 < w.heap.size := World.block_lt_of_cell? w _ (hT 0 (by decide))
  obtain ⟨i0, hi, hz0, hz1, hz2⟩ := info_parts info57
  have HS := hide hs
  have hls := mem_len f 4096
  have HT := hide hT
  clear hs hT
  go_enter Tryd.func27, Tryd.ntmps27
  go_wp2_with (first | (refine wpList_box' rfl 47 (.tmp 0) rfl cs rfl ?_; intro g w1 h1) | (refine wpList_load_row rfl 47 (.tmp 1) rfl g rfl 47 cs _ h1.out.2.1 Tryd.underlying47 rfl (by rw [HS.out.1]; exact info47) ?_) | (go_at_call 43; refine (lenS_any (.agg cs) f _ ⟨cs, rfl, HS.out⟩).mono ?_; rintro e w2 ⟨rfl, hg2⟩) | (at_make; refine wpList_make_own _ rfl _ _ 62 rfl w.heap.size 57 i0 (.int .i64 0) 1 Tryd.underlying62 hi hz0 hz1 .i64 .i64 _ (mem f 4096).length rfl rfl rfl (by rw [hz2]; omega) (by unfold maxLen; omega) (by have := h1.out.2.2.size; have := hg2.size; omega) ?_; intro w3 ho3 hg3) | (refine wpList_load_row rfl 25 (.tmp 9) rfl g rfl 47 cs _ (cells_at (cells_at h1.out.2.1 hg2 (by simp)) hg3 (by simp)) Tryd.underlying25 rfl (by rw [HS.out.1]; exact info25) ?_))
  have HO := hide ho3
  have HB := hide (gb_to (((gb_at h1.out).trans hg2).trans hg3))
  clear ho3 hg3 hg2
  generalize Value.slice (some ⟨w2.heap.size, 0, none⟩) 0 (mem f 4096).length = v0 at *
  go_loopw [3, 4, 5, 11] (fun lv _ _ iv wr => ∃ i : Nat, i ≤ 64 ∧ iv = .int .i64 i ∧ Hid (ArgsS w.heap.size wr lv (ci (mem f (64 * i)))) ∧ Hid (Below w.heap.size w wr)) (fun _ _ _ iv _ => 64 - (intOf iv).toNat)
  case atStart => exact ⟨0, by omega, rfl, hide (by simpa [ArgsS, ci, mem_zero] using HO.out), HB⟩
  case round =>
    rename World => wq
    obtain ⟨i, hi64, rfl, HL, HBq⟩ := hrel
    by_cases hlt : i < 64
    · obtain ⟨x, hx, hw⟩ := HS.out.2 i hlt
      have hix := run_index25 hx hlt
      have hlt' : (i : Int) < 64 := by omega
      have HN := hide (mem_next f i x hw)
      have hx64 := hw.1
      clear hx hw
      go_wp2_with fail
      go_loopw [3, 5] (fun lv xv wr => ∃ (y : Nat) (l : List Nat), y < 18446744073709551616 ∧ xv = .int .u64 y ∧ Hid (l ++ (bl y).map (64 * i + ·) = mem f (64 * (i + 1))) ∧ Hid (ArgsS w.heap.size wr lv (ci l)) ∧ Hid (Below w.heap.size w wr)) (fun _ xv _ => (bl (natOf xv)).length)
      case atStart => exact ⟨x, mem f (64 * i), hx64, rfl, hide HN.out.symm, HL, HBq⟩
      case round =>
        rename World => wp
        obtain ⟨y, l, hy, rfl, HE, HLp, HBp⟩ := hrel
        by_cases hy0 : y = 0
        · subst hy0
          have HE2 := HE.out
          rw [bl_zero, List.map_nil, List.append_nil] at HE2
          have HE3 := hide HE2
          clear HE2 HE hy
          go_wp2_with fail
          go_roundw
          case rel => exact ⟨i + 1, by omega, by go_num, hide (by rw [← HE3.out]; exact HLp.out), HBp⟩
          case measure => simp [intOf]; omega
        · obtain ⟨k, m, hk, hym, hcall⟩ := tz_any y hy hy0 wp (HT.out.below HBp.out hz)
          have HE4 := hide hym
          have HC := hide hcall
          clear hym hcall
          have hky : (k : Int) < 64 := by omega
          have hyz : ((y : Int) == 0) = false := by simp [hy0]
          have hand : bits BinOp.and IntKind.u64 (y : Int) ((y : Int) - 1) = ((y &&& (y - 1) : Nat) : Int) := by
            rw [show ((y : Int) - 1) = ((y - 1 : Nat) : Int) by omega, u64_and_nat _ _ hy (by omega)]
          have hll : l.length < 4096 := by
            have h1 := congrArg List.length HE.out
            have h2 := mem_le f (show 64 * (i + 1) ≤ 4096 by omega)
            rw [bl_next y k m HE4.out hk] at h1
            simp only [List.length_append, List.length_map, List.length_cons] at h1
            omega
          have hBsz := HBp.out.size
          go_wp2_with (first | (go_at_call 39; refine HC.out.mono ?_; rintro e w9 ⟨rfl, rfl⟩) | (at_builtin; go_must (refine wpList_append_own _ rfl (.tmp 17) (.tmp 23) 62 rfl w.heap.size 57 i0 (.int .i64 0) 1 8 Tryd.underlying62 hi hz0 hz1 hz2 rfl (by decide) _ _ _ rfl (HLp.out.alloc _) ⟨w9.heap.size, 0, none⟩ 1 1 [.int .i64 ((i : Int) * 64 + (k : Int))] rfl rfl ?c1 ?c2 ?c3 ?c4 ?c5 ?_)))
          case c1 =>
            intro j u hj
            match j, hj with
            | 0, hj => simp at hj; subst hj; simp [Addr.add]
          case c2 => intro u hu; simp at hu; subst hu; rfl
          case c3 => rw [ci_len]; unfold maxLen; omega
          case c4 => rw [ci_len]; omega
          case c5 => simp; omega
          intro v' w4 hown' hgrow _
          have hR : Hid (ArgsS w.heap.size w4 v' (ci (l ++ [64 * i + k]))) := hide (by
            have e : ((i : Int) * 64 + (k : Int)) = ((64 * i + k : Nat) : Int) := by omega
            rw [e] at hown'
            simpa [ArgsS, ci] using hown')
          have hB4 : Hid (Below w.heap.size w w4) := hide ((HBp.out.alloc (by omega) _).grown hgrow (by simp; omega) (fun k hk => (HLp.out.lt k hk).1))
          clear hown' hgrow
          have HE5 : Hid ((l ++ [64 * i + k]) ++ (bl (y &&& (y - 1))).map (64 * i + ·) = mem f (64 * (i + 1))) := hide (by
            rw [← HE.out, bl_next y k m HE4.out hk]
            simp)
          have hand2 : y &&& (y - 1) < 18446744073709551616 := Nat.lt_of_le_of_lt Nat.and_le_left hy
          have HM := hide (show (bl (y &&& (y - 1))).length < (bl y).length by rw [bl_next y k m HE4.out hk]; simp)
          generalize y &&& (y - 1) = y2 at *
          go_wp2_with fail
          go_roundw
          case rel => exact ⟨y2, _, hand2, rfl, HE5, hR, hB4⟩
          case measure => exact HM.out
    · obtain rfl : i = 64 := by omega
      go_wp2_with fail
      go_ret
      exact ⟨_, rfl, HL.out, gb_of HBq.out⟩
end Go.Proofs.YtdeebmpmfedjbaaDoor
