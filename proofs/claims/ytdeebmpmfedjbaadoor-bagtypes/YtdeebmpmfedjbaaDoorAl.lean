/- All: the numbers of a set, rising; the numbers of a model. -/
import Derived.Test.YtdeebmpmfedjbaaDoorOf
namespace Go.Proofs.YtdeebmpmfedjbaaDoor
open Go.RowKit Bag
theorem info3 : (Tryd.prog.info? 3).map (fun i => (i.zero, i.size, i.bytes)) = some (some (.int .i64 0), 1, 8) := by kernel_rfl
/-- Numbers as cells. -/
def ci (l : List Nat) : List Int := l.map fun (n : Nat) => (n : Int)
theorem ci_len (l : List Nat) : (ci l).length = l.length := by simp [ci]
theorem ci_app (l m : List Nat) : ci (l ++ m) = ci l ++ ci m := by simp [ci]
theorem ArgsO.alloc {B : Nat} {w : World} {v : Value} {xs : List Int} (h : ArgsO B w v xs) (o : Obj) : ArgsO B (w.alloc o) v xs := World.ownsRow.alloc h o
theorem ArgsO.kept {B : Nat} {w w' : World} {v : Value} {xs : List Int} (h : ArgsO B w v xs) (hB : Below w.heap.size w w') : ArgsO B w' v xs := owns_kept h hB
def natOf (v : Value) : Nat := (intOf v).toNat
set_option maxHeartbeats 8000000 in
set_option maxRecDepth 100000 in
theorem all_any (v : Value) (f : Nat → Bool) (w : World) (h : SetV v f) (hT : Tab w) : Calls Tryd.prog 20 #[v] w fun e w' => ∃ u, e = .returned u ∧ ArgsO w.heap.size w' u (ci (mem f 4096)) ∧ w.grownBy w' none := by
  obtain ⟨cs, rfl, hs⟩ := h
  have hz : 0 < w.heap.size := World.block_lt_of_cell? w _ (hT 0 (by decide))
  obtain ⟨i0, hi, hz0, hz1, hz2⟩ := info_parts info3
  have HS := hide hs
  have hls := mem_len f 4096
  have HT := hide hT
  clear hs hT
  go_enter Tryd.func20, Tryd.ntmps20
  go_wp2_with (first | (refine wpList_box' rfl 27 (.tmp 0) rfl cs rfl ?_; intro g w1 h1) | (refine wpList_load_row rfl 27 (.tmp 1) rfl g rfl 27 cs _ h1.out.2.1 Tryd.underlying27 rfl (by rw [HS.out.1]; exact info27) ?_) | (go_at_call 21; refine (len_any (.agg cs) f _ ⟨cs, rfl, HS.out⟩).mono ?_; rintro e w2 ⟨rfl, hg2⟩) | (at_make; refine wpList_make_own _ rfl _ _ 31 rfl w.heap.size 3 i0 (.int .i64 0) 1 Tryd.underlying31 hi hz0 hz1 .i64 .i64 _ (mem f 4096).length rfl rfl rfl (by rw [hz2]; omega) (by unfold maxLen; omega) (by have := h1.out.2.2.size; have := hg2.size; omega) ?_; intro w3 ho3 hg3) | (refine wpList_load_row rfl 25 (.tmp 9) rfl g rfl 27 cs _ (cells_at (cells_at h1.out.2.1 hg2 (by simp)) hg3 (by simp)) Tryd.underlying25 rfl (by rw [HS.out.1]; exact info25) ?_))
  have HO := hide ho3
  have HB := hide (gb_to (((gb_at h1.out).trans hg2).trans hg3))
  clear ho3 hg3 hg2
  generalize Value.slice (some ⟨w2.heap.size, 0, none⟩) 0 (mem f 4096).length = v0 at *
  go_loopw [3, 4, 5, 11] (fun lv _ _ iv wr => ∃ i : Nat, i ≤ 64 ∧ iv = .int .i64 i ∧ Hid (ArgsO w.heap.size wr lv (ci (mem f (64 * i)))) ∧ Hid (Below w.heap.size w wr)) (fun _ _ _ iv _ => 64 - (intOf iv).toNat)
  case atStart => exact ⟨0, by omega, rfl, hide (by simpa [ArgsO, ci, mem_zero] using HO.out), HB⟩
  case round =>
    rename World => wq
    obtain ⟨i, hi64, rfl, HL, HBq⟩ := hrel
    by_cases hlt : i < 64
    · obtain ⟨x, hx, hw⟩ := HS.out.2 i hlt
      have hix := run_index25 hx hlt
      have hlt' : (i : Int) < 64 := by omega
      have HN := hide (mem_next f i x hw)
      have hx64 := hw.1
      clear hx hw
      go_wp2_with fail
      go_loopw [3, 5] (fun lv xv wr => ∃ (y : Nat) (l : List Nat), y < 18446744073709551616 ∧ xv = .int .u64 y ∧ Hid (l ++ (bl y).map (64 * i + ·) = mem f (64 * (i + 1))) ∧ Hid (ArgsO w.heap.size wr lv (ci l)) ∧ Hid (Below w.heap.size w wr)) (fun _ xv _ => (bl (natOf xv)).length)
      case atStart => exact ⟨x, mem f (64 * i), hx64, rfl, hide HN.out.symm, HL, HBq⟩
      case round =>
        rename World => wp
        obtain ⟨y, l, hy, rfl, HE, HLp, HBp⟩ := hrel
        by_cases hy0 : y = 0
        · subst hy0
          have HE2 := HE.out
          rw [bl_zero, List.map_nil, List.append_nil] at HE2
          have HE3 := hide HE2
          clear HE2 HE hy
          go_wp2_with fail
          go_roundw
          case rel => exact ⟨i + 1, by omega, by go_num, hide (by rw [← HE3.out]; exact HLp.out), HBp⟩
          case measure => simp [intOf]; omega
        · obtain ⟨k, m, hk, hym, hcall⟩ := tz_any y hy hy0 wp (HT.out.below HBp.out hz)
          have HE4 := hide hym
          have HC := hide hcall
          clear hym hcall
          have hky : (k : Int) < 64 := by omega
          have hyz : ((y : Int) == 0) = false := by simp [hy0]
          have hand : bits BinOp.and IntKind.u64 (y : Int) ((y : Int) - 1) = ((y &&& (y - 1) : Nat) : Int) := by
            rw [show ((y : Int) - 1) = ((y - 1 : Nat) : Int) by omega, u64_and_nat _ _ hy (by omega)]
          have hll : l.length < 4096 := by
            have h1 := congrArg List.length HE.out
            have h2 := mem_le f (show 64 * (i + 1) ≤ 4096 by omega)
            rw [bl_next y k m HE4.out hk] at h1
            simp only [List.length_append, List.length_map, List.length_cons] at h1
            omega
          have hBsz := HBp.out.size
          go_wp2_with (first | (go_at_call 39; refine HC.out.mono ?_; rintro e w9 ⟨rfl, rfl⟩) | (at_builtin; go_must (refine wpList_append_own _ rfl (.tmp 17) (.tmp 23) 31 rfl w.heap.size 3 i0 (.int .i64 0) 1 8 Tryd.underlying31 hi hz0 hz1 hz2 rfl (by decide) _ _ _ rfl (HLp.out.alloc _) ⟨w9.heap.size, 0, none⟩ 1 1 [.int .i64 ((i : Int) * 64 + (k : Int))] rfl rfl ?c1 ?c2 ?c3 ?c4 ?c5 ?_)))
          case c1 =>
            intro j u hj
            match j, hj with
            | 0, hj => simp at hj; subst hj; simp [Addr.add]
          case c2 => intro u hu; simp at hu; subst hu; rfl
          case c3 => rw [ci_len]; unfold maxLen; omega
          case c4 => rw [ci_len]; omega
          case c5 => simp; omega
          intro v' w4 hown' hgrow _
          have hR : Hid (ArgsO w.heap.size w4 v' (ci (l ++ [64 * i + k]))) := hide (by
            have e : ((i : Int) * 64 + (k : Int)) = ((64 * i + k : Nat) : Int) := by omega
            rw [e] at hown'
            simpa [ArgsO, ci] using hown')
          have hB4 : Hid (Below w.heap.size w w4) := hide ((HBp.out.alloc (by omega) _).grown hgrow (by simp; omega) (fun k hk => (HLp.out.lt k hk).1))
          clear hown' hgrow
          have HE5 : Hid ((l ++ [64 * i + k]) ++ (bl (y &&& (y - 1))).map (64 * i + ·) = mem f (64 * (i + 1))) := hide (by
            rw [← HE.out, bl_next y k m HE4.out hk]
            simp)
          have hand2 : y &&& (y - 1) < 18446744073709551616 := Nat.lt_of_le_of_lt Nat.and_le_left hy
          have HM := hide (show (bl (y &&& (y - 1))).length < (bl y).length by rw [bl_next y k m HE4.out hk]; simp)
          generalize y &&& (y - 1) = y2 at *
          go_wp2_with fail
          go_roundw
          case rel => exact ⟨y2, _, hand2, rfl, HE5, hR, hB4⟩
          case measure => exact HM.out
    · obtain rfl : i = 64 := by omega
      go_wp2_with fail
      go_ret
      exact ⟨_, rfl, HL.out, gb_of HBq.out⟩
end Go.Proofs.YtdeebmpmfedjbaaDoor
