/- The model's numbers; slices of numbers compared; numbers brought near. -/
import Derived.Test.YtdeebmpmfedjbaaDoorAl
import Derived.BigQuiet
namespace Go.Proofs.YtdeebmpmfedjbaaDoor
open Go.RowKit Bag
set_option maxRecDepth 100000 in
theorem sameInts_any (u v : Value) (xs : List Int) (w : World) (hu : IntsV w u xs) (hv : IntsV w v xs) (hl : xs.length ≤ 1000000000) :
    Calls Tryd.prog 19 #[u, v] w fun e w' => e = .returned (.bool true) ∧ w.grownBy w' none := by
  obtain ⟨ao, cap, rfl⟩ := hu.slice
  obtain ⟨ao2, cap2, rfl⟩ := hv.slice
  have HU := hide hu
  have HV := hide hv
  clear hu hv
  go_enter Tryd.func19, Tryd.ntmps19
  go_wp2_with fail
  go_loopw [5] (fun iv wr => ∃ i : Nat, i ≤ xs.length ∧ iv = .int .i64 i ∧ Below w.heap.size w wr) (fun iv _ => xs.length - (intOf iv).toNat)
  case atStart => exact ⟨0, by omega, rfl, Below.refl _ _⟩
  case round =>
    obtain ⟨i, hi, rfl, hBr⟩ := hrel
    by_cases hlt : i < xs.length
    · obtain ⟨b, off, rfl, hc⟩ := (HU.out.below hBr).at i hlt
      obtain ⟨b2, off2, rfl, hc2⟩ := (HV.out.below hBr).at i hlt
      have hlt' : (i : Int) < (xs.length : Int) := by omega
      generalize xs.getD i 0 = x at *
      go_wp2_with fail
      go_quiet (fail)
      go_wp2
      go_roundw
      case rel => exact ⟨i + 1, by omega, by go_num, hBr.trans ⟨rfl, rfl, rfl, Nat.le_refl _, fun _ _ => rfl⟩⟩
      case measure => simp [intOf]; omega
    · obtain rfl : i = xs.length := by omega
      go_wp2_with fail
      go_ret
      exact ⟨rfl, gb_of hBr⟩
theorem mem_one (f : Nat → Bool) (i : Nat) : mem f (i + 1) = if f i then mem f i ++ [i] else mem f i := by
  unfold mem
  rw [List.range_succ, List.filter_append]
  cases h : f i <;> simp [h]
set_option maxHeartbeats 8000000 in
set_option maxRecDepth 100000 in
theorem model_any (b : Nat) (f : Nat → Bool) (w : World) (h : ModAt w b f) : Calls Tryd.prog 18 #[.pointer (some ⟨b, 0, none⟩)] w fun e w' => ∃ u, e = .returned u ∧ ArgsO w.heap.size w' u (ci (mem f 4096)) ∧ w.grownBy w' none := by
  obtain ⟨i0, hi, hz0, hz1, hz2⟩ := info_parts info3
  have hb := h.lt
  have H := hide h
  clear h
  go_enter Tryd.func18, Tryd.ntmps18
  go_wp2_with fail
  go_loopw [3, 4, 5, 7] (fun lv _ _ iv wr => ∃ i : Nat, i ≤ 4096 ∧ iv = .int .i64 i ∧ Hid (ArgsO w.heap.size wr lv (ci (mem f i))) ∧ Hid (Below w.heap.size w wr)) (fun _ _ _ iv _ => 4096 - (intOf iv).toNat)
  case atStart => exact ⟨0, by omega, rfl, hide (World.ownsRow_nil _ _ _ _), hide (Below.refl _ _)⟩
  case round =>
    rename World => wq
    obtain ⟨i, hi64, rfl, HL, HB⟩ := hrel
    by_cases hlt : i < 4096
    · have hc := ((H.out.below HB.out).cell i hlt).1
      have hlt' : (i : Int) < 4096 := by omega
      have HN := hide (mem_one f i)
      have hll := mem_len f i
      have hBsz := HB.out.size
      have hc' : wq.drew.cell? ⟨b, i, none⟩ = some (.bool (f i)) := hc
      cases hfi : f i
      · rw [hfi] at hc hc' HN
        have HN2 : Hid (mem f (i + 1) = mem f i) := HN
        clear HN hfi
        go_wp2_with fail
        go_quiet (fail)
        go_wp2
        go_roundw
        case rel => exact ⟨i + 1, by omega, by go_num, hide (by rw [HN2.out]; exact World.ownsRow.kept HL.out (gb_drewN _ _ none) (by cases Value.ownBlock _ <;> simp)), hide (HB.out.trans ⟨rfl, rfl, rfl, Nat.le_refl _, fun _ _ => rfl⟩)⟩
        case measure => simp [intOf]; omega
      · rw [hfi] at hc hc' HN
        have HN2 : Hid (mem f (i + 1) = mem f i ++ [i]) := HN
        clear HN hfi
        go_wp2_with fail
        go_quiet (fail)
        go_wp2_with (at_builtin; go_must (refine wpList_append_own _ rfl (.tmp 14) (.tmp 16) 31 rfl w.heap.size 3 i0 (.int .i64 0) 1 8 Tryd.underlying31 hi hz0 hz1 hz2 rfl (by decide) _ _ _ rfl ((World.ownsRow.kept HL.out (gb_drewN _ _ none) (by cases Value.ownBlock _ <;> simp)).alloc _) ⟨wq.heap.size, 0, none⟩ 1 1 [.int .i64 (i : Int)] rfl rfl ?c1 ?c2 ?c3 ?c4 ?c5 ?_))
        case c1 =>
          intro j u hj
          match j, hj with
          | 0, hj => simp at hj; subst hj; exact (cell_of_row _ _ 0 _ _ (0, 0) (heap_alloc_new (wq.drewN nq) _)).trans rfl
        case c2 => intro u hu; simp at hu; subst hu; rfl
        case c3 => rw [ci_len]; unfold maxLen; omega
        case c4 => rw [ci_len]; omega
        case c5 => simp; omega
        intro v' w4 hown' hgrow _
        have hR : Hid (ArgsO w.heap.size w4 v' (ci (mem f i ++ [i]))) := hide (by simpa [ArgsO, ci] using hown')
        have hB4 : Hid (Below w.heap.size w w4) := hide (((HB.out.trans (c := wq.drewN _) ⟨rfl, rfl, rfl, Nat.le_refl _, fun _ _ => rfl⟩).alloc (by simpa using hBsz) _).grown hgrow (by simp; omega) (fun k hk => (HL.out.lt k hk).1))
        clear hown' hgrow
        go_wp2_with fail
        go_roundw
        case rel => exact ⟨i + 1, by omega, by go_num, hide (by rw [HN2.out]; exact hR.out), hB4⟩
        case measure => simp [intOf]; omega
    · obtain rfl : i = 4096 := by omega
      go_wp2_with fail
      go_ret
      exact ⟨_, rfl, HL.out, gb_of HB.out⟩
/-- A number brought near. -/
def nearN (x : Int) (raw : Bool) : Int := if raw then x else (x % 18446744073709551616) % 130
set_option maxHeartbeats 1000000 in
theorem near_any (x : Int) (raw : Bool) (w : World) : Calls Tryd.prog 10 #[.int .i64 x, .bool raw] w fun e w' => e = .returned (.int .i64 (nearN x raw)) ∧ w' = w := by
  cases raw
  · have h1 : nearN x false = (x % 18446744073709551616) % 130 := rfl
    obtain ⟨y, hy⟩ : ∃ y, y = x % 18446744073709551616 := ⟨_, rfl⟩
    have hy0 : 0 ≤ y := by omega
    have hy1 : y < 18446744073709551616 := by omega
    rw [h1, ← hy]
    go_enter Tryd.func10, Tryd.ntmps10
    go_wp2
    go_ret
    have e : wrap64 ((IntKind.u64.wrap x).tmod 130) = y % 130 := by
      rw [IntKind.wrap_u64, ← hy, Int.tmod_eq_emod_of_nonneg hy0]
      unfold wrap64
      omega
    exact ⟨by rw [← e]; rfl, rfl⟩
  · go_enter Tryd.func10, Tryd.ntmps10
    go_wp2
    go_ret
    exact ⟨rfl, rfl⟩
end Go.Proofs.YtdeebmpmfedjbaaDoor
