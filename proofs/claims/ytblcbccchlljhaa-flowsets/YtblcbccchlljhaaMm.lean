/- marks, whole. -/
import Derived.Test.YtblcbccchlljhaaMk
namespace Go.Proofs.Ytblcbccchlljhaa
open Go.RowKit Ir Wy

/-- The law's marks, behind i of the bytes. -/
def mkL (n : Nat) (bs : List Int) : Nat → Nat → List Nat
  | 0 => fun _ => []
  | i + 1 => if i < 40 then upV (mkL n bs i) (i % n) (mkL n bs i (i % n) ++ [(bs.getD i 0).toNat % 20]) else mkL n bs i
theorem mkL_len (n : Nat) (bs : List Int) : ∀ i b, (mkL n bs i b).length ≤ i ∧ (mkL n bs i b).length ≤ 40
  | 0, b => by simp [mkL]
  | i + 1, b => by
    unfold mkL
    have h := mkL_len n bs i
    split
    · by_cases e : b = i % n
      · subst e
        rw [upV_same, List.length_append, List.length_singleton]
        have := h (i % n)
        omega
      · rw [upV_ne _ _ e]
        have := h b
        omega
    · have := h b
      omega
theorem mkL_mem {n : Nat} {bs : List Int} {b x : Nat} : ∀ i, x ∈ mkL n bs i b ↔ ∃ j, j < i ∧ j < 40 ∧ b = j % n ∧ x = (bs.getD j 0).toNat % 20
  | 0 => by
    constructor
    · intro h; simp [mkL] at h
    · rintro ⟨j, hj, _⟩; omega
  | i + 1 => by
    have ih := mkL_mem (n := n) (bs := bs) (b := b) (x := x) i
    unfold mkL
    split
    · rename_i hi
      by_cases e : b = i % n
      · subst e
        rw [upV_same, List.mem_append, ih]
        constructor
        · rintro (⟨j, h1, h2⟩ | h)
          · exact ⟨j, by omega, h2⟩
          · simp only [List.mem_singleton] at h
            exact ⟨i, by omega, hi, rfl, h⟩
        · rintro ⟨j, h1, h2, h3, h4⟩
          by_cases ej : j = i
          · subst ej
            exact .inr (by simp only [List.mem_singleton]; exact h4)
          · exact .inl ⟨j, by omega, h2, h3, h4⟩
      · rw [upV_ne _ _ e, ih]
        constructor
        · rintro ⟨j, h1, h2⟩
          exact ⟨j, by omega, h2⟩
        · rintro ⟨j, h1, h2, h3, h4⟩
          have ej : j ≠ i := fun q => e (by rw [h3, q])
          exact ⟨j, by omega, h2, h3, h4⟩
    · rw [ih]
      constructor
      · rintro ⟨j, h1, h2⟩
        exact ⟨j, by omega, h2⟩
      · rintro ⟨j, h1, h2, h3, h4⟩
        exact ⟨j, by omega, h2, h3, h4⟩
theorem mkL_lt {n : Nat} {bs : List Int} {b x i : Nat} (h : x ∈ mkL n bs i b) : x < 20 := by
  obtain ⟨j, _, _, _, h4⟩ := (mkL_mem i).1 h
  rw [h4]
  exact Nat.mod_lt _ (by omega)
theorem byt_at {w : World} {ao : Option Addr} {n c : Nat} {xs : List Int} (h : Byt w (.slice ao n c) xs) (j : Nat) (hj : j < xs.length) : ∃ b off, ao = some ⟨b, off, none⟩ ∧ w.cell? ⟨b, off + j, none⟩ = some (.int .u8 (((xs.getD j 0).toNat : Nat) : Int)) := by
  obtain ⟨b, off, e, h1, h2, h3⟩ := SlV.at h j hj
  rw [Nat.mul_one] at h1
  exact ⟨b, off, e, by rw [h1, Int.toNat_of_nonneg h2]⟩
set_option maxHeartbeats 4000000 in
set_option maxRecDepth 100000 in
theorem marks_any (w : World) (ao : Option Addr) (n c : Nat) (va vc : Value) (bs cs : List Int) (h0 : 0 < n) (hn : n ≤ 100) (ha : Byt w va bs) (hc : Byt w vc cs) :
    Calls Try.prog 9 #[.slice ao n c, va, vc] w fun e w' => ∃ gm gl Vm Vl, e = .returned (.tuple #[.slice (some ⟨gm, 0, none⟩) n n, .slice (some ⟨gl, 0, none⟩) n n]) ∧ Wst w gm gl n w' Vm Vl (fun b => ci (mkL n bs bs.length b)) (fun b => ci (mkL n cs cs.length b)) := by
  obtain ⟨aa, ca, rfl⟩ := ha.slice
  obtain ⟨ac, cc, rfl⟩ := hc.slice
  have hma : bs.length ≤ 9223372036854775807 := by
    have := SlV.cap ha
    unfold maxLen at this
    omega
  have hmc : cs.length ≤ 9223372036854775807 := by
    have := SlV.cap hc
    unfold maxLen at this
    omega
  have HA := hide ha
  have HC := hide hc
  clear ha hc
  go_enter Try.func9, Try.ntmps9
  go_wp2_with fail
  refine m1_ok n c ao (by omega) rfl rfl ?_
  intro s w1 gm gl hs6 hs7 hne hf0 ht0 hRf hRt hB1
  have HW1 : Hid (Wst w gm gl n w1 (fun _ => .slice none 0 0) (fun _ => .slice none 0 0) (fun b => ci (mkL n bs 0 b)) (fun b => ci (mkL n cs 0 b))) := hide ⟨hRf _, hRt _, hne, fun a b _ _ k hk => by simp [Value.ownBlock] at hk, hB1, hf0, ht0⟩
  clear hne hf0 ht0 hRf hRt hB1
  simp [overlay, dstsOf, ops_m1, hs6, hs7]
  clear hs6 hs7
  go_wp2_with fail
  go_loopw [8, 9, 20] (fun _ _ iv wr => ∃ (i : Nat) (Vm Vl : Nat → Value), i ≤ bs.length ∧ iv = .int .i64 i ∧ Hid (Wst w gm gl n wr Vm Vl (fun b => ci (mkL n bs i b)) (fun b => ci (mkL n cs 0 b)))) (fun _ _ iv _ => bs.length - (intOf iv).toNat)
  case atStart => exact ⟨0, _, _, by omega, rfl, HW1⟩
  case round =>
    obtain ⟨i, Vm, Vl, hi, rfl, HW⟩ := hrel
    by_cases hil : i < bs.length
    · have hil' : (i : Int) < (bs.length : Int) := by omega
      obtain ⟨gb, ob, rfl, hcb⟩ := byt_at (HA.out.below HW.out.below) i hil
      have hstep : Hid (mkL n bs (i + 1) = if i < 40 then upV (mkL n bs i) (i % n) (mkL n bs i (i % n) ++ [(bs.getD i 0).toNat % 20]) else mkL n bs i) := hide rfl
      generalize (bs.getD i 0).toNat = by0 at *
      by_cases h40 : i < 40
      · have h40' : (i : Int) < 40 := by omega
        rw [if_pos h40] at hstep
        have hlen := hide (show (ci (mkL n bs i (i % n))).length ≤ 1000000 by rw [List.length_map]; have := (mkL_len n bs i (i % n)).1; omega)
        go_wp2_with fail
        refine m6_ok HW.out i by0 c (i % n) (by0 % 20) rfl rfl ao h0 hlen.out rfl rfl rfl rfl rfl ?_
        intro s2 W v' hW2
        rw [ci_up, ← hstep.out] at hW2
        have HW2 := hide hW2
        clear hW2
        simp [overlay, dstsOf, ops_m6]
        go_wp2_with fail
        go_roundw
        case rel => exact ⟨i + 1, _, _, by omega, by go_num, HW2⟩
        case measure => simp [intOf]; omega
      · have h40' : ¬ (i : Int) < 40 := by omega
        rw [if_neg h40] at hstep
        have HW2 := HW.out
        rw [← hstep.out] at HW2
        have HW3 := hide HW2
        clear HW2
        go_wp2_with fail
        go_roundw
        case rel => exact ⟨i + 1, _, _, by omega, by go_num, HW3⟩
        case measure => simp [intOf]; omega
    · obtain rfl : i = bs.length := by omega
      go_wp2_with fail
      go_loopw [10, 11, 48] (fun _ _ iv wq => ∃ (j : Nat) (Vm Vl : Nat → Value), j ≤ cs.length ∧ iv = .int .i64 j ∧ Hid (Wst w gm gl n wq Vm Vl (fun b => ci (mkL n bs bs.length b)) (fun b => ci (mkL n cs j b)))) (fun _ _ iv _ => cs.length - (intOf iv).toNat)
      case atStart => exact ⟨0, _, _, by omega, rfl, HW⟩
      case round =>
        rename World => wq
        obtain ⟨i, Vm, Vl, hi, rfl, HW⟩ := hrel
        by_cases hil : i < cs.length
        · have hil' : (i : Int) < (cs.length : Int) := by omega
          obtain ⟨gb, ob, rfl, hcb⟩ := byt_at (HC.out.below HW.out.below) i hil
          have hstep : Hid (mkL n cs (i + 1) = if i < 40 then upV (mkL n cs i) (i % n) (mkL n cs i (i % n) ++ [(cs.getD i 0).toNat % 20]) else mkL n cs i) := hide rfl
          generalize (cs.getD i 0).toNat = by0 at *
          by_cases h40 : i < 40
          · have h40' : (i : Int) < 40 := by omega
            rw [if_pos h40] at hstep
            have hlen := hide (show (ci (mkL n cs i (i % n))).length ≤ 1000000 by rw [List.length_map]; have := (mkL_len n cs i (i % n)).1; omega)
            go_wp2_with fail
            refine m12_ok HW.out.swap i by0 c (i % n) (by0 % 20) rfl rfl ao h0 hlen.out rfl rfl rfl rfl rfl ?_
            intro s2 W v' hW2
            rw [ci_up, ← hstep.out] at hW2
            have HW2 := hide hW2.swap
            clear hW2
            simp [overlay, dstsOf, ops_m12]
            go_wp2_with fail
            go_roundw
            case rel => exact ⟨i + 1, _, _, by omega, by go_num, HW2⟩
            case measure => simp [intOf]; omega
          · have h40' : ¬ (i : Int) < 40 := by omega
            rw [if_neg h40] at hstep
            have HW2 := HW.out
            rw [← hstep.out] at HW2
            have HW3 := hide HW2
            clear HW2
            go_wp2_with fail
            go_roundw
            case rel => exact ⟨i + 1, _, _, by omega, by go_num, HW3⟩
            case measure => simp [intOf]; omega
        · obtain rfl : i = cs.length := by omega
          go_wp2_with fail
          go_ret2
          exact ⟨gm, gl, Vm, Vl, rfl, HW.out⟩
end Go.Proofs.Ytblcbccchlljhaa
