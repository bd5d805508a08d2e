/- BagMany: what is put in, one behind the other. -/
import Derived.Test.YtdeebmpmfedjbaaDoorM4
import Derived.Test.YtdeebmpmfedjbaaDoorAw
namespace Go.Proofs.YtdeebmpmfedjbaaDoor
open Go.RowKit Bag
theorem len_ins (f : Nat → Bool) (i : Nat) (hf : f i = false) : ∀ n, (mem (fun y => f y || y == i) n).length = (mem f n).length + (if i < n then 1 else 0)
  | 0 => rfl
  | n + 1 => by
    have ih := len_ins f i hf n
    rw [mem_one, mem_one]
    by_cases e : n = i
    · subst e
      rw [if_neg (Nat.lt_irrefl n)] at ih
      simp [hf, ih]
    · have e' : (n == i) = false := by simpa using e
      simp only [e', Bool.or_false]
      have : (if i < n + 1 then 1 else 0) = (if i < n then 1 else 0) := by
        by_cases h : i < n
        · rw [if_pos h, if_pos (by omega)]
        · rw [if_neg h, if_neg (by omega)]
      rw [this]
      cases f n <;> simp [ih] <;> omega
/-- Every d-th below i. -/
def each (d i : Nat) : Nat → Bool := fun y => decide (y < i) && y % d == 0
theorem each_zero (d : Nat) : each d 0 = fun _ => false := by
  funext y
  simp [each]
theorem each_off (d i : Nat) : each d i i = false := by simp [each]
theorem each_step (d k : Nat) (hd : 0 < d) : each d ((k + 1) * d) = fun y => each d (k * d) y || y == k * d := by
  funext y
  unfold each
  rw [Bool.eq_iff_iff]
  simp only [Bool.and_eq_true, decide_eq_true_eq, beq_iff_eq, Bool.or_eq_true]
  rw [Nat.succ_mul]
  constructor
  · rintro ⟨h1, h2⟩
    by_cases h : y < k * d
    · exact .inl ⟨h, h2⟩
    · right
      have e := Nat.div_add_mod y d
      rw [h2] at e
      have h3 : y / d < k + 1 := by
        rw [Nat.div_lt_iff_lt_mul hd, Nat.succ_mul]; exact h1
      have h4 : k ≤ y / d := by
        rw [Nat.le_div_iff_mul_le hd]; omega
      have : y / d = k := by omega
      rw [this, Nat.mul_comm d k] at e
      omega
  · rintro (⟨h1, h2⟩ | rfl)
    · exact ⟨by omega, h2⟩
    · exact ⟨by omega, by simp⟩
theorem each_ins (d k : Nat) (hd : 0 < d) (h : k * d < 4096) : ins (each d (k * d)) ((k * d : Nat) : Int) = each d ((k + 1) * d) := by
  rw [each_step d k hd]
  funext y
  unfold ins
  rw [inS_nat h]
  simp only [Int.toNat_natCast, Bool.true_and]
theorem each_len (d k : Nat) (hd : 0 < d) (h : k * d < 4096) : (mem (each d ((k + 1) * d)) 4096).length = (mem (each d (k * d)) 4096).length + 1 := by
  rw [each_step d k hd, len_ins _ _ (each_off d _), if_pos h]
theorem mod_cast' (X d : Nat) : ((X : Int) % (d : Int) == 0) = decide (X % d = 0) := by
  rw [Bool.eq_iff_iff]
  simp only [beq_iff_eq, decide_eq_true_eq]
  constructor <;> intro h <;> exact_mod_cast h
theorem fin {w w1 w2 wq W : World} {g : Nat} (h1 : w.grownBy w1 none) (h2 : Below g w1 w2) (hg : g = w1.heap.size) (h3 : w2.grownBy wq (some g)) (h4 : wq.drew.grownBy W (some g)) : w.grownBy W none := by
  subst hg
  have h5 : w1.grownBy W none := ((gb_of h2).andThen (gb_drew' h3) (fun j e => by cases e; exact .inl (Nat.le_refl _))).andThen h4 (fun j e => by cases e; exact .inl (Nat.le_refl _))
  exact h1.trans h5
theorem each_at (d i : Nat) (hd : 0 < d) (h : i < 4096) (hm : ∃ k, i = k * d) : ins (each d i) (i : Int) = each d (i + d) ∧ (mem (each d (i + d)) 4096).length = (mem (each d i) 4096).length + 1 ∧ ∃ k, i + d = k * d := by
  obtain ⟨k, rfl⟩ := hm
  have e : k * d + d = (k + 1) * d := (Nat.succ_mul k d).symm
  rw [e]
  exact ⟨each_ins d k hd h, each_len d k hd h, _, rfl⟩
theorem each_full (d i x : Nat) (hx : x < 4096) (hi : 4096 ≤ i) : each d i x = decide (x % d = 0) := by
  unfold each
  rw [decide_eq_true (show x < i by omega), Bool.true_and, Bool.eq_iff_iff]
  simp
set_option maxHeartbeats 8000000 in
set_option maxRecDepth 100000 in
theorem many_any (x : Int) (st : Nat) (hst : st < 256) (w : World) (hT : Tab w) : Calls Tryd.prog 8 #[.int .i64 x, .int .u8 st] w fun e w' => e = .returned (.bool true) ∧ w.grownBy w' none := by
  have hz : 0 < w.heap.size := World.block_lt_of_cell? w _ (hT 0 (by decide))
  have HT := hide hT
  clear hT
  obtain ⟨d, hd⟩ : ∃ d, d = 1 + st % 50 := ⟨_, rfl⟩
  have hd0 : 0 < d := by omega
  have hd1 : d ≤ 50 := by omega
  have hdi : (1 : Int) + (st : Int) % 50 = (d : Int) := by omega
  clear hd
  go_enter Tryd.func8, Tryd.ntmps8
  go_wp2_with (first | (go_at_call 9; refine (awake_any _ HT.out).mono ?_; rintro e w1 ⟨rfl, hg1⟩; have HG1 := hide hg1; clear hg1) | (refine wpList_new 5 rfl rfl 27 rfl z64 z27 ?_; intro g w2 h2))
  have HB := hide h2.out.2.2
  have HS0 : Hid (SetAt w2 g (each d 0)) := hide (by rw [each_zero]; exact ⟨z64, 27, h2.out.2.1, z64_set⟩)
  have HH2 := hide h2.out.1
  clear h2
  go_loopw [7, 8] (fun nv iv wr => ∃ i : Nat, i < 5000 ∧ iv = .int .i64 (i : Int) ∧ nv = .int .i64 ((mem (each d i) 4096).length : Nat) ∧ Hid (∃ k, i = k * d) ∧ Hid (SetAt wr g (each d i)) ∧ Hid (w2.grownBy wr (some g))) (fun _ iv _ => 4096 - (intOf iv).toNat)
  case atStart => exact ⟨0, by omega, by simp, by rw [each_zero]; rfl, hide ⟨0, by simp⟩, HS0, hide (gb_refl _ _)⟩
  case round =>
    rename World => wq
    obtain ⟨i, hi, rfl, rfl, HD, HS, HG⟩ := hrel
    by_cases hlt : i < 4096
    · obtain ⟨e1, e2, e6⟩ := each_at d i hd0 hlt HD.out
      have e1 := hide e1
      have e2 := hide e2
      have e6 := hide e6
      have e3 := hide (each_off d i)
      have e4 := hide (inS_nat hlt)
      have hle := mem_len (each d i) 4096
      have hlt' : (i : Int) < 4096 := by omega
      go_wp2_with (go_at_call 17; refine (put_any g _ _ _ HS.out).mono ?_; rintro e w3 ⟨rfl, hs3, hg3⟩; rw [e1.out] at hs3; rw [e4.out, Int.toNat_natCast, e3.out]; have HS3 := hide hs3; have HG3 := hide hg3; clear hs3 hg3)
      go_roundw
      case rel => exact ⟨i + d, by omega, by go_num, by rw [e2.out]; go_num, e6, HS3, hide (HG.out.trans HG3.out)⟩
      case measure => simp [intOf]; omega
    · have hlt' : ¬ ((i : Int) < 4096) := by omega
      have hT9 : Hid (Tab wq) := hide (((HT.out.gb HG1.out (by simp)).gb (gb_of (by have := HB.out; rw [HH2.out] at this; exact this)) (by simp)).gb HG.out (by have := HH2.out; have := HG1.out.size; simp; omega))
      by_cases hin : 0 ≤ x ∧ x < 4096
      · obtain ⟨h0, h1⟩ := hin
        obtain ⟨X, rfl⟩ : ∃ X : Nat, x = (X : Int) := ⟨x.toNat, by omega⟩
        have hX : X < 4096 := by omega
        have hfull := hide (each_full d i X hX (by omega))
        have hX' := hide (inS_nat hX)
        go_wp2_with fail
        refine many14_in g (X : Int) (each d i) _ _ _ rfl rfl rfl rfl rfl rfl hT9.out HS.out rfl rfl ?_ ?_ ?_ (fun s W hs hg => ?_)
        · unfold isIn
          rw [hX'.out, Int.toNat_natCast, hfull.out, mod_cast']
          rfl
        · rw [hX'.out, Int.toNat_natCast, hfull.out, mod_cast']; rfl
        · rw [hX'.out]; simp [ins, hX'.out]
        · simp [overlay, dstsOf, ops_many14_in, hs]
          go_wp2_with fail
          go_ret
          exact ⟨rfl, fin HG1.out HB.out HH2.out HG.out hg⟩
      · have hX' := hide (inS_no (x := x) (by omega))
        by_cases hx0 : 0 ≤ x
        · have hx1 : ¬ x < 4096 := by omega
          clear hin
          go_wp2_with fail
          refine many14_out g x (each d i) _ _ rfl rfl rfl rfl rfl rfl hT9.out HS.out rfl rfl ?_ ?_ ?_ (fun s W hs hg => ?_)
          · simp [isIn, hX'.out]
          · simp [hX'.out]
          · simp [hX'.out]
          · simp [overlay, dstsOf, ops_many14_out, hs]
            go_wp2_with fail
            go_ret
            exact ⟨rfl, fin HG1.out HB.out HH2.out HG.out hg⟩
        · clear hin
          go_wp2_with fail
          refine many14_out g x (each d i) _ _ rfl rfl rfl rfl rfl rfl hT9.out HS.out rfl rfl ?_ ?_ ?_ (fun s W hs hg => ?_)
          · simp [isIn, hX'.out]
          · simp [hX'.out]
          · simp [hX'.out]
          · simp [overlay, dstsOf, ops_many14_out, hs]
            go_wp2_with fail
            go_ret
            exact ⟨rfl, fin HG1.out HB.out HH2.out HG.out hg⟩
end Go.Proofs.YtdeebmpmfedjbaaDoor
