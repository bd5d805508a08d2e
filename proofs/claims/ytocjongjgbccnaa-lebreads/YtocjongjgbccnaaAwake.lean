/- The fixed facts that each law asks first: they hold. -/
import Derived.Test.YtocjongjgbccnaaRead
import Derived.Test.YtocjongjgbccnaaNew
import Derived.Test.YtocjongjgbccnaaPutInt
namespace Go.Proofs.Ytocjongjgbccnaa
open Go.RowKit

theorem str_conv {w : World} {v : Value} {xs : List Int} (h : Byt w v xs) : (convert 22 9 v).run Try.prog w = .ok (.string (strOfNums xs)) w :=
  h.str 22 5 9 Try.underlying22 Try.underlying5 Try.underlying9

theorem byt_lit (w : World) : Byt (w.alloc (.cells #[.int .u8 128, .int .u8 0] 5)) (.slice (some ⟨w.heap.size, 0, none⟩) 2 2) [128, 0] := by
  refine ⟨w.heap.size, by simp, _, 2, rfl, by simp, by simp [maxLen], by simp, fun _ => ⟨0, rfl, fun j hj => ?_⟩⟩
  simp only [Nat.zero_add]
  rw [World.cell?_alloc_new]
  match j, hj with
  | 0, _ => rfl
  | 1, _ => rfl

theorem enc300 : Leb.enc 300 = [172, 2] := by rw [Leb.enc_ge (by omega), Leb.enc_lt (by omega)]; rfl
theorem enc1 : Leb.enc 1 = [1] := by rw [Leb.enc_lt (by omega)]; rfl
theorem put300 (w : World) : Calls Try.prog 10 #[.slice none 0 0, .int .u64 300] w fun e w' => ∃ v', e = .returned v' ∧ Byt w' v' [172, 2] ∧ Below w.heap.size w w' := by
  have h := put_any (.slice none 0 0) [] 300 w (Byt.nil w) (by simp) (by unfold Leb.Fits; omega)
  rw [enc300] at h
  exact h
theorem putInt1 (w : World) : Calls Try.prog 11 #[.slice none 0 0, .int .i64 (-1)] w fun e w' => ∃ v', e = .returned v' ∧ Byt w' v' [1] ∧ Below w.heap.size w w' := by
  have h := putInt_any (.slice none 0 0) [] (-1) w (Byt.nil w) (by simp) (by omega) (by omega)
  have e : Leb.zig (-1) = 1 := by decide
  rw [e, enc1] at h
  exact h
theorem str300 {w : World} {v : Value} (h : Byt w v [172, 2]) : (convert 22 9 v).run Try.prog w = .ok (.string ⟨#[172, 2]⟩) w := str_conv h
theorem str1 {w : World} {v : Value} (h : Byt w v [1]) : (convert 22 9 v).run Try.prog w = .ok (.string ⟨#[1]⟩) w := str_conv h

set_option maxHeartbeats 400000 in
set_option maxRecDepth 100000 in
theorem awake_any (w : World) : Calls Try.prog 9 #[] w fun e w' => e = .returned (.bool true) ∧ Below w.heap.size w w' := by
  go_enter Try.func9, Try.ntmps9
  go_wp2_with fail
  refine (new_any _ [128, 0] _ (byt_lit w) (by simp)).mono ?_
  rintro e w1 ⟨p, b, rfl, hp, hb, hb1, hR, hB⟩
  have hpw : w.heap.size ≤ p := by simp at hp; omega
  have hB1 : Below w.heap.size w w1 := ((Below.refl _ _).alloc (Nat.le_refl _) _).trans (hB.mono (by simp))
  clear hp hb hB hb1
  go_wp2_with fail
  refine (num_any p b _ _ _ hR).mono ?_
  rintro e w2 ⟨rfl, hR2, hG2⟩
  have eA : Leb.numA [128, 0] 0 = 0 := by decide
  have eC : Leb.numC [128, 0] 0 = 8 := by decide
  rw [eA]
  rw [eC] at hR2
  have hB2 : Below w.heap.size w w2 := hB1.grown hG2 hB1.size (fun k hk => by simp at hk; omega)
  clear eA eC hR hB1 hG2
  go_wp2_with fail
  refine (put300 w2).mono ?_
  rintro e w3 ⟨v3, rfl, h3, hb3⟩
  have hR3 := hR2.below hb3
  have hB3 : Below w.heap.size w w3 := hB2.trans (hb3.mono hB2.size)
  have c3 := str300 h3
  clear hR2 hB2 h3 hb3
  go_wp2_with fail
  refine (putInt1 w3).mono ?_
  rintro e w4 ⟨v4, rfl, h4, hb4⟩
  have hR4 := hR3.below hb4
  have hB4 : Below w.heap.size w w4 := hB3.trans (hb4.mono hB3.size)
  have c4 := str1 h4
  clear hR3 hB3 h4 hb4
  go_wp2_with fail
  refine (code_any p b _ _ _ hR4).mono ?_
  rintro e w5 ⟨rfl, rfl⟩
  go_wp2_with fail
  go_ret
  exact ⟨rfl, hB4⟩
end Go.Proofs.Ytocjongjgbccnaa
