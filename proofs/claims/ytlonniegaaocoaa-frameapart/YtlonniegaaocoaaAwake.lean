/- The fixed facts that each law asks first: they hold. -/
import Derived.Test.YtlonniegaaocoaaTake
import Derived.Test.YtlonniegaaocoaaRefLay
import Derived.Lib.SlBytesConst
namespace Go.Proofs.Ytlonniegaaocoaa
open Go.RowKit

theorem str_conv {w : World} {v : Value} {xs : List Int} (h : Byt w v xs) : (convert 22 9 v).run Try.prog w = .ok (.string (strOfNums xs)) w :=
  h.str 22 5 9 Try.underlying22 Try.underlying5 Try.underlying9

theorem lay1_len : (Frm.lay 1 [97]).length = 8 := by rw [Frm.lay_len, Leb.enc_lt (by simp)]; rfl
theorem lay1_take : (Frm.lay 1 [97]).take 3 = [111, 1, 1] := by unfold Frm.lay; rw [Leb.enc_lt (by simp)]; rfl
theorem tk1 : Frm.tk (Frm.lay 1 [97]) = (1, [97], 8, 0) := by
  have := Frm.tk_lay (k := 1) (xs := [97]) (by simp) []
  rw [List.append_nil, lay1_len] at this
  exact this

/-- The row of '[]byte("a")', with the mark that such a row bears. -/
def aObj : Obj := .cells #[.int .u8 97] 5 (1, 2)
theorem byt_a (w : World) : Byt (w.alloc aObj) (.slice (some ⟨w.heap.size, 0, none⟩) 1 1) [97] := by
  refine ⟨w.heap.size, by simp, _, 1, rfl, by simp, by simp [maxLen], by simp, fun _ => ⟨0, rfl, fun j hj => ?_⟩⟩
  have hn := heap_alloc_new w aObj
  simp only [Nat.zero_add]
  unfold World.cell?
  rw [hn]
  match j, hj with
  | 0, _ => rfl
theorem conv_a (w : World) : (convert 22 22 (.slice (some ⟨w.heap.size, 0, none⟩) 1 1)).run Try.prog (w.alloc (.cells #[.int .u8 97] 5)) = .ok (.slice (some ⟨w.heap.size, 0, none⟩) 1 1) (w.alloc aObj) :=
  Lib.run_convert_bytes_const w 22 5 _ 1 1 Try.underlying22 Try.underlying5

set_option maxHeartbeats 400000 in
set_option maxRecDepth 100000 in
theorem awake_any (w : World) : Calls Try.prog 9 #[] w fun e w' => e = .returned (.bool true) ∧ Below w.heap.size w w' := by
  have h1 := byt_a w
  have hL := hide (lay_own 1 _ [97] _ (by omega) (by omega) h1 (by simp))
  have hB0 := (Below.refl w.heap.size w).alloc (Nat.le_refl _) aObj
  have hcv := conv_a w
  go_enter Try.func9, Try.ntmps9
  go_wp2_with fail
  refine hL.out.mono ?_
  rintro e w1 ⟨v1, rfl, hO, hB⟩
  have hB1 := bel_of hB0 hB
  have hb1 := Byt.of_owns hO (Frm.lay_bts (by omega) (by omega) (fun x hx => by simp at hx; omega))
  have hT := take_any v1 _ w1 hb1 (by rw [lay1_len]; omega)
  obtain ⟨ao, cap, rfl⟩ := hb1.slice
  have hcap := hb1.cap.2.1
  rw [lay1_len] at hcap
  have ht3 := hb1.take 3 (by rw [lay1_len]; omega)
  rw [lay1_take] at ht3
  rw [lay1_len] at hT ⊢
  have HT := hide hT
  clear hT hL hO hB hB0 h1 hb1
  go_wp2_with fail
  refine HT.out.mono ?_
  rintro e w2 ⟨v2, rfl, hb2, hB2⟩
  rw [tk1] at hb2 ⊢
  have hB3 := bel_of hB1 hB2
  have c3 := str_conv (ht3.below hB2)
  have c2 := str_conv hb2
  have s3 : strOfNums [111, 1, 1] = ⟨#[111, 1, 1]⟩ := rfl
  have s2 : strOfNums [97] = ⟨#[97]⟩ := rfl
  rw [s3] at c3
  simp only [s2] at c2
  have hcap3 : (3 : Int) ≤ (cap : Int) := by omega
  clear s3 s2 hb2 hB2 hB1 ht3 HT
  go_wp2_with fail
  go_ret
  exact ⟨rfl, hB3⟩
end Go.Proofs.Ytlonniegaaocoaa
