/- The fixed facts that each law asks first: they hold. -/
import Derived.Test.YthpajmpooekebaaSum
import Derived.Lib.SlBytesConst
namespace Go.Proofs.Ythpajmpooekebaa
open Go.RowKit

def nine : List Int := [49, 50, 51, 52, 53, 54, 55, 56, 57]
theorem sum_nine : sumOf nine = 3421780262 := by decide +kernel
theorem sum_none : sumOf [] = 0 := by decide +kernel

/-- The row of '[]byte("123456789")', with the mark that such a row bears. -/
def nineObj : Obj := .cells #[.int .u8 49, .int .u8 50, .int .u8 51, .int .u8 52, .int .u8 53, .int .u8 54, .int .u8 55, .int .u8 56, .int .u8 57] 5 (9, 10)

theorem byt_nine (w : World) : Byt (w.alloc nineObj) (.slice (some ⟨w.heap.size, 0, none⟩) 9 9) nine := by
  refine ⟨w.heap.size, by simp [nine], _, 9, rfl, by simp [nine], by simp [maxLen], by simp, fun _ => ⟨0, rfl, fun j hj => ?_⟩⟩
  have hn := heap_alloc_new w nineObj
  simp only [Nat.zero_add]
  unfold World.cell?
  rw [hn]
  match j, hj with
  | 0, _ => rfl
  | 1, _ => rfl
  | 2, _ => rfl
  | 3, _ => rfl
  | 4, _ => rfl
  | 5, _ => rfl
  | 6, _ => rfl
  | 7, _ => rfl
  | 8, _ => rfl

theorem conv_nine (w : World) : (convert 22 22 (.slice (some ⟨w.heap.size, 0, none⟩) 9 9)).run Try.prog (w.alloc (.cells #[.int .u8 49, .int .u8 50, .int .u8 51, .int .u8 52, .int .u8 53, .int .u8 54, .int .u8 55, .int .u8 56, .int .u8 57] 5)) =
    .ok (.slice (some ⟨w.heap.size, 0, none⟩) 9 9) (w.alloc nineObj) :=
  Lib.run_convert_bytes_const w 22 5 _ 9 9 Try.underlying22 Try.underlying5

set_option maxHeartbeats 400000 in
set_option maxRecDepth 100000 in
theorem awake_any (w : World) : Calls Try.prog 7 #[] w fun e w' => e = .returned (.bool true) ∧ Below w.heap.size w w' := by
  have h1 := sum_one (byt_nine w)
  have hsz : (w.alloc nineObj).heap.size = w.heap.size + 1 := by simp
  rw [sum_nine, hsz, show ((3421780262 : Nat) : Int) = 3421780262 from rfl] at h1
  have H1 := hide h1
  have hc := conv_nine w
  have hB : Below w.heap.size w (w.alloc nineObj) := (Below.refl _ _).alloc (Nat.le_refl _) _
  clear h1
  go_enter Try.func7, Try.ntmps7
  go_wp2_with fail
  generalize w.alloc nineObj = w1 at *
  refine H1.out.mono ?_
  rintro e w2 ⟨rfl, rfl⟩
  have h2 := hide (sum_any _ _ _ (Parts.nil (w1.alloc (.cells #[.slice (some ⟨w.heap.size, 0, none⟩) 9 9] 22))))
  have hB2 := hB.alloc (by omega) (.cells #[.slice (some ⟨w.heap.size, 0, none⟩) 9 9] 22)
  clear hc hB
  go_wp2_with fail
  refine h2.out.mono ?_
  rintro e w2 ⟨rfl, rfl⟩
  rw [List.flatten_nil, sum_none, show ((0 : Nat) : Int) = 0 from rfl]
  clear h2
  go_wp2_with fail
  go_ret
  exact ⟨rfl, hB2⟩
end Go.Proofs.Ythpajmpooekebaa
