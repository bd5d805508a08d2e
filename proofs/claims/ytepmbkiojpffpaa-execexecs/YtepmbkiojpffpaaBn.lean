/- run.result and the document's bin: what an Op makes of two numbers. -/
import Derived.Test.YtepmbkiojpffpaaSm
namespace Go.Proofs.Ytepmbkiojpffpaa
open Go.RowKit Ir

/-- What result tells. -/
def rsv (op x y : Int) : Int := if op = 7 ∧ y = 0 then 0 else bnd op x y
def rsk (op y : Int) : Bool := !decide (op = 7 ∧ y = 0)

set_option maxHeartbeats 1000000 in
set_option maxRecDepth 100000 in
theorem result_any (op x y : Int) (w : World) (hop : 1 ≤ op ∧ op ≤ 7) : Calls Try.prog 63 #[.int .u8 op, .int .i64 x, .int .i64 y] w fun e w' =>
    e = .returned (.tuple #[.int .i64 (rsv op x y), .bool (rsk op y)]) ∧ w' = w := by
  unfold rsv rsk
  have h1 : op = 1 ∨ op = 2 ∨ op = 3 ∨ op = 4 ∨ op = 5 ∨ op = 6 ∨ op = 7 := by omega
  rcases h1 with rfl | rfl | rfl | rfl | rfl | rfl | rfl
  iterate 6
    · go_enter Try.func63, Try.ntmps63
      go_wp2_with fail
      all_goals
        go_ret2
        refine ⟨?_, rfl⟩
        simp_all [bnd, IntWalk.i64_left]
  · by_cases hy : y = 0
    · subst hy
      go_enter Try.func63, Try.ntmps63
      go_wp2_with fail
      go_ret2
      exact ⟨rfl, rfl⟩
    · have hy1 : (y == 0) = false := by simpa using hy
      go_enter Try.func63, Try.ntmps63
      go_wp2_with fail
      go_ret2
      refine ⟨?_, rfl⟩
      simp_all [bnd, IntWalk.i64_left]
set_option maxHeartbeats 1000000 in
set_option maxRecDepth 100000 in
theorem refBin_any (op x y : Int) (w : World) (hop : 1 ≤ op ∧ op ≤ 7) (hy : op = 7 → y ≠ 0) : Calls Try.prog 23 #[.int .u8 op, .int .i64 x, .int .i64 y] w fun e w' => e = .returned (.int .i64 (bnd op x y)) ∧ w' = w := by
  have h1 : op = 1 ∨ op = 2 ∨ op = 3 ∨ op = 4 ∨ op = 5 ∨ op = 6 ∨ op = 7 := by omega
  rcases h1 with rfl | rfl | rfl | rfl | rfl | rfl | rfl
  iterate 6
    · clear hy
      go_enter Try.func23, Try.ntmps23
      go_wp2_with fail
      all_goals
        go_ret
        refine ⟨?_, rfl⟩
        simp_all [bnd, IntWalk.i64_left]
  · by_cases hm : y = -1
    · subst hm
      go_enter Try.func23, Try.ntmps23
      go_wp2_with fail
      go_ret
      refine ⟨?_, rfl⟩
      have : x.tdiv (-1) = -x := by rw [Int.tdiv_neg, Int.tdiv_one]
      simp_all [bnd, IntWalk.i64_left]
    · have hy0 := hy rfl
      have hy1 : (y == 0) = false := by simpa using hy0
      have hy2 : (y == -1) = false := by simpa using hm
      go_enter Try.func23, Try.ntmps23
      go_wp2_with fail
      go_ret
      refine ⟨?_, rfl⟩
      simp_all [bnd, IntWalk.i64_left]
end Go.Proofs.Ytepmbkiojpffpaa
