/- Code that is run, in plain mathematics: what exec.Exec answers. -/
import Derived.Test.YtepmbkiojpffpaaPt
import Derived.Test.YtepmbkiojpffpaaRr
namespace Go.Proofs.Ytepmbkiojpffpaa.Ir
open Go.RowKit

/-- The number of exec.Exec's error. -/
def execF (C : Cod) (I : Inp) : Int := if (mchk C).1 ≠ 0 then 30 else inpF C.p I
/-- exec.Exec's output. -/
def execO (C : Cod) (I : Inp) : Out := if execF C I = 0 then play C.r C.bs 0 (st0 (C.r + C.s).toNat C.r I) else out00
theorem execF_zero {C : Cod} {I : Inp} (h : execF C I = 0) : (mchk C).1 = 0 ∧ (I.args.length : Int) = C.p ∧ 0 ≤ I.fuel ∧ I.fuel ≤ 1048576 := by
  unfold execF at h
  split at h
  · omega
  · unfold inpF at h
    split at h
    · omega
    · split at h
      · omega
      · omega
theorem execF_of {C : Cod} {I : Inp} (h : (mchk C).1 = 0) (h1 : (I.args.length : Int) = C.p) (h2 : 0 ≤ I.fuel ∧ I.fuel ≤ 1048576) : execF C I = 0 := by
  unfold execF inpF
  rw [if_neg (by simpa using h), if_neg (by simpa using h1), if_neg (by omega)]
theorem execO_play {C : Cod} {I : Inp} (h : execF C I = 0) : execO C I = play C.r C.bs 0 (st0 (C.r + C.s).toNat C.r I) := by
  unfold execO
  rw [if_pos h]

theorem rm_le {bs : List Blk} {s : Int} (h : 0 ≤ s) : 0 ≤ rm bs s ∧ rm bs s ≤ s := by unfold rm; omega
end Go.Proofs.Ytepmbkiojpffpaa.Ir
