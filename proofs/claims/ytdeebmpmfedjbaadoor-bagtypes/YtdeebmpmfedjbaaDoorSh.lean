/- What every law of this seat begins with: the listed table as the door lays it. -/
import Derived.Test.YtdeebmpmfedjbaaDoorTz
import Derived.Test.YtdeebmpmfedjbaaDoorRows
import Derived.LaidMore
import Derived.ProofKit
import Derived.OpenShut
import Derived.Stop.Joined
import Derived.Lib.LaidTab
namespace Go.Proofs.YtdeebmpmfedjbaaDoor.Sh
open Go.ChangeShapes Go.WideShapes Go.ChangeAt Go.RowKit Bag
theorem own : ownKnob Tryd.prog.godebug = none := by kernel_rfl
theorem laidOut : laidOutB Tryd.prog = true := by kernel_rfl
def laid1 : List (String × DataW Unit) := [("math/bits.deBruijn64tab", Rows.laid_math_bits_deBruijn64tab)]
def steps : Nat := 400
def zs : List Int := Lib.deBruijn64tab.map fun (n : Nat) => (n : Int)
theorem laid_is : (Rows.laid_math_bits_deBruijn64tab : DataW Unit) = Lib.tabData .u8 zs := by kernel_rfl
theorem gTab : Tryd.prog.globalNamed "math/bits.deBruijn64tab" = some 0 := by kernel_rfl
theorem tTab : (Tryd.prog.globals[0]?).map (·.type) = some 103 := by kernel_rfl
theorem tab_of {W : World} (h : laidMetH Tryd.prog laid1 W) : Tab W := by
  rw [MakeChecks.laidMetH_plain _ _ _ (by kernel_rfl)] at h
  have h' : laidMet Tryd.prog (("math/bits.deBruijn64tab", Lib.tabData .u8 zs) :: []) W := by
    rw [← laid_is]; exact h
  have ht := Lib.tabIs_of_head gTab tTab Tryd.underlying103 Tryd.underlying5 (by kernel_rfl) (by kernel_rfl) h'
  intro j hj
  have hl : zs.length = 64 := by simp [zs, Lib.deBruijn64tab]
  have := ht.cell gTab j (by rw [hl]; exact hj)
  rw [this]
  have hl2 : j < Lib.deBruijn64tab.length := hj
  congr 2
  simp [zs, List.getD_eq_getElem?_getD, List.getElem?_map, List.getElem?_eq_getElem hl2]
theorem door_met (os : Os) (args : Array Value) : laidMetH Tryd.prog laid1 ((World.doorLaid Tryd.prog steps os).forCall (fun _ _ => 0) ⟨#[], args, []⟩).memory :=
  laidMetH_of_parts3 (fuel := 8) (laidMet_of_run' 8 (by kernel_rfl) (by kernel_rfl)) (by kernel_rfl) (by kernel_rfl)
end Go.Proofs.YtdeebmpmfedjbaaDoor.Sh
