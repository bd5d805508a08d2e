/- The zero model. -/
import Derived.Test.YtdeebmpmfedjbaaDoorMo
namespace Go.Proofs.YtdeebmpmfedjbaaDoor
open Go.RowKit Bag
def z4096 : Array Value := Array.replicate 4096 (.bool false)
set_option maxRecDepth 100000 in
theorem build30 (W : World) : (Instr.build 30 #[]).run Tryd.prog W = .ok (.agg z4096) W := by kernel_rfl
theorem z4096_mod : ModC z4096 (fun _ => false) := ModC.zero
end Go.Proofs.YtdeebmpmfedjbaaDoor
