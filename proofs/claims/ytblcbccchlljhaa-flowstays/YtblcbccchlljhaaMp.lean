/- Numbers as keys of maps. -/
import Derived.Test.YtblcbccchlljhaaMem
import Derived.StringKeys
import Derived.Maps.OwnOps
import Derived.Maps.OwnSet
namespace Go.Proofs.Ytblcbccchlljhaa
open Go.RowKit Ir Go.Maps Go.WideMaps

abbrev DT := DataW Unit
def lk (k : Nat) : Lit := .int .i64 (k : Int)
theorem lk_inj {a b : Nat} (h : lk a = lk b) : a = b := by
  unfold lk at h
  simp only [Lit.int.injEq, true_and] at h
  omega
theorem key3 : Keyed Try.prog 3 := int_keyed Try.underlying3
theorem zero4 (W : World) : (zeroValue 4).run Try.prog W = .ok (.bool false) W := by kernel_rfl
theorem lk_key {k : Nat} (hk : k < 4096) : keyOf Try.prog 3 (.int .i64 (k : Int)) = some (lk k) := by
  unfold lk
  refine keyOf_int_mk Try.underlying3 ?_
  simp [Lit.wf, IntKind.min, IntKind.max, IntKind.signed, IntKind.bits]
  omega
end Go.Proofs.Ytblcbccchlljhaa
