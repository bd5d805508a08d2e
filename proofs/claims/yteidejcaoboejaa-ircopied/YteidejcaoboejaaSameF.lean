/- The document's SameFuncs: of two functions that read alike it answers true. -/
import Derived.Test.YteidejcaoboejaaSame
namespace Go.Proofs.Yteidejcaoboejaa
open Go.RowKit Ir
set_option maxHeartbeats 2000000 in
set_option maxRecDepth 100000 in
theorem sameFuncs_any (M : Fun) (u v : Value) (w : World) (hu : BlksV w u M.bs) (hv : BlksV w v M.bs) (hsm : ∀ b ∈ M.bs, ∀ i ∈ b.ins, i.args.length ≤ 1000000000) :
    Calls Try.prog 26 #[.agg #[.int .i64 M.p, .int .i64 M.v, u], .agg #[.int .i64 M.p, .int .i64 M.v, v]] w fun r w' => r = .returned (.bool true) ∧ Below w.heap.size w w' := by
  obtain ⟨ua, ca, rfl⟩ := hu.slice
  obtain ⟨va, cv, rfl⟩ := hv.slice
  have hB := bel2 w (.cells #[.int .i64 M.p, .int .i64 M.v, .slice ua M.bs.length ca] 24) (.cells #[.int .i64 M.p, .int .i64 M.v, .slice va M.bs.length cv] 24)
  have hC := hide (sameBlocks_any _ _ M.bs _ (hu.below hB) (hv.below hB) hsm)
  have HB := hide hB
  clear hu hv hsm hB
  go_enter Try.func26, Try.ntmps26
  go_wp2_with fail
  refine hC.out.mono ?_
  rintro r w1 ⟨rfl, hB1⟩
  have hBf := bel_of HB.out hB1
  clear hC HB hB1
  go_wp2_with fail
  go_ret
  exact ⟨rfl, hBf⟩
end Go.Proofs.Yteidejcaoboejaa
