/- Lists of small numbers, of strings, that came in. -/
import Derived.Test.YtdeebmpmfedjbaaDoorBy
namespace Go.Proofs.YtdeebmpmfedjbaaDoor
open Go.ChangeShapes Go.WideShapes Go.ChangeAt Go.RowKit Go.Deep Bag
section
variable {H : Type} {enc : TypeId × Value → H} {W : World} {base : Nat} {v : Value} {d : DataW H} {p : List MemPlace}
set_option maxRecDepth 100000 in
theorem shorts_in (o : Value.okWide Tryd.prog W .any base 45 v) (k : DataW.Trod enc Tryd.prog W 0 (fun _ => true) true 45 v d p) : ∃ xs, ShV W v xs := by
  obtain ⟨a, len, cap, rfl⟩ := okWide_slice Tryd.underlying45 o
  obtain ⟨fuel, hf⟩ := k
  refine sl_of Tryd.underlying45 (by kernel_rfl) (by decide) ?_ hf
  intro fuel cs x b off h hl hc
  obtain ⟨n, rfl, hw⟩ := int_of Tryd.underlying55 h
  have h2 : IntKind.i16.min ≤ n ∧ n ≤ IntKind.i16.max := by simpa [Lit.wf] using hw
  have m1 : IntKind.i16.min = -32768 := by decide
  have m2 : IntKind.i16.max = 32767 := by decide
  exact ⟨n, hc 0 (by decide), by omega, by omega⟩
set_option maxRecDepth 100000 in
theorem strs_in (o : Value.okWide Tryd.prog W .any base 46 v) (k : DataW.Trod enc Tryd.prog W 0 (fun _ => true) true 46 v d p) : ∃ xs, KV W v xs := by
  obtain ⟨a, len, cap, rfl⟩ := okWide_slice Tryd.underlying46 o
  obtain ⟨fuel, hf⟩ := k
  refine sl_of Tryd.underlying46 (by kernel_rfl) (by decide) ?_ hf
  intro fuel cs x b off h hl hc
  obtain ⟨s, rfl, _, _⟩ := DataW.trod_string Tryd.underlying9 h
  exact ⟨s, hc 0 (by decide)⟩
end
end Go.Proofs.YtdeebmpmfedjbaaDoor
