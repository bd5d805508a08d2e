/- What came in: an input. -/
import Derived.Test.YtepmbkiojpffpaaOpen
import Derived.Test.YtepmbkiojpffpaaIn
set_option maxRecDepth 100000
namespace Go.Proofs.Ytepmbkiojpffpaa
open Go.ChangeShapes Go.WideShapes Go.ChangeAt Go.RowKit Go.Deep Ir
section
variable {H : Type} {enc : TypeId × Value → H} {W : World} {base : Nat} {v : Value} {d : DataW H} {p : List MemPlace}
theorem nums_of {fuel : Nat} {x : DataW H × List MemPlace} (h : DataW.trod enc Try.prog W 0 (fun _ => true) true fuel 25 [v] = some x) : ∃ xs, IntsV W v xs := by
  refine sl_of Try.underlying25 (by kernel_rfl) (by decide) ?_ h
  intro fuel cs x b off h hl hc
  obtain ⟨n, rfl, _⟩ := int_of Try.underlying2 h
  exact ⟨n, show W.cell? _ = _ by simpa using hc 0 (by omega)⟩
theorem inp_in (o : Value.okWide Try.prog W .any base 27 v) (k : DataW.Trod enc Try.prog W 0 (fun _ => true) true 27 v d p) : ∃ I, InpV W v I := by
  obtain ⟨v0, v1, v2, v3, y0, y1, y2, y3, m, rfl, _, _, h0, h1, h2, h3⟩ := Go.Joins.open_agg4 Try.underlying27 (by kernel_rfl) (by kernel_rfl) o k
  obtain ⟨xs, hx⟩ := nums_of h0
  obtain ⟨ys, hy⟩ := nums_of h1
  obtain ⟨zs, hz⟩ := nums_of h2
  obtain ⟨n3, e3, _⟩ := int_of Try.underlying3 h3
  simp at e3
  exact ⟨⟨xs, ys, zs, n3⟩, v0, v1, v2, by rw [e3], hx, hy, hz⟩
theorem nums_in (o : Value.okWide Try.prog W .any base 25 v) (k : DataW.Trod enc Try.prog W 0 (fun _ => true) true 25 v d p) : ∃ xs, IntsV W v xs := by
  obtain ⟨fuel, hf⟩ := k
  obtain ⟨ao, n, c, rfl⟩ := okWide_slice Try.underlying25 o
  exact nums_of (by simpa [Value.cells] using hf)
end
end Go.Proofs.Ytepmbkiojpffpaa
