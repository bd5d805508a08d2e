/- What came in, by its type: code, bytes. -/
import Derived.Test.YtbgedbahabbanaaOpen
import Derived.Test.YtbgedbahabbanaaMCheck
namespace Go.Proofs.Ytbgedbahabbanaa
open Go.ChangeShapes Go.WideShapes Go.ChangeAt Go.RowKit Go.Deep Ir
section
variable {H : Type} {enc : TypeId × Value → H} {W : World} {base : Nat} {v : Value} {d : DataW H} {p : List MemPlace}
theorem cod_in (o : Value.okWide Try.prog W .any base 24 v) (k : DataW.Trod enc Try.prog W 0 (fun _ => true) true 24 v d p) : ∃ C, CodV W v C := by
  obtain ⟨v0, v1, v2, v3, y0, y1, y2, y3, m, rfl, _, _, h0, h1, h2, h3⟩ := Go.Joins.open_agg4 Try.underlying24 (by kernel_rfl) (by kernel_rfl) o k
  obtain ⟨n0, e0, _⟩ := int_of Try.underlying3 h0
  obtain ⟨n1, e1, _⟩ := int_of Try.underlying3 h1
  obtain ⟨n2, e2, _⟩ := int_of Try.underlying3 h2
  obtain ⟨bs, hb⟩ := blks_of h3
  simp at e0 e1 e2
  exact ⟨⟨n0, n1, n2, bs⟩, v3, by rw [e0, e1, e2], hb⟩
theorem byts_in (o : Value.okWide Try.prog W .any base 25 v) (k : DataW.Trod enc Try.prog W 0 (fun _ => true) true 25 v d p) : ∃ xs, Byt W v xs := by
  obtain ⟨fuel, hf⟩ := k
  obtain ⟨ao, n, c, rfl⟩ := okWide_slice Try.underlying25 o
  exact byt_of (by simpa [Value.cells] using hf)
end
end Go.Proofs.Ytbgedbahabbanaa
