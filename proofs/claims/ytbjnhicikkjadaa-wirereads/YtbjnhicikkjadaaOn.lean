/- What came in, by its type, with its numbers' ranges; certificates, bytes, numbers that came in. -/
import Derived.Test.YtbjnhicikkjadaaOpen
import Derived.Test.YtbjnhicikkjadaaRowI
import Derived.Test.YtbjnhicikkjadaaWs
import Derived.Test.YtbjnhicikkjadaaL0
import Derived.Test.YtbjnhicikkjadaaMCheck
namespace Go.Proofs.Ytbjnhicikkjadaa
set_option maxRecDepth 100000
open Go.ChangeShapes Go.WideShapes Go.ChangeAt Go.RowKit Go.Deep Ir

theorem SlV.both {α : Type} {sz : Nat} {E : World → Nat → Nat → α → Prop} {z : α} {P : α → Prop} {w : World} {v : Value} {xs : List α} (h : SlV sz (fun w b off a => E w b off a ∧ P a) z w v xs) : SlV sz E z w v xs ∧ ∀ a ∈ xs, P a := by
  obtain ⟨ao, cap, h1, h2, h3, h4, h5⟩ := h
  refine ⟨⟨ao, cap, h1, h2, h3, h4, fun h0 => ?_⟩, fun a ha => ?_⟩
  · obtain ⟨b, off, e, hc⟩ := h5 h0
    exact ⟨b, off, e, fun j hj => (hc j hj).1⟩
  · obtain ⟨j, hj, rfl⟩ := List.getElem_of_mem ha
    obtain ⟨b, off, e, hc⟩ := h5 (by omega)
    have := (hc j hj).2
    rwa [show xs.getD j z = xs[j] by simp [List.getElem?_eq_getElem hj]] at this
/-- Numbers of calls and constants are such as an int64 has. -/
def Rgd (bs : List Blk) : Prop := ∀ b ∈ bs, ∀ i ∈ b.ins, I64 i.n
theorem Rgd.rng {bs : List Blk} (h : Rgd bs) : ∀ b ∈ bs, ∀ i ∈ b.ins, Wire.Rng i := h
theorem Byt.lb {w : World} {v : Value} {xs : List Int} (h : Byt w v xs) : Lb.Byt w v xs := by
  obtain ⟨ao, cap, h1, h2, h3, h4, h5⟩ := h
  have hb : ∀ x ∈ xs, 0 ≤ x ∧ x < 256 := by
    intro x hx
    obtain ⟨j, hj, rfl⟩ := List.getElem_of_mem hx
    obtain ⟨b, off, e, hc⟩ := h5 (by omega)
    have := (hc j hj).2
    rwa [show xs.getD j 0 = xs[j] by simp [List.getElem?_eq_getElem hj]] at this
  by_cases h0 : 0 < xs.length
  · obtain ⟨b, off, e, hc⟩ := h5 h0
    exact ⟨b, hb, ao, cap, h1, h2, h3, h4, fun _ => ⟨off, e, fun j hj => by have := (hc j hj).1; rwa [Nat.mul_one] at this⟩⟩
  · exact ⟨0, hb, ao, cap, h1, h2, h3, h4, fun h => absurd h h0⟩
section
variable {H : Type} {enc : TypeId × Value → H} {W : World} {base : Nat} {v : Value} {d : DataW H} {p : List MemPlace}
theorem ins_ofR {fuel : Nat} {cs : List Value} {x : DataW H × List MemPlace} (h : DataW.trod enc Try.prog W 0 (fun _ => true) true fuel 86 cs = some x) :
    ∃ (i : Ins) (u : Value), cs = [.int .u8 i.k, .int .u8 i.op, .int .i64 i.d, .int .i64 i.a, .int .i64 i.b, .int .i64 i.n, u] ∧ IntsV W u i.args ∧ I64 i.n := by
  obtain ⟨xs, n, _, _, hlen, hxl, hf⟩ := DataW.trod_struct Try.underlying86 h
  have hc : Try.prog.cellsOf 86 = 7 := by kernel_rfl
  have o42 : Try.prog.cellsOf 83 = 1 := by kernel_rfl
  have o43 : Try.prog.cellsOf 84 = 1 := by kernel_rfl
  have o3 : Try.prog.cellsOf 3 = 1 := by kernel_rfl
  have o2 : Try.prog.cellsOf 2 = 1 := by kernel_rfl
  have o44 : Try.prog.cellsOf 49 = 1 := by kernel_rfl
  rw [hc] at hlen
  match xs, hxl, cs, hlen with
  | [y0, y1, y2, y3, y4, y5, y6], _, [v0, v1, v2, v3, v4, v5, v6], _ =>
    have g0 := hf 0 _ rfl
    have g1 := hf 1 _ rfl
    have g2 := hf 2 _ rfl
    have g3 := hf 3 _ rfl
    have g4 := hf 4 _ rfl
    have g5 := hf 5 _ rfl
    have g6 := hf 6 _ rfl
    simp [o42, o43, o3, o2, o44] at g0 g1 g2 g3 g4 g5 g6
    obtain ⟨n0, e0, _⟩ := int_of Try.underlying83 g0
    obtain ⟨n1, e1, _⟩ := int_of Try.underlying84 g1
    obtain ⟨n2, e2, _⟩ := int_of Try.underlying3 g2
    obtain ⟨n3, e3, _⟩ := int_of Try.underlying3 g3
    obtain ⟨n4, e4, _⟩ := int_of Try.underlying3 g4
    obtain ⟨n5, e5, w5⟩ := int_of Try.underlying2 g5
    obtain ⟨ys, hy⟩ := ints_of g6
    simp at e0 e1 e2 e3 e4 e5
    simp [Lit.wf, IntKind.min, IntKind.max, IntKind.signed, IntKind.bits] at w5
    exact ⟨⟨n0, n1, n2, n3, n4, n5, ys⟩, v6, by rw [e0, e1, e2, e3, e4, e5], hy, (show I64 n5 from ⟨by omega, by omega⟩)⟩
theorem inss_ofR {fuel : Nat} {x : DataW H × List MemPlace} (h : DataW.trod enc Try.prog W 0 (fun _ => true) true fuel 80 [v] = some x) : ∃ is, InssV W v is ∧ ∀ i ∈ is, I64 i.n := by
  obtain ⟨is, hi⟩ := sl_of (sz := 7) (E := fun w b off a => InsAt w b off a ∧ I64 a.n) (z := Ins.zero) Try.underlying80 (by kernel_rfl) (by decide) (by
    intro fuel cs x b off h hl hc
    obtain ⟨i, u, rfl, hu, hr⟩ := ins_ofR h
    exact ⟨i, ⟨u, ⟨by simpa using hc 0 (by omega), by simpa using hc 1 (by omega), by simpa using hc 2 (by omega), by simpa using hc 3 (by omega), by simpa using hc 4 (by omega), by simpa using hc 5 (by omega), by simpa using hc 6 (by omega)⟩, hu⟩, hr⟩) h
  exact ⟨is, SlV.both hi⟩
theorem blk_ofR {fuel : Nat} {cs : List Value} {x : DataW H × List MemPlace} (h : DataW.trod enc Try.prog W 0 (fun _ => true) true fuel 82 cs = some x) :
    ∃ (b : Blk) (u : Value), cs = [u, .int .u8 b.e.k, .int .i64 b.e.a, .int .i64 b.e.to, .int .i64 b.e.el] ∧ InssV W u b.ins ∧ ∀ i ∈ b.ins, I64 i.n := by
  obtain ⟨xs, n, _, _, hlen, hxl, hf⟩ := DataW.trod_struct Try.underlying82 h
  have hc : Try.prog.cellsOf 82 = 5 := by kernel_rfl
  have o36 : Try.prog.cellsOf 80 = 1 := by kernel_rfl
  have o39 : Try.prog.cellsOf 79 = 4 := by kernel_rfl
  rw [hc] at hlen
  match xs, hxl, cs, hlen with
  | [y0, y1], _, [v0, v1, v2, v3, v4], _ =>
    have g0 := hf 0 _ rfl
    have g1 := hf 1 _ rfl
    simp [o36, o39] at g0 g1
    obtain ⟨is, hi, hr⟩ := inss_ofR g0
    obtain ⟨e, he⟩ := en_of g1
    simp at he
    exact ⟨⟨is, e⟩, v0, by rw [he.1, he.2.1, he.2.2.1, he.2.2.2], hi, hr⟩
theorem blks_ofR {fuel : Nat} {x : DataW H × List MemPlace} (h : DataW.trod enc Try.prog W 0 (fun _ => true) true fuel 22 [v] = some x) : ∃ bs, BlksV W v bs ∧ Rgd bs := by
  obtain ⟨bs, hb⟩ := sl_of (sz := 5) (E := fun w b off a => BlkAt w b off a ∧ ∀ i ∈ a.ins, I64 i.n) (z := Blk.zero) Try.underlying22 (by kernel_rfl) (by decide) (by
    intro fuel cs x b off h hl hc
    obtain ⟨i, u, rfl, hu, hr⟩ := blk_ofR h
    exact ⟨i, ⟨u, ⟨by simpa using hc 0 (by omega), by simpa using hc 1 (by omega), by simpa using hc 2 (by omega), by simpa using hc 3 (by omega), by simpa using hc 4 (by omega)⟩, hu⟩, hr⟩) h
  exact ⟨bs, SlV.both hb⟩
theorem fun_inR (o : Value.okWide Try.prog W .any base 24 v) (k : DataW.Trod enc Try.prog W 0 (fun _ => true) true 24 v d p) : ∃ F, FunV W v F ∧ Rgd F.bs := by
  obtain ⟨v0, v1, v2, y0, y1, y2, m, rfl, _, _, h0, h1, h2⟩ := Go.Joins.open_agg3 Try.underlying24 (by kernel_rfl) (by kernel_rfl) o k
  obtain ⟨n0, e0, _⟩ := int_of Try.underlying3 h0
  obtain ⟨n1, e1, _⟩ := int_of Try.underlying3 h1
  obtain ⟨bs, hb, hr⟩ := blks_ofR h2
  simp at e0 e1
  exact ⟨⟨n0, n1, bs⟩, ⟨v2, by rw [e0, e1], hb⟩, hr⟩
theorem cod_inR (o : Value.okWide Try.prog W .any base 42 v) (k : DataW.Trod enc Try.prog W 0 (fun _ => true) true 42 v d p) : ∃ C, CodV W v C ∧ Rgd C.bs := by
  obtain ⟨v0, v1, v2, v3, y0, y1, y2, y3, m, rfl, _, _, h0, h1, h2, h3⟩ := Go.Joins.open_agg4 Try.underlying42 (by kernel_rfl) (by kernel_rfl) o k
  obtain ⟨n0, e0, _⟩ := int_of Try.underlying3 h0
  obtain ⟨n1, e1, _⟩ := int_of Try.underlying3 h1
  obtain ⟨n2, e2, _⟩ := int_of Try.underlying3 h2
  obtain ⟨bs, hb, hr⟩ := blks_ofR h3
  simp at e0 e1 e2
  exact ⟨⟨n0, n1, n2, bs⟩, ⟨v3, by rw [e0, e1, e2], hb⟩, hr⟩
theorem bytes_in (o : Value.okWide Try.prog W .any base 25 v) (k : DataW.Trod enc Try.prog W 0 (fun _ => true) true 25 v d p) : ∃ xs, Lb.Byt W v xs := by
  obtain ⟨fuel, hf⟩ := k
  obtain ⟨ao, n, c, rfl⟩ := okWide_slice Try.underlying25 o
  obtain ⟨xs, hx⟩ := byt_of (by simpa [Value.cells] using hf)
  exact ⟨xs, hx.lb⟩
theorem bytesM_in (o : Value.okWide Try.prog W .any base 25 v) (k : DataW.Trod enc Try.prog W 0 (fun _ => true) true 25 v d p) : ∃ xs, Byt W v xs := by
  obtain ⟨fuel, hf⟩ := k
  obtain ⟨ao, n, c, rfl⟩ := okWide_slice Try.underlying25 o
  exact byt_of (by simpa [Value.cells] using hf)
theorem numbers_in (o : Value.okWide Try.prog W .any base 49 v) (k : DataW.Trod enc Try.prog W 0 (fun _ => true) true 49 v d p) : ∃ xs, IntsV W v xs := by
  obtain ⟨fuel, hf⟩ := k
  obtain ⟨ao, n, c, rfl⟩ := okWide_slice Try.underlying49 o
  exact ints_of (by simpa [Value.cells] using hf)
end
end Go.Proofs.Ytbjnhicikkjadaa
