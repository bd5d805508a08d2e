/- What came in, by its type: ends, instructions, blocks, functions, and what functions are made of. -/
import Derived.Test.YtblcbccchlljhaaMem
import Derived.OpenShut
import Derived.ChangeArms
import Derived.ChangeSlices
import Derived.Deep.SlicePairs
import Derived.Lib.SmallJoins
namespace Go.Proofs.Ytblcbccchlljhaa
set_option maxRecDepth 100000
open Go.ChangeShapes Go.WideShapes Go.ChangeAt Go.RowKit Go.Deep Ir

section
variable {H : Type} {enc : TypeId × Value → H} {W : World} {base : Nat} {v : Value} {d : DataW H} {p : List MemPlace}

theorem sl_of {α : Type} {sz : Nat} {E : World → Nat → Nat → α → Prop} {z : α} {t e : TypeId} (ht : Try.prog.underlying t = some (.slice e)) (ce : Try.prog.cellsOf e = sz) (hsz : 0 < sz)
    (elem : ∀ (fuel : Nat) (cs : List Value) (x : DataW H × List MemPlace) (b off : Nat), DataW.trod enc Try.prog W 0 (fun _ => true) true fuel e cs = some x → cs.length = sz → (∀ j, j < sz → W.cell? ⟨b, off + j, none⟩ = cs[j]?) → ∃ a, E W b off a)
    {fuel : Nat} {x : DataW H × List MemPlace} (h : DataW.trod enc Try.prog W 0 (fun _ => true) true fuel t [v] = some x) : ∃ xs, SlV sz E z W v xs := by
  rcases open_slice ht h with ⟨hc, _⟩ | ⟨a, len, cap, m, n, D, Pl, hc, _, hl, hm, hmm, _, hx⟩
  · simp at hc
    subst hc
    exact ⟨[], SlV.nil⟩
  · simp at hc
    subst hc
    have hlm : len ≤ m := by simp at hmm; omega
    obtain ⟨b, off, spot⟩ := a
    have each : ∀ i, ∃ q : α, i < len → spot = none ∧ E W b (off + i * sz) q := by
      intro i
      by_cases hi : i < len
      · obtain ⟨cs', h1, h2⟩ := hx i (by omega)
        rw [ce] at h1
        obtain ⟨_, hlen, hcell⟩ := World.cells?_some h1
        have hspot : spot = none := by
          obtain ⟨cs0, q1, _⟩ := hx 0 (by omega)
          rw [ce] at q1
          obtain ⟨_, qlen, qcell⟩ := World.cells?_some q1
          have h0 := qcell 0 hsz
          rw [List.getElem?_eq_getElem (by omega)] at h0
          have := World.cell?_spot h0
          simpa [Addr.add] using this
        subst hspot
        obtain ⟨q, hq⟩ := elem n cs' _ b (off + i * sz) h2 hlen (fun j hj => by
          have := hcell j hj
          rw [Addr.add_lit, Addr.add_lit] at this
          exact this)
        exact ⟨q, fun _ => ⟨rfl, hq⟩⟩
      · exact ⟨z, fun h => absurd h hi⟩
    obtain ⟨F, hF⟩ := Classical.axiomOfChoice each
    refine ⟨(List.range len).map F, some ⟨b, off, spot⟩, cap, by simp, by simpa using hl, hm, by simp, fun h0 => ?_⟩
    simp at h0
    have hs := (hF 0 (by omega)).1
    subst hs
    refine ⟨b, off, rfl, fun j hj => ?_⟩
    simp at hj
    have := (hF j hj).2
    simpa [hj] using this

theorem int_of {t : TypeId} {k : IntKind} (ht : Try.prog.underlying t = some (.int k)) {fuel : Nat} {cs : List Value} {x : DataW H × List MemPlace} (h : DataW.trod enc Try.prog W 0 (fun _ => true) true fuel t cs = some x) : ∃ n : Int, cs = [.int k n] ∧ (Lit.int k n).wf = true := by
  obtain ⟨n, e, _, hw⟩ := DataW.trod_int ht h
  exact ⟨n, e, hw⟩
theorem ints_of {fuel : Nat} {x : DataW H × List MemPlace} (h : DataW.trod enc Try.prog W 0 (fun _ => true) true fuel 48 [v] = some x) : ∃ xs, IntsV W v xs := by
  refine sl_of Try.underlying48 (by kernel_rfl) (by decide) ?_ h
  intro fuel cs x b off h hl hc
  obtain ⟨n, rfl, _⟩ := int_of Try.underlying3 h
  exact ⟨n, show W.cell? _ = _ by simpa using hc 0 (by omega)⟩
theorem byt_of {fuel : Nat} {x : DataW H × List MemPlace} (h : DataW.trod enc Try.prog W 0 (fun _ => true) true fuel 22 [v] = some x) : ∃ xs, Byt W v xs := by
  refine sl_of Try.underlying22 (by kernel_rfl) (by decide) ?_ h
  intro fuel cs x b off h hl hc
  obtain ⟨n, rfl, hw⟩ := int_of Try.underlying5 h
  simp [Lit.wf, IntKind.min, IntKind.max, IntKind.signed, IntKind.bits] at hw
  exact ⟨n, by simpa using hc 0 (by omega), by omega, by omega⟩
theorem en_of {fuel : Nat} {cs : List Value} {x : DataW H × List MemPlace} (h : DataW.trod enc Try.prog W 0 (fun _ => true) true fuel 67 cs = some x) : ∃ e : En, cs = [.int .u8 e.k, .int .i64 e.a, .int .i64 e.to, .int .i64 e.el] := by
  obtain ⟨xs, n, _, _, hlen, hxl, hf⟩ := DataW.trod_struct Try.underlying67 h
  have hc : Try.prog.cellsOf 67 = 4 := by kernel_rfl
  have o37 : Try.prog.cellsOf 65 = 1 := by kernel_rfl
  have o3 : Try.prog.cellsOf 3 = 1 := by kernel_rfl
  rw [hc] at hlen
  match xs, hxl, cs, hlen with
  | [y0, y1, y2, y3], _, [v0, v1, v2, v3], _ =>
    have g0 := hf 0 _ rfl
    have g1 := hf 1 _ rfl
    have g2 := hf 2 _ rfl
    have g3 := hf 3 _ rfl
    simp [o37, o3] at g0 g1 g2 g3
    obtain ⟨n0, e0, _⟩ := int_of Try.underlying65 g0
    obtain ⟨n1, e1, _⟩ := int_of Try.underlying3 g1
    obtain ⟨n2, e2, _⟩ := int_of Try.underlying3 g2
    obtain ⟨n3, e3, _⟩ := int_of Try.underlying3 g3
    simp at e0 e1 e2 e3
    exact ⟨⟨n0, n1, n2, n3⟩, by rw [e0, e1, e2, e3]⟩
theorem ins_of {fuel : Nat} {cs : List Value} {x : DataW H × List MemPlace} (h : DataW.trod enc Try.prog W 0 (fun _ => true) true fuel 79 cs = some x) :
    ∃ (i : Ins) (u : Value), cs = [.int .u8 i.k, .int .u8 i.op, .int .i64 i.d, .int .i64 i.a, .int .i64 i.b, .int .i64 i.n, u] ∧ IntsV W u i.args := by
  obtain ⟨xs, n, _, _, hlen, hxl, hf⟩ := DataW.trod_struct Try.underlying79 h
  have hc : Try.prog.cellsOf 79 = 7 := by kernel_rfl
  have o42 : Try.prog.cellsOf 76 = 1 := by kernel_rfl
  have o43 : Try.prog.cellsOf 77 = 1 := by kernel_rfl
  have o3 : Try.prog.cellsOf 3 = 1 := by kernel_rfl
  have o2 : Try.prog.cellsOf 2 = 1 := by kernel_rfl
  have o44 : Try.prog.cellsOf 48 = 1 := by kernel_rfl
  rw [hc] at hlen
  match xs, hxl, cs, hlen with
  | [y0, y1, y2, y3, y4, y5, y6], _, [v0, v1, v2, v3, v4, v5, v6], _ =>
    have g0 := hf 0 _ rfl
    have g1 := hf 1 _ rfl
    have g2 := hf 2 _ rfl
    have g3 := hf 3 _ rfl
    have g4 := hf 4 _ rfl
    have g5 := hf 5 _ rfl
    have g6 := hf 6 _ rfl
    simp [o42, o43, o3, o2, o44] at g0 g1 g2 g3 g4 g5 g6
    obtain ⟨n0, e0, _⟩ := int_of Try.underlying76 g0
    obtain ⟨n1, e1, _⟩ := int_of Try.underlying77 g1
    obtain ⟨n2, e2, _⟩ := int_of Try.underlying3 g2
    obtain ⟨n3, e3, _⟩ := int_of Try.underlying3 g3
    obtain ⟨n4, e4, _⟩ := int_of Try.underlying3 g4
    obtain ⟨n5, e5, _⟩ := int_of Try.underlying2 g5
    obtain ⟨ys, hy⟩ := ints_of g6
    simp at e0 e1 e2 e3 e4 e5
    exact ⟨⟨n0, n1, n2, n3, n4, n5, ys⟩, v6, by rw [e0, e1, e2, e3, e4, e5], hy⟩
theorem inss_of {fuel : Nat} {x : DataW H × List MemPlace} (h : DataW.trod enc Try.prog W 0 (fun _ => true) true fuel 64 [v] = some x) : ∃ is, InssV W v is := by
  refine sl_of Try.underlying64 (by kernel_rfl) (by decide) ?_ h
  intro fuel cs x b off h hl hc
  obtain ⟨i, u, rfl, hu⟩ := ins_of h
  exact ⟨i, u, ⟨by simpa using hc 0 (by omega), by simpa using hc 1 (by omega), by simpa using hc 2 (by omega), by simpa using hc 3 (by omega), by simpa using hc 4 (by omega), by simpa using hc 5 (by omega), by simpa using hc 6 (by omega)⟩, hu⟩
theorem blk_of {fuel : Nat} {cs : List Value} {x : DataW H × List MemPlace} (h : DataW.trod enc Try.prog W 0 (fun _ => true) true fuel 69 cs = some x) :
    ∃ (b : Blk) (u : Value), cs = [u, .int .u8 b.e.k, .int .i64 b.e.a, .int .i64 b.e.to, .int .i64 b.e.el] ∧ InssV W u b.ins := by
  obtain ⟨xs, n, _, _, hlen, hxl, hf⟩ := DataW.trod_struct Try.underlying69 h
  have hc : Try.prog.cellsOf 69 = 5 := by kernel_rfl
  have o36 : Try.prog.cellsOf 64 = 1 := by kernel_rfl
  have o39 : Try.prog.cellsOf 67 = 4 := by kernel_rfl
  rw [hc] at hlen
  match xs, hxl, cs, hlen with
  | [y0, y1], _, [v0, v1, v2, v3, v4], _ =>
    have g0 := hf 0 _ rfl
    have g1 := hf 1 _ rfl
    simp [o36, o39] at g0 g1
    obtain ⟨is, hi⟩ := inss_of g0
    obtain ⟨e, he⟩ := en_of g1
    simp at he
    exact ⟨⟨is, e⟩, v0, by rw [he.1, he.2.1, he.2.2.1, he.2.2.2], hi⟩
theorem blks_of {fuel : Nat} {x : DataW H × List MemPlace} (h : DataW.trod enc Try.prog W 0 (fun _ => true) true fuel 26 [v] = some x) : ∃ bs, BlksV W v bs := by
  refine sl_of Try.underlying26 (by kernel_rfl) (by decide) ?_ h
  intro fuel cs x b off h hl hc
  obtain ⟨i, u, rfl, hu⟩ := blk_of h
  exact ⟨i, u, ⟨by simpa using hc 0 (by omega), by simpa using hc 1 (by omega), by simpa using hc 2 (by omega), by simpa using hc 3 (by omega), by simpa using hc 4 (by omega)⟩, hu⟩

theorem en_in (o : Value.okWide Try.prog W .any base 67 v) (k : DataW.Trod enc Try.prog W 0 (fun _ => true) true 67 v d p) : ∃ e, v = endV e := by
  obtain ⟨cs, rfl, _⟩ := okWide_struct Try.underlying67 o
  obtain ⟨fuel, hf⟩ := k
  obtain ⟨e, he⟩ := en_of hf
  refine ⟨e, ?_⟩
  unfold endV
  rw [← he]
  simp [Value.cells]
theorem ins_in (o : Value.okWide Try.prog W .any base 79 v) (k : DataW.Trod enc Try.prog W 0 (fun _ => true) true 79 v d p) : ∃ i u, v = insV i u ∧ IntsV W u i.args := by
  obtain ⟨cs, rfl, _⟩ := okWide_struct Try.underlying79 o
  obtain ⟨fuel, hf⟩ := k
  obtain ⟨i, u, he, hu⟩ := ins_of hf
  refine ⟨i, u, ?_, hu⟩
  unfold insV
  rw [← he]
  simp [Value.cells]
theorem fun_in (o : Value.okWide Try.prog W .any base 28 v) (k : DataW.Trod enc Try.prog W 0 (fun _ => true) true 28 v d p) : ∃ F, FunV W v F := by
  obtain ⟨v0, v1, v2, y0, y1, y2, m, rfl, _, _, h0, h1, h2⟩ := Go.Joins.open_agg3 Try.underlying28 (by kernel_rfl) (by kernel_rfl) o k
  obtain ⟨n0, e0, _⟩ := int_of Try.underlying3 h0
  obtain ⟨n1, e1, _⟩ := int_of Try.underlying3 h1
  obtain ⟨bs, hb⟩ := blks_of h2
  simp at e0 e1
  exact ⟨⟨n0, n1, bs⟩, v2, by rw [e0, e1], hb⟩
theorem byte_in (o : Value.okWide Try.prog W .any base 5 v) (k : DataW.Trod enc Try.prog W 0 (fun _ => true) true 5 v d p) : ∃ n : Int, v = .int .u8 n ∧ 0 ≤ n ∧ n < 256 := by
  obtain ⟨fuel, hf⟩ := k
  obtain ⟨n, e, hw⟩ := int_of Try.underlying5 hf
  simp [Lit.wf, IntKind.min, IntKind.max, IntKind.signed, IntKind.bits] at hw
  obtain ⟨q, rfl⟩ := okWide_int Try.underlying5 o
  simp [Value.cells] at e
  exact ⟨n, by rw [e], by omega, by omega⟩
theorem i64_in (o : Value.okWide Try.prog W .any base 3 v) (k : DataW.Trod enc Try.prog W 0 (fun _ => true) true 3 v d p) : ∃ n : Int, v = .int .i64 n ∧ (Lit.int .i64 n).wf = true := by
  obtain ⟨fuel, hf⟩ := k
  obtain ⟨n, e, hw⟩ := int_of Try.underlying3 hf
  obtain ⟨q, rfl⟩ := okWide_int Try.underlying3 o
  simp [Value.cells] at e
  exact ⟨n, by rw [e], hw⟩
/-- What a function is made of. -/
def SpecV (w : World) (v : Value) (a b c : Int) (bs : List Int) : Prop := ∃ u, v = .agg #[.int .u8 a, .int .u8 b, .int .u8 c, u] ∧ (0 ≤ a ∧ a < 256) ∧ (0 ≤ b ∧ b < 256) ∧ (0 ≤ c ∧ c < 256) ∧ Byt w u bs
theorem spec_in (o : Value.okWide Try.prog W .any base 24 v) (k : DataW.Trod enc Try.prog W 0 (fun _ => true) true 24 v d p) : ∃ a b c bs, SpecV W v a b c bs := by
  obtain ⟨v0, v1, v2, v3, y0, y1, y2, y3, m, rfl, _, _, h0, h1, h2, h3⟩ := Go.Joins.open_agg4 Try.underlying24 (by kernel_rfl) (by kernel_rfl) o k
  obtain ⟨n0, e0, w0⟩ := int_of Try.underlying5 h0
  obtain ⟨n1, e1, w1⟩ := int_of Try.underlying5 h1
  obtain ⟨n2, e2, w2⟩ := int_of Try.underlying5 h2
  obtain ⟨bs, hb⟩ := byt_of h3
  simp at e0 e1 e2
  simp [Lit.wf, IntKind.min, IntKind.max, IntKind.signed, IntKind.bits] at w0 w1 w2
  exact ⟨n0, n1, n2, bs, v3, by rw [e0, e1, e2], by omega, by omega, by omega, hb⟩
end
end Go.Proofs.Ytblcbccchlljhaa
