/- What came in, by its type: calls of a set, calls of a queue, lists of strings. -/
import Derived.Test.YtdeebmpmfedjbaaDoorOf
import Derived.OpenShut
import Derived.ChangeArms
import Derived.ChangeSlices
import Derived.Deep.SlicePairs
import Derived.Lib.SmallJoins
import Derived.LaidMore
import Derived.ProofKit
namespace Go.Proofs.YtdeebmpmfedjbaaDoor
open Go.ChangeShapes Go.WideShapes Go.ChangeAt Go.RowKit Go.Deep Bag

section
variable {H : Type} {enc : TypeId × Value → H} {W : World} {base : Nat} {v : Value} {d : DataW H} {p : List MemPlace}

theorem sl_of {α : Type} {sz : Nat} {E : World → Nat → Nat → α → Prop} {z : α} {t e : TypeId} (ht : Tryd.prog.underlying t = some (.slice e)) (ce : Tryd.prog.cellsOf e = sz) (hsz : 0 < sz)
    (elem : ∀ (fuel : Nat) (cs : List Value) (x : DataW H × List MemPlace) (b off : Nat), DataW.trod enc Tryd.prog W 0 (fun _ => true) true fuel e cs = some x → cs.length = sz → (∀ j, j < sz → W.cell? ⟨b, off + j, none⟩ = cs[j]?) → ∃ a, E W b off a)
    {fuel : Nat} {x : DataW H × List MemPlace} (h : DataW.trod enc Tryd.prog W 0 (fun _ => true) true fuel t [v] = some x) : ∃ xs, SlV sz E z W v xs := by
  rcases open_slice ht h with ⟨hc, _⟩ | ⟨a, len, cap, m, n, D, Pl, hc, _, hl, hm, hmm, _, hx⟩
  · simp at hc
    subst hc
    exact ⟨[], SlV.nil⟩
  · simp at hc
    subst hc
    have hlm : len ≤ m := by simp at hmm; omega
    obtain ⟨b, off, spot⟩ := a
    have each : ∀ i, ∃ q : α, i < len → spot = none ∧ E W b (off + i * sz) q := by
      intro i
      by_cases hi : i < len
      · obtain ⟨cs', h1, h2⟩ := hx i (by omega)
        rw [ce] at h1
        obtain ⟨_, hlen, hcell⟩ := World.cells?_some h1
        have hspot : spot = none := by
          obtain ⟨cs0, q1, _⟩ := hx 0 (by omega)
          rw [ce] at q1
          obtain ⟨_, qlen, qcell⟩ := World.cells?_some q1
          have h0 := qcell 0 hsz
          rw [List.getElem?_eq_getElem (by omega)] at h0
          have := World.cell?_spot h0
          simpa [Addr.add] using this
        subst hspot
        obtain ⟨q, hq⟩ := elem n cs' _ b (off + i * sz) h2 hlen (fun j hj => by
          have := hcell j hj
          rw [Addr.add_lit, Addr.add_lit] at this
          exact this)
        exact ⟨q, fun _ => ⟨rfl, hq⟩⟩
      · exact ⟨z, fun h => absurd h hi⟩
    obtain ⟨F, hF⟩ := Classical.axiomOfChoice each
    refine ⟨(List.range len).map F, some ⟨b, off, spot⟩, cap, by simp, by simpa using hl, hm, by simp, fun h0 => ?_⟩
    simp at h0
    have hs := (hF 0 (by omega)).1
    subst hs
    refine ⟨b, off, rfl, fun j hj => ?_⟩
    simp at hj
    have := (hF j hj).2
    simpa [hj] using this

theorem int_of {t : TypeId} {k : IntKind} (ht : Tryd.prog.underlying t = some (.int k)) {fuel : Nat} {cs : List Value} {x : DataW H × List MemPlace} (h : DataW.trod enc Tryd.prog W 0 (fun _ => true) true fuel t cs = some x) : ∃ n : Int, cs = [.int k n] ∧ (Lit.int k n).wf = true := by
  obtain ⟨n, e, _, hw⟩ := DataW.trod_int ht h
  exact ⟨n, e, hw⟩
theorem ints_of {fuel : Nat} {x : DataW H × List MemPlace} (h : DataW.trod enc Tryd.prog W 0 (fun _ => true) true fuel 31 [v] = some x) : ∃ xs, IntsV W v xs := by
  refine sl_of Tryd.underlying31 (by kernel_rfl) (by decide) ?_ h
  intro fuel cs x b off h hl hc
  obtain ⟨n, rfl, _⟩ := int_of Tryd.underlying3 h
  exact ⟨n, show W.cell? _ = _ by simpa using hc 0 (by omega)⟩
/-- A call of a set. -/
structure ActD where
  k : Nat
  x : Int
  l : List Int
  raw : Bool
/-- Its value, its list at u. -/
def actV (a : ActD) (u : Value) : Value := .agg #[.int .u8 a.k, .int .i64 a.x, u, .bool a.raw]
set_option maxRecDepth 100000 in
theorem act_of {fuel : Nat} {cs : List Value} {x : DataW H × List MemPlace} (h : DataW.trod enc Tryd.prog W 0 (fun _ => true) true fuel 33 cs = some x) :
    ∃ (a : ActD) (u : Value), cs = [.int .u8 a.k, .int .i64 a.x, u, .bool a.raw] ∧ IntsV W u a.l ∧ a.k < 256 := by
  obtain ⟨xs, n, _, _, hlen, hxl, hf⟩ := DataW.trod_struct Tryd.underlying33 h
  have hc : Tryd.prog.cellsOf 33 = 4 := by kernel_rfl
  have o5 : Tryd.prog.cellsOf 5 = 1 := by kernel_rfl
  have o3 : Tryd.prog.cellsOf 3 = 1 := by kernel_rfl
  have o31 : Tryd.prog.cellsOf 31 = 1 := by kernel_rfl
  have o4 : Tryd.prog.cellsOf 4 = 1 := by kernel_rfl
  rw [hc] at hlen
  match xs, hxl, cs, hlen with
  | [y0, y1, y2, y3], _, [v0, v1, v2, v3], _ =>
    have g0 := hf 0 _ rfl
    have g1 := hf 1 _ rfl
    have g2 := hf 2 _ rfl
    have g3 := hf 3 _ rfl
    simp [o5, o3, o31, o4] at g0 g1 g2 g3
    obtain ⟨n0, e0, hw⟩ := int_of Tryd.underlying5 g0
    obtain ⟨n1, e1, _⟩ := int_of Tryd.underlying3 g1
    obtain ⟨ys, hy⟩ := ints_of g2
    obtain ⟨r, e3, _⟩ := DataW.trod_bool Tryd.underlying4 g3
    simp at e0 e1 e3
    have h2 : IntKind.u8.min ≤ n0 ∧ n0 ≤ IntKind.u8.max := by simpa [Lit.wf] using hw
    have m1 : IntKind.u8.min = 0 := by decide
    have m2 : IntKind.u8.max = 255 := by decide
    exact ⟨⟨n0.toNat, n1, ys, r⟩, v2, by simp only [e0, e1, e3]; rw [Int.toNat_of_nonneg (by omega)], hy, by simp only; omega⟩
set_option maxRecDepth 100000 in
theorem act_in (o : Value.okWide Tryd.prog W .any base 33 v) (k : DataW.Trod enc Tryd.prog W 0 (fun _ => true) true 33 v d p) : ∃ a u, v = actV a u ∧ IntsV W u a.l ∧ a.k < 256 := by
  obtain ⟨cs, rfl, _⟩ := okWide_struct Tryd.underlying33 o
  obtain ⟨fuel, hf⟩ := k
  obtain ⟨a, u, he, hu⟩ := act_of hf
  refine ⟨a, u, ?_, hu⟩
  unfold actV
  rw [← he]
  simp [Value.cells]
/-- Calls of a set, one behind the other in a block. -/
def ActAt (w : World) (b off : Nat) (a : ActD × Value) : Prop := (w.cell? ⟨b, off, none⟩ = some (.int .u8 a.1.k) ∧ w.cell? ⟨b, off + 1, none⟩ = some (.int .i64 a.1.x) ∧ w.cell? ⟨b, off + 2, none⟩ = some a.2 ∧ w.cell? ⟨b, off + 3, none⟩ = some (.bool a.1.raw)) ∧ IntsV w a.2 a.1.l ∧ a.1.k < 256
def actZ : ActD × Value := (⟨0, 0, [], false⟩, .slice none 0 0)
def ActsV (w : World) (v : Value) (xs : List (ActD × Value)) : Prop := SlV 4 ActAt actZ w v xs
theorem ActAt.below {w w' : World} {b off : Nat} {a : ActD × Value} (h : ActAt w b off a) (hB : Below w.heap.size w w') : ActAt w' b off a :=
  ⟨⟨cell_below hB h.1.1, cell_below hB h.1.2.1, cell_below hB h.1.2.2.1, cell_below hB h.1.2.2.2⟩, h.2.1.below hB, h.2.2⟩
theorem ActsV.below {w w' : World} {v : Value} {xs : List (ActD × Value)} (h : ActsV w v xs) (hB : Below w.heap.size w w') : ActsV w' v xs := SlV.mono h fun _ _ _ => fun h => h.below hB
set_option maxRecDepth 100000 in
theorem acts_in (o : Value.okWide Tryd.prog W .any base 22 v) (k : DataW.Trod enc Tryd.prog W 0 (fun _ => true) true 22 v d p) : ∃ xs, ActsV W v xs := by
  obtain ⟨a, len, cap, rfl⟩ := okWide_slice Tryd.underlying22 o
  obtain ⟨fuel, hf⟩ := k
  refine sl_of Tryd.underlying22 (by kernel_rfl) (by decide) ?_ hf
  intro fuel cs x b off h hl hc
  obtain ⟨a, u, rfl, hu⟩ := act_of h
  exact ⟨(a, u), ⟨by simpa using hc 0 (by omega), by simpa using hc 1 (by omega), by simpa using hc 2 (by omega), by simpa using hc 3 (by omega)⟩, hu⟩
end
end Go.Proofs.YtdeebmpmfedjbaaDoor
