/- What came in, by its type: numbers, rows of numbers, frames, rows of frames. -/
import Derived.Test.YtlonniegaaocoaaFrames
import Derived.OpenShut
import Derived.ChangeArms
import Derived.ChangeSlices
import Derived.Deep.SlicePairs
import Derived.Lib.SmallJoins
namespace Go.Proofs.Ytlonniegaaocoaa
open Go.ChangeShapes Go.WideShapes Go.ChangeAt Go.RowKit Go.Deep

section
variable {H : Type} {enc : TypeId × Value → H} {W : World} {base : Nat} {v : Value} {d : DataW H} {p : List MemPlace}

theorem row_of_trod {t e : TypeId} {k : IntKind} {fuel : Nat} {x : DataW H × List MemPlace} (ht : Try.prog.underlying t = some (.slice e)) (he : Try.prog.underlying e = some (.int k)) (hc : Try.prog.cellsOf e = 1)
    (h : DataW.trod enc Try.prog W 0 (fun _ => true) true fuel t [v] = some x) : ∃ a len cap zs, v = .slice a len cap ∧ IsRow k W a len cap zs := by
  rcases open_ints ht he hc h with ⟨hcs, _⟩ | ⟨x, l, c, zs, hcs, _, hl, hm, hz, _, hcell, hwz⟩
  · simp at hcs
    exact ⟨none, 0, 0, [], hcs, .inl ⟨rfl, rfl, rfl, rfl⟩⟩
  · simp at hcs
    exact ⟨some x, l, c, zs, hcs, .inr ⟨x, rfl, hl, hm, by simpa using hz, hcell, hwz⟩⟩

theorem byt_of_trod {fuel : Nat} {x : DataW H × List MemPlace} (h : DataW.trod enc Try.prog W 0 (fun _ => true) true fuel 22 [v] = some x) : ∃ xs, Byt W v xs := by
  obtain ⟨a, len, cap, zs, rfl, hr⟩ := row_of_trod Try.underlying22 Try.underlying5 (by kernel_rfl) h
  exact ⟨_, (Byt.of_row hr).2⟩

theorem byt_in (o : Value.okWide Try.prog W .any base 22 v) (k : DataW.Trod enc Try.prog W 0 (fun _ => true) true 22 v d p) : ∃ xs, Byt W v xs := by
  obtain ⟨a, len, cap, rfl⟩ := okWide_slice Try.underlying22 o
  obtain ⟨fuel, hf⟩ := k
  exact byt_of_trod hf
theorem ints_in (o : Value.okWide Try.prog W .any base 36 v) (k : DataW.Trod enc Try.prog W 0 (fun _ => true) true 36 v d p) :
    ∃ a cap zs, v = .slice a zs.length cap ∧ Ints .i64 W a zs ∧ ∀ n ∈ zs, (Lit.int .i64 n).wf = true := by
  obtain ⟨a, len, cap, rfl⟩ := okWide_slice Try.underlying36 o
  obtain ⟨fuel, hf⟩ := k
  obtain ⟨a', len', cap', zs, e, hr⟩ := row_of_trod Try.underlying36 Try.underlying3 (by kernel_rfl) hf
  simp only [Value.slice.injEq] at e
  obtain ⟨rfl, rfl, rfl⟩ := e
  obtain ⟨h1, h2, h3⟩ := Ints.of_row hr
  exact ⟨a, cap, zs.take len, by rw [h1], h2, h3⟩

theorem kind_of_trod {fuel : Nat} {x : DataW H × List MemPlace} (h : DataW.trod enc Try.prog W 0 (fun _ => true) true fuel 5 [v] = some x) : ∃ n : Int, v = .int .u8 n ∧ 0 ≤ n ∧ n < 256 := by
  obtain ⟨n, e, _, hw⟩ := DataW.trod_int Try.underlying5 h
  simp at e
  simp [Lit.wf, IntKind.min, IntKind.max, IntKind.signed, IntKind.bits] at hw
  exact ⟨n, e, by omega, by omega⟩

theorem frame_in (o : Value.okWide Try.prog W .any base 38 v) (k : DataW.Trod enc Try.prog W 0 (fun _ => true) true 38 v d p) : ∃ n u xs, v = .agg #[.int .u8 n, u] ∧ 0 ≤ n ∧ n < 256 ∧ Byt W u xs := by
  obtain ⟨v0, v1, y0, y1, m, rfl, _, _, h0, h1⟩ := Go.Joins.open_agg2 Try.underlying38 (by kernel_rfl) (by kernel_rfl) o k
  obtain ⟨n, rfl, h2, h3⟩ := kind_of_trod h0
  obtain ⟨xs, hx⟩ := byt_of_trod h1
  exact ⟨n, v1, xs, rfl, h2, h3, hx⟩

theorem frames_in (o : Value.okWide Try.prog W .any base 35 v) (k : DataW.Trod enc Try.prog W 0 (fun _ => true) true 35 v d p) : ∃ fs, Frames W v fs := by
  obtain ⟨a, len, cap, rfl⟩ := okWide_slice Try.underlying35 o
  obtain ⟨fuel, hf⟩ := k
  rcases open_slice_pairs Try.underlying35 Try.underlying38 (by kernel_rfl) rfl rfl (by kernel_rfl) (by kernel_rfl) hf with ⟨hc, _⟩ | ⟨x, l, c, m, n, V0, V1, D0, D1, P0, P1, hc, _, hl, hm, hmm, _, hall⟩
  · simp [Value.cells] at hc
    obtain ⟨rfl, rfl, rfl⟩ := hc
    exact ⟨[], none, 0, rfl, fun h => by simp at h⟩
  · simp [Value.cells] at hc
    obtain ⟨rfl, rfl, rfl⟩ := hc
    have hlm : len ≤ m := by simp at hmm; omega
    obtain ⟨b, off, spot⟩ := x
    have each : ∀ i, ∃ f : Int × List Int, i < len → spot = none ∧ FrmAt W b (off + i * 2) f := by
      intro i
      by_cases hi : i < len
      · obtain ⟨c0, c1, t0, t1⟩ := hall i (by omega)
        obtain ⟨n0, e0, h2, h3⟩ := kind_of_trod t0
        obtain ⟨xs, hx⟩ := byt_of_trod t1
        rw [e0] at c0
        have hspot : spot = none := by
          have := (hall 0 (by omega)).1
          simpa [Addr.add] using World.cell?_spot this
        subst hspot
        rw [Addr.add_lit] at c0 c1
        exact ⟨(n0, xs), fun _ => ⟨rfl, c0, h2, h3, _, c1, hx⟩⟩
      · exact ⟨(0, []), fun h => absurd h hi⟩
    obtain ⟨F, hF⟩ := Classical.axiomOfChoice each
    refine ⟨(List.range len).map F, some ⟨b, off, spot⟩, cap, by simp, fun h0 => ?_⟩
    simp at h0
    have hs := (hF 0 (by omega)).1
    subst hs
    refine ⟨b, off, rfl, fun j hj => ?_⟩
    simp at hj
    have := (hF j hj).2
    simpa [hj] using this
end
end Go.Proofs.Ytlonniegaaocoaa
