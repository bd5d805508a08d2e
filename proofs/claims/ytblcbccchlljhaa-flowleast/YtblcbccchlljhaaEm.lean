/- Ends in memory; what follows an end, by the code and by the document. -/
import Derived.Test.YtblcbccchlljhaaNx
import Derived.Test.YtblcbccchlljhaaInts
import Derived.Test.YtblcbccchlljhaaEnds
namespace Go.Proofs.Ytblcbccchlljhaa
open Go.RowKit Ir Wy

/-- An end at block g, off (of the whole of its block). -/
structure EndCells (w : World) (g off : Nat) (e : En) : Prop where
  c1 : w.cell? ⟨g, off + 1, none⟩ = some (.int .u8 e.k)
  c2 : w.cell? ⟨g, off + 2, none⟩ = some (.int .i64 e.a)
  c3 : w.cell? ⟨g, off + 3, none⟩ = some (.int .i64 e.to)
  c4 : w.cell? ⟨g, off + 4, none⟩ = some (.int .i64 e.el)
def EndsV (w : World) (v : Value) (es : List En) : Prop := SlV 5 EndCells En.zero w v es
theorem EndCells.below {w w' : World} {g off : Nat} {e : En} (h : EndCells w g off e) (hB : Below w.heap.size w w') : EndCells w' g off e :=
  ⟨cell_below hB h.c1, cell_below hB h.c2, cell_below hB h.c3, cell_below hB h.c4⟩
theorem EndsV.below {w w' : World} {v : Value} {es : List En} (h : EndsV w v es) (hB : Below w.heap.size w w') : EndsV w' v es := SlV.mono h fun _ _ _ h => h.below hB
theorem EndsV.slice {w : World} {v : Value} {es : List En} (h : EndsV w v es) : ∃ ao cap, v = .slice ao es.length cap := SlV.slice h
theorem BlksV.ends {w : World} {v : Value} {bs : List Blk} (h : BlksV w v bs) : EndsV w v (bs.map (·.e)) := by
  obtain ⟨ao, cap, h1, h2, h3, h4, h5⟩ := h
  refine ⟨ao, cap, by rw [List.length_map]; exact h1, by rw [List.length_map]; exact h2, h3, h4, fun h0 => ?_⟩
  obtain ⟨b, off, e, hc⟩ := h5 (by rw [List.length_map] at h0; exact h0)
  refine ⟨b, off, e, fun j hj => ?_⟩
  rw [List.length_map] at hj
  obtain ⟨u, hb, _⟩ := hc j hj
  have hd : (bs.map (·.e)).getD j En.zero = (bs.getD j Blk.zero).e := by simp [hj]
  rw [hd]
  exact ⟨hb.c1, hb.c2, hb.c3, hb.c4⟩
/-- The end of block j, loaded. -/
theorem EndsV.end {w : World} {ao : Option Addr} {n c : Nat} {es : List En} (h : EndsV w (.slice ao n c) es) (j : Nat) (hj : j < es.length) : ∃ b off, ao = some ⟨b, off, none⟩ ∧ EndCells w b (off + j * 5) (es.getD j En.zero) := SlV.at h j hj
theorem endsIn_of {bs : List Blk} (h : ∀ b ∈ bs, ∀ x ∈ targets b.e, 0 ≤ x ∧ x < bs.length) : EndsIn (bs.map (·.e)) := by
  intro e he x hx
  obtain ⟨b, hb, rfl⟩ := List.mem_map.1 he
  rw [List.length_map]
  exact h b hb x ((fol_mem _ _).1 hx)

theorem own1 (w : World) (k : Int) (a t l x : Int) : ArgsO w.heap.size ((w.alloc (.cells #[.int .u8 k, .int .i64 a, .int .i64 t, .int .i64 l] 67)).alloc (.cells #[.int .i64 x] 3)) (.slice (some ⟨w.heap.size + 1, 0, none⟩) 1 1) [x] := by
  have := args_one (w.alloc (.cells #[.int .u8 k, .int .i64 a, .int .i64 t, .int .i64 l] 67)) w.heap.size (by simp) x
  simpa only [World.size_alloc] using this
theorem own2 (w : World) (k : Int) (a t l x y : Int) : ArgsO w.heap.size ((w.alloc (.cells #[.int .u8 k, .int .i64 a, .int .i64 t, .int .i64 l] 67)).alloc (.cells #[.int .i64 x, .int .i64 y] 3)) (.slice (some ⟨w.heap.size + 1, 0, none⟩) 2 2) [x, y] := by
  have := args_two (w.alloc (.cells #[.int .u8 k, .int .i64 a, .int .i64 t, .int .i64 l] 67)) w.heap.size (by simp) x y
  simpa only [World.size_alloc] using this
/-- What a Next answers. -/
def NextPost (w : World) (e : En) : Ending → World → Prop := fun r w' => ∃ u, r = .returned u ∧ ArgsO w.heap.size w' u (fol e) ∧ Below w.heap.size w w'
set_option maxHeartbeats 1000000 in
set_option maxRecDepth 100000 in
theorem next16 (e : En) (w : World) : Calls Try.prog 37 #[endV e] w (NextPost w e) := by
  obtain ⟨k, a, t, l⟩ := e
  unfold endV
  have H1 := hide (own1 w k a t l t)
  have H2 := hide (own2 w k a t l t l)
  have HB := hide (fun o : Obj => bel2' w (.cells #[.int .u8 k, .int .i64 a, .int .i64 t, .int .i64 l] 67) o)
  have HB1 := hide (bel1' w (.cells #[.int .u8 k, .int .i64 a, .int .i64 t, .int .i64 l] 67))
  by_cases k1 : k = 1
  · subst k1
    go_enter Try.func37, Try.ntmps37
    go_wp2_with fail
    go_ret
    exact ⟨_, rfl, by simpa [fol] using H1.out, HB.out _⟩
  · have b1 : (k == 1) = false := by simpa using k1
    by_cases k2 : k = 2
    · subst k2
      by_cases h : t = l
      · subst h
        go_enter Try.func37, Try.ntmps37
        go_wp2_with fail
        go_ret
        exact ⟨_, rfl, by simpa [fol] using H1.out, HB.out _⟩
      · have b2 : (t == l) = false := by simpa using h
        have hf : fol ⟨2, a, t, l⟩ = [t, l] := by simp [fol, h]
        rw [← hf] at H2
        clear h hf
        go_enter Try.func37, Try.ntmps37
        go_wp2_with fail
        go_ret
        exact ⟨_, rfl, H2.out, HB.out _⟩
    · have b2 : (k == 2) = false := by simpa using k2
      have hf : fol ⟨k, a, t, l⟩ = [] := by simp [fol, k1, k2]
      unfold NextPost
      rw [hf]
      clear hf k1 k2
      go_enter Try.func37, Try.ntmps37
      go_wp2_with fail
      go_ret
      exact ⟨_, rfl, ArgsO.nil _ _, HB1.out⟩
set_option maxHeartbeats 1000000 in
set_option maxRecDepth 100000 in
theorem next17 (e : En) (w : World) : Calls Try.prog 24 #[endV e] w (NextPost w e) := by
  obtain ⟨k, a, t, l⟩ := e
  unfold endV
  have H1 := hide (own1 w k a t l t)
  have H2 := hide (own2 w k a t l t l)
  have HB := hide (fun o : Obj => bel2' w (.cells #[.int .u8 k, .int .i64 a, .int .i64 t, .int .i64 l] 67) o)
  have HB1 := hide (bel1' w (.cells #[.int .u8 k, .int .i64 a, .int .i64 t, .int .i64 l] 67))
  by_cases k1 : k = 1
  · subst k1
    go_enter Try.func24, Try.ntmps24
    go_wp2_with fail
    go_ret
    exact ⟨_, rfl, by simpa [fol] using H1.out, HB.out _⟩
  · have b1 : (k == 1) = false := by simpa using k1
    by_cases k2 : k = 2
    · subst k2
      by_cases h : t = l
      · subst h
        go_enter Try.func24, Try.ntmps24
        go_wp2_with fail
        go_ret
        exact ⟨_, rfl, by simpa [fol] using H1.out, HB.out _⟩
      · have b2 : (t == l) = false := by simpa using h
        have hf : fol ⟨2, a, t, l⟩ = [t, l] := by simp [fol, h]
        rw [← hf] at H2
        clear h hf
        go_enter Try.func24, Try.ntmps24
        go_wp2_with fail
        go_ret
        exact ⟨_, rfl, H2.out, HB.out _⟩
    · have b2 : (k == 2) = false := by simpa using k2
      have hf : fol ⟨k, a, t, l⟩ = [] := by simp [fol, k1, k2]
      unfold NextPost
      rw [hf]
      clear hf k1 k2
      go_enter Try.func24, Try.ntmps24
      go_wp2_with fail
      go_ret
      exact ⟨_, rfl, ArgsO.nil _ _, HB1.out⟩
end Go.Proofs.Ytblcbccchlljhaa
