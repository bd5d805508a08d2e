/- PathsTurned: an edge more, in memory and by the document. -/
import Derived.Test.YtgckpmaajmlijaaTd
namespace Go.Proofs.Ytgckpmaajmlijaa
open Go Go.RowKit Ir Wy

/-- An end is stored. -/
def setE (W : World) (g o : Nat) (e : En) : World := (((W.setCell ⟨g, o + 1, none⟩ (.int .u8 e.k)).setCell ⟨g, o + 1 + 1, none⟩ (.int .i64 e.a)).setCell ⟨g, o + 1 + 2, none⟩ (.int .i64 e.to)).setCell ⟨g, o + 1 + 3, none⟩ (.int .i64 e.el)
theorem set_other {W : World} {g g' i j : Nat} {y : Value} (h : g' ≠ g ∨ j ≠ i) : (W.setCell ⟨g, i, none⟩ y).cell? ⟨g', j, none⟩ = W.cell? ⟨g', j, none⟩ :=
  World.cell?_setCell_other (w := W) (a := ⟨g, i, none⟩) (b := ⟨g', j, none⟩) (v := y) (by
    intro e
    simp only [Addr.mk.injEq] at e
    rcases h with h | h
    · exact h e.1.symm
    · exact h e.2.1.symm)
theorem setE_other {W : World} {g g' o j : Nat} {e : En} (h : g' ≠ g ∨ j ≠ o + 1 ∧ j ≠ o + 2 ∧ j ≠ o + 3 ∧ j ≠ o + 4) : (setE W g o e).cell? ⟨g', j, none⟩ = W.cell? ⟨g', j, none⟩ := by
  unfold setE
  rw [set_other (by omega), set_other (by omega), set_other (by omega), set_other (by omega)]
theorem setE_end {W : World} {g o : Nat} {e0 : En} (h : EndCells W g o e0) (e : En) : EndCells (setE W g o e) g o e := by
  have same : ∀ (W : World) (i : Nat) (y x : Value), W.cell? ⟨g, i, none⟩ = some x → (W.setCell ⟨g, i, none⟩ y).cell? ⟨g, i, none⟩ = some y := fun W i y x h => World.cell?_setCell_same (w := W) (a := ⟨g, i, none⟩) (v := y) h
  unfold setE
  simp only [show o + 1 + 1 = o + 2 from rfl, show o + 1 + 2 = o + 3 from rfl, show o + 1 + 3 = o + 4 from rfl]
  constructor
  · rw [set_other (by omega), set_other (by omega), set_other (by omega)]
    exact same _ _ _ _ h.c1
  · rw [set_other (by omega), set_other (by omega)]
    exact same _ _ _ _ (by rw [set_other (by omega)]; exact h.c2)
  · rw [set_other (by omega)]
    exact same _ _ _ _ (by rw [set_other (by omega), set_other (by omega)]; exact h.c3)
  · exact same _ _ _ _ (by rw [set_other (by omega), set_other (by omega), set_other (by omega)]; exact h.c4)
/-- What the walk asks where it stores an end, part by part. -/
theorem setE_facts {W : World} {g o : Nat} {e0 : En} (h : EndCells W g o e0) (k a t : Int) :
    W.cell? ⟨g, o + 1 + 1, none⟩ = some (.int .i64 e0.a) ∧ W.cell? ⟨g, o + 1 + 2, none⟩ = some (.int .i64 e0.to) ∧ W.cell? ⟨g, o + 1 + 3, none⟩ = some (.int .i64 e0.el) ∧
    ((W.setCell ⟨g, o + 1, none⟩ (.int .u8 k)).cell? ⟨g, o + 1 + 1, none⟩ = some (.int .i64 e0.a)) ∧
    (((W.setCell ⟨g, o + 1, none⟩ (.int .u8 k)).setCell ⟨g, o + 1 + 1, none⟩ (.int .i64 a)).cell? ⟨g, o + 1 + 2, none⟩ = some (.int .i64 e0.to)) ∧
    ((((W.setCell ⟨g, o + 1, none⟩ (.int .u8 k)).setCell ⟨g, o + 1 + 1, none⟩ (.int .i64 a)).setCell ⟨g, o + 1 + 2, none⟩ (.int .i64 t)).cell? ⟨g, o + 1 + 3, none⟩ = some (.int .i64 e0.el)) := by
  refine ⟨h.c2, h.c3, h.c4, ?_, ?_, ?_⟩
  · rw [set_other (by omega)]; exact h.c2
  · rw [set_other (by omega), set_other (by omega)]; exact h.c3
  · rw [set_other (by omega), set_other (by omega), set_other (by omega)]; exact h.c4
theorem setE_grown (W : World) (g o : Nat) (e : En) : W.grownBy (setE W g o e) (some g) :=
  grown_trans (grown_trans (grown_trans (grown_set _ g _ _) (grown_set _ g _ _)) (grown_set _ g _ _)) (grown_set _ g _ _)
theorem EndsV.setE {W : World} {g n c b : Nat} {es : List En} (h : EndsV W (.slice (some ⟨g, 0, none⟩) n c) es) (hb : b < es.length) (e : En) : EndsV (setE W g (b * 5) e) (.slice (some ⟨g, 0, none⟩) n c) (es.set b e) := by
  have hend := fun j hj => EndsV.end h j hj
  obtain ⟨ao, cap, h1, h2, h3, h4, h5⟩ := h
  refine ⟨ao, cap, by rw [List.length_set]; exact h1, by rw [List.length_set]; exact h2, h3, h4, fun _ => ?_⟩
  simp only [Value.slice.injEq] at h1
  refine ⟨g, 0, h1.1.symm, fun j hj => ?_⟩
  rw [List.length_set] at hj
  obtain ⟨b', off, e1, hc⟩ := hend j hj
  simp only [Option.some.injEq, Addr.mk.injEq, and_true] at e1
  obtain ⟨rfl, rfl⟩ := e1
  rw [Nat.zero_add] at hc ⊢
  by_cases hjb : j = b
  · subst hjb
    have : (es.set j e).getD j En.zero = e := by simp [hj]
    rw [this]
    exact setE_end hc e
  · have : (es.set b e).getD j En.zero = es.getD j En.zero := by simp [Ne.symm hjb]
    rw [this]
    exact ⟨(setE_other (.inr (by omega))).trans hc.c1, (setE_other (.inr (by omega))).trans hc.c2, (setE_other (.inr (by omega))).trans hc.c3, (setE_other (.inr (by omega))).trans hc.c4⟩
theorem EndsV.setE_other {W : World} {g o : Nat} {v : Value} {es : List En} (h : EndsV W v es) (hne : v.ownBlock ≠ some g) (e : En) : EndsV (Proofs.Ytgckpmaajmlijaa.setE W g o e) v es := by
  obtain ⟨ao, cap, rfl, h2, h3, h4, h5⟩ := h
  refine ⟨ao, cap, rfl, h2, h3, h4, fun h0 => ?_⟩
  obtain ⟨b, off, rfl, hc⟩ := h5 h0
  refine ⟨b, off, rfl, fun j hj => ?_⟩
  have hb : b ≠ g := fun e => hne (by rw [e]; rfl)
  have hc := hc j hj
  exact ⟨(Proofs.Ytgckpmaajmlijaa.setE_other (.inl hb)).trans hc.c1, (Proofs.Ytgckpmaajmlijaa.setE_other (.inl hb)).trans hc.c2, (Proofs.Ytgckpmaajmlijaa.setE_other (.inl hb)).trans hc.c3, (Proofs.Ytgckpmaajmlijaa.setE_other (.inl hb)).trans hc.c4⟩
theorem BlksO.form {B : Nat} {W : World} {v : Value} {bs : List Blk} (h : BlksO B W v bs) (h0 : 0 < bs.length) : ∃ g cap, v = .slice (some ⟨g, 0, none⟩) bs.length cap ∧ B ≤ g ∧ ∃ cs, W.heap[g]? = some (Obj.cells cs 49 (0, 0)) := by
  obtain ⟨ps, rfl, h2, _⟩ := h
  rcases h2.2 with ⟨rfl, h0'⟩ | ⟨g, cap, cur, rfl, hB, hg, _⟩
  · rw [List.length_map] at h0
    omega
  · exact ⟨g, cap, by rw [List.length_map], hB, cur, hg⟩

theorem nxE_set {es : List En} {b : Nat} (hb : b < es.length) (e' : En) (x : Nat) : nxE (es.set b e') x = if x = b then (fol e').map Int.toNat else nxE es x := by
  unfold nxE
  by_cases h : x = b
  · subst h
    have : (es.set x e').getD x En.zero = e' := by simp [hb]
    rw [this, if_pos rfl]
  · have : (es.set b e').getD x En.zero = es.getD x En.zero := by simp [Ne.symm h]
    rw [this, if_neg h]
/-- With an edge more, to n, whatever was come to still is; n too, if what it goes from was. -/
theorem turned_ok {es : List En} (hin : EndsIn es) (h0 : 0 < es.length) {b n : Nat} (hb : b < es.length) (hn : n < es.length) (e' : En) (hsub : ∀ x ∈ fol (es.getD b En.zero), x ∈ fol e') (hnot : ∀ x ∈ fol e', x ∈ fol (es.getD b En.zero) ∨ x = (n : Int)) (hnew : (n : Int) ∈ fol e') :
    EndsIn (es.set b e') ∧ (∀ x, rF es x = true → rF (es.set b e') x = true) ∧ (rF es b = true → rF (es.set b e') n = true) := by
  have hin' : EndsIn (es.set b e') := by
    intro e he x hx
    rw [List.length_set]
    rcases List.mem_or_eq_of_mem_set he with h | rfl
    · exact hin e h x hx
    · rcases hnot x hx with h | rfl
      · exact hin.at b x h
      · omega
  have h0' : 0 < (es.set b e').length := by rw [List.length_set]; exact h0
  have hmono : ∀ x c, c ∈ nxE es x → c ∈ nxE (es.set b e') x := by
    intro x c hc
    rw [nxE_set hb]
    by_cases h : x = b
    · subst h
      rw [if_pos rfl]
      obtain ⟨y, hy, rfl⟩ := List.mem_map.1 hc
      exact List.mem_map.2 ⟨y, hsub y hy, rfl⟩
    · rw [if_neg h]
      exact hc
  have hall : ∀ x, rF es x = true → rF (es.set b e') x = true := fun x h => (rF_rch hin' h0' x).2 (((rF_rch hin h0 x).1 h).mono hmono)
  refine ⟨hin', hall, fun h => rF_next hin' h0' (hall b h) ?_⟩
  rw [nxE_set hb, if_pos rfl]
  exact List.mem_map.2 ⟨(n : Int), hnew, by simp⟩
theorem same_mono {f g : Nat → Bool} (h : ∀ x, f x = true → g x = true) : Bg.same (fun y => g y || f y) g 4096 = true := by
  rw [Bg.same_yes]
  intro x _
  cases hf : f x
  · simp
  · simp [h x hf]
end Go.Proofs.Ytgckpmaajmlijaa
