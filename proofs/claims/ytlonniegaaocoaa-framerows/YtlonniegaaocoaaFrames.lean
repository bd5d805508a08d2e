/- Frames in memory: a slice of structs, each a kind and a slice of bytes; such a row that the call itself has gathered. -/
import Derived.Test.YtlonniegaaocoaaTake
import Derived.Test.YtlonniegaaocoaaRefLay
namespace Go.Proofs.Ytlonniegaaocoaa
open Go.RowKit

/-- A frame lies at block b, off. -/
def FrmAt (w : World) (b off : Nat) (f : Int × List Int) : Prop :=
  w.cell? ⟨b, off, none⟩ = some (.int .u8 f.1) ∧ 0 ≤ f.1 ∧ f.1 < 256 ∧ ∃ u, w.cell? ⟨b, off + 1, none⟩ = some u ∧ Byt w u f.2

theorem FrmAt.below {w w' : World} {b off : Nat} {f : Int × List Int} (h : FrmAt w b off f) (hB : Below w.heap.size w w') : FrmAt w' b off f := by
  obtain ⟨h1, h2, h3, u, h4, h5⟩ := h
  exact ⟨(hB.cell (p := ⟨b, off, none⟩) (World.block_lt_of_cell? w _ h1)).trans h1, h2, h3, u, (hB.cell (p := ⟨b, off + 1, none⟩) (World.block_lt_of_cell? w _ h4)).trans h4, h5.below hB⟩

/-- The slice value v leads to the frames fs. -/
def Frames (w : World) (v : Value) (fs : List (Int × List Int)) : Prop :=
  ∃ ao cap, v = .slice ao fs.length cap ∧ (0 < fs.length → ∃ b off, ao = some ⟨b, off, none⟩ ∧ ∀ j, j < fs.length → FrmAt w b (off + j * 2) (fs.getD j (0, [])))

theorem Frames.below {w w' : World} {v : Value} {fs : List (Int × List Int)} (h : Frames w v fs) (hB : Below w.heap.size w w') : Frames w' v fs := by
  obtain ⟨ao, cap, e, h⟩ := h
  refine ⟨ao, cap, e, fun h0 => ?_⟩
  obtain ⟨b, off, e2, hc⟩ := h h0
  exact ⟨b, off, e2, fun j hj => (hc j hj).below hB⟩
theorem Frames.slice {w : World} {v : Value} {fs : List (Int × List Int)} (h : Frames w v fs) : ∃ ao cap, v = .slice ao fs.length cap := by
  obtain ⟨ao, cap, e, _⟩ := h
  exact ⟨ao, cap, e⟩
theorem Frames.at {w : World} {ao : Option Addr} {n cap : Nat} {fs : List (Int × List Int)} (h : Frames w (.slice ao n cap) fs) (j : Nat) (hj : j < fs.length) : ∃ b off, ao = some ⟨b, off, none⟩ ∧ FrmAt w b (off + j * 2) (fs.getD j (0, [])) := by
  obtain ⟨ao', cap', e, h⟩ := h
  obtain ⟨b, off, e2, hc⟩ := h (by omega)
  simp only [Value.slice.injEq] at e
  exact ⟨b, off, e.1.trans e2, hc j hj⟩

theorem BytAt.grow {b : Nat} {w w' : World} {v : Value} {xs : List Int} {row : Option Nat} (h : BytAt b w v xs) (hg : w.grownBy w' row) (hq : 0 < xs.length → some b ≠ row) : BytAt b w' v xs := by
  obtain ⟨h0, ao, cap, h1, h2, h3, h3', h4⟩ := h
  refine ⟨h0, ao, cap, h1, h2, h3, h3', fun hp => ?_⟩
  obtain ⟨off, e, hc⟩ := h4 hp
  exact ⟨off, e, fun j hj => hg.cell (hc j hj) (hq hp)⟩

/-- Bytes beside a row that is no row of bytes stay, whatever becomes of that row. -/
theorem Sided.grow {B : Nat} {w w' : World} {v o : Value} {xs : List Int} {n : Nat} {cs : List Value} (h : Sided B w v xs) (ho : w.ownsRow B 38 2 o n cs) (hg : w.grownBy w' o.ownBlock) : Sided B w' v xs := by
  obtain ⟨b, h1, h2⟩ := h
  have hlt := fun hp => h1.lt hp
  have hne : 0 < xs.length → some b ≠ o.ownBlock := by
    intro hp e
    rcases h2 hp with h | ⟨cs', fr, h⟩
    · have := (ho.lt b e.symm).1
      omega
    · rcases ho.2 with ⟨rfl, _⟩ | ⟨g, cap, cur, rfl, _, hgg, _⟩
      · simp [Value.ownBlock] at e
      · simp [Value.ownBlock] at e
        subst e
        rw [h] at hgg
        simp at hgg
  refine ⟨b, h1.grow hg hne, fun hp => ?_⟩
  rcases h2 hp with h | ⟨cs', fr, h⟩
  · exact .inl h
  · refine .inr ⟨cs', fr, ?_⟩
    rw [hg.block b (hlt hp) (hne hp)]
    exact h
theorem Sided.below {B : Nat} {w w' : World} {v : Value} {xs : List Int} (h : Sided B w v xs) (hB : Below w.heap.size w w') : Sided B w' v xs := by
  obtain ⟨b, h1, h2⟩ := h
  refine ⟨b, h1.below hB fun hp => h1.lt hp, fun hp => ?_⟩
  rcases h2 hp with h | ⟨cs', fr, h⟩
  · exact .inl h
  · refine .inr ⟨cs', fr, ?_⟩
    rw [hB.block b (h1.lt hp)]
    exact h

/-- The cells of structs. -/
def cellsF (us : List (Int × Value)) : List Value := us.flatMap fun p => [.int .u8 p.1, p.2]
theorem cellsF_len (us : List (Int × Value)) : (cellsF us).length = us.length * 2 := by
  induction us with
  | nil => rfl
  | cons p us ih => simp [cellsF] at *; omega
theorem cellsF_get : ∀ (us : List (Int × Value)) (j : Nat), j < us.length → (cellsF us)[j * 2]? = some (.int .u8 (us.getD j (0, .bool false)).1) ∧ (cellsF us)[j * 2 + 1]? = some (us.getD j (0, .bool false)).2
  | [], j, h => by simp at h
  | p :: us, 0, _ => by simp [cellsF]
  | p :: us, j + 1, h => by
    have := cellsF_get us j (by simpa using h)
    simpa [cellsF, Nat.add_mul] using this
theorem cellsF_snoc (us : List (Int × Value)) (k : Int) (u : Value) : cellsF (us ++ [(k, u)]) = cellsF us ++ [.int .u8 k, u] := by simp [cellsF]

/-- Values of frames. -/
def EachF (B : Nat) (w : World) : List (Int × Value) → List (Int × List Int) → Prop
  | [], [] => True
  | p :: us, f :: fs => (p.1 = f.1 ∧ 0 ≤ f.1 ∧ f.1 < 256 ∧ Sided B w p.2 f.2) ∧ EachF B w us fs
  | _, _ => False
theorem EachF.len {B : Nat} {w : World} : ∀ {us : List (Int × Value)} {fs : List (Int × List Int)}, EachF B w us fs → us.length = fs.length
  | [], [], _ => rfl
  | _ :: us, _ :: fs, h => by have := EachF.len h.2; simp [this]
  | [], _ :: _, h => h.elim
  | _ :: _, [], h => h.elim
theorem EachF.get {B : Nat} {w : World} : ∀ {us : List (Int × Value)} {fs : List (Int × List Int)}, EachF B w us fs → ∀ j, j < fs.length → (us.getD j (0, .bool false)).1 = (fs.getD j (0, [])).1 ∧ 0 ≤ (fs.getD j (0, [])).1 ∧ (fs.getD j (0, [])).1 < 256 ∧ Sided B w (us.getD j (0, .bool false)).2 (fs.getD j (0, [])).2
  | [], [], _, j, hj => by simp at hj
  | p :: us, f :: fs, h, 0, _ => h.1
  | p :: us, f :: fs, h, j + 1, hj => by
    have := EachF.get h.2 j (by simpa using hj)
    simpa using this
  | [], _ :: _, h, _, _ => h.elim
  | _ :: _, [], h, _, _ => h.elim
theorem EachF.snoc {B : Nat} {w : World} {k : Int} {u : Value} {xs : List Int} (h0 : 0 ≤ k) (h1 : k < 256) (hu : Sided B w u xs) : ∀ {us : List (Int × Value)} {fs : List (Int × List Int)}, EachF B w us fs → EachF B w (us ++ [(k, u)]) (fs ++ [(k, xs)])
  | [], [], _ => ⟨⟨rfl, h0, h1, hu⟩, trivial⟩
  | _ :: _, _ :: _, h => ⟨h.1, EachF.snoc h0 h1 hu h.2⟩
  | [], _ :: _, h => h.elim
  | _ :: _, [], h => h.elim
theorem EachF.mono {B : Nat} {w w' : World} (hm : ∀ v xs, Sided B w v xs → Sided B w' v xs) : ∀ {us : List (Int × Value)} {fs : List (Int × List Int)}, EachF B w us fs → EachF B w' us fs
  | [], [], _ => trivial
  | _ :: _, _ :: _, h => ⟨⟨h.1.1, h.1.2.1, h.1.2.2.1, hm _ _ h.1.2.2.2⟩, EachF.mono hm h.2⟩
  | [], _ :: _, h => h.elim
  | _ :: _, [], h => h.elim

theorem Frames.of_owns {B : Nat} {w : World} {v : Value} {us : List (Int × Value)} {fs : List (Int × List Int)} (h : w.ownsRow B 38 2 v fs.length (cellsF us)) (he : EachF B w us fs) : Frames w v fs := by
  have hl := he.len
  rcases h.2 with ⟨rfl, h0⟩ | ⟨g, cap, cur, rfl, _, hg, hnc, hcm, _, _⟩
  · exact ⟨none, 0, by rw [h0], fun hp => by omega⟩
  · refine ⟨_, cap, rfl, fun _ => ⟨g, 0, rfl, fun j hj => ?_⟩⟩
    obtain ⟨e1, e2, e3, e4⟩ := he.get j hj
    obtain ⟨c1, c2⟩ := cellsF_get us j (by omega)
    have k1 := h.cellAt (j * 2) (by omega)
    have k2 := h.cellAt (j * 2 + 1) (by omega)
    rw [c1] at k1
    rw [c2] at k2
    rw [e1] at k1
    simp only [Nat.zero_add]
    exact ⟨k1, e2, e3, _, k2, e4.byt⟩
theorem info38 : (Try.prog.info? 38).map (fun i => (i.zero, i.size, i.bytes)) = some (some (.agg #[.int .u8 0, .slice none 0 0]), 2, 32) := by kernel_rfl
end Go.Proofs.Ytlonniegaaocoaa
