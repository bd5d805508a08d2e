/- A queue of numbers, all of whose blocks lie above a bound: what its methods do. -/
import Derived.Test.YtblcbccchlljhaaQi
import Derived.Test.YtblcbccchlljhaaWy
namespace Go.Proofs.Ytblcbccchlljhaa
open Go.RowKit Ir Wy Go.Maps Go.WideMaps

theorem queV_chg {S : Nat → Prop} {w w' : World} {b N : Nat} {v : Value} {mo : Option Nat} {l : List Nat} {D : DT} (h : Bg.QueV w b v mo N l D) (k : Bg.Chg S w w') (hb : ¬ S b) (hm : ∀ m, mo = some m → ¬ S m) (hv : ∀ g, v.ownBlock = some g → ¬ S g) : Bg.QueV w' b v mo N l D := by
  obtain ⟨t, ht⟩ := h.cell
  exact ⟨⟨t, (k.block b (Array.getElem?_eq_some_iff.1 ht).1 hb).trans ht⟩, h.row.chg k hv, h.rne, h.nil, fun m e => ⟨(h.own m e).1, (h.own m e).2.1, Bg.map_chg (h.own m e).2.2 k (hm m e)⟩, h.dat⟩
theorem queV_more {w : World} {b N M : Nat} {v : Value} {mo : Option Nat} {l : List Nat} {D : DT} (h : Bg.QueV w b v mo N l D) (hM : N ≤ M) : Bg.QueV w b v mo M l D :=
  ⟨h.cell, h.row, h.rne, h.nil, fun m e => ⟨(h.own m e).1, (h.own m e).2.1, World.ownsMap.mono (h.own m e).2.2 hM⟩, ⟨h.dat.key, h.dat.map, h.dat.nodup⟩⟩
/-- The queue in block q holds l. -/
def Que (B : Nat) (w : World) (q N : Nat) (l : List Nat) : Prop := ∃ v mo D, Bg.QueV w q v mo N l D ∧ B ≤ q ∧ (∀ m, mo = some m → B ≤ m) ∧ ∀ k, v.ownBlock = some k → B ≤ k
theorem Que.nodup {B q N : Nat} {w : World} {l : List Nat} (h : Que B w q N l) : l.Nodup := by
  obtain ⟨v, mo, D, h1, _⟩ := h
  exact h1.dat.nodup
theorem Que.chg {S : Nat → Prop} {B q N : Nat} {w w' : World} {l : List Nat} (h : Que B w q N l) (k : Bg.Chg S w w') (hS : ∀ j, S j → j < B) : Que B w' q N l := by
  obtain ⟨v, mo, D, h1, h2, h3, h4⟩ := h
  refine ⟨v, mo, D, queV_chg h1 k (fun e => by have := hS _ e; omega) (fun m e e1 => ?_) (fun g e e1 => ?_), h2, h3, h4⟩
  · have := hS _ e1; have := h3 m e; omega
  · have := hS _ e1; have := h4 g e; omega
/-- One more, if it isn't there. -/
def put1 (l : List Nat) (k : Nat) : List Nat := if k ∈ l then l else l ++ [k]
theorem put1_sub {l : List Nat} {k y : Nat} (h : y ∈ l) : y ∈ put1 l k := by
  unfold put1
  split
  · exact h
  · exact List.mem_append.2 (.inl h)
theorem put1_self (l : List Nat) (k : Nat) : k ∈ put1 l k := by
  unfold put1
  split
  · assumption
  · simp
theorem put1_mem {l : List Nat} {k y : Nat} (h : y ∈ put1 l k) : y ∈ l ∨ y = k := by
  unfold put1 at h
  split at h
  · exact .inl h
  · rcases List.mem_append.1 h with h | h
    · exact .inl h
    · exact .inr (by simpa using h)
theorem que_new (w : World) : Que w.heap.size (w.alloc (.cells #[.slice none 0 0, .map none] 85)) w.heap.size 0 [] :=
  ⟨.slice none 0 0, none, .map [], ⟨⟨85, heap_alloc_new w _⟩, Bg.RowW.nil _ _ _, by simp [Value.ownBlock], fun _ => rfl, fun m e => (by cases e), ⟨fun k => by simp [has], isMap_empty, by simp⟩⟩, Nat.le_refl _, fun m e => (by simp at e), fun k e => by simp [Value.ownBlock] at e⟩
theorem que_len {B q N : Nat} {w : World} {l : List Nat} (h : Que B w q N l) : Calls Try.prog 42 #[.pointer (some ⟨q, 0, none⟩)] w fun e w' => e = .returned (.int .i64 (l.length : Nat)) ∧ w' = w := by
  obtain ⟨v, mo, D, h1, _⟩ := h
  exact Bg.qlen_any q N v mo l D w h1
theorem que_put {B q N : Nat} {w : World} {l : List Nat} (h : Que B w q N l) (k : Nat) (hk : k < 4096) (hN : N < maxLen) (hl : l.length ≤ 1000000) (hB : B ≤ w.heap.size) : Calls Try.prog 41 #[.pointer (some ⟨q, 0, none⟩), .int .i64 (k : Int)] w fun e w' => ∃ r, e = .returned (.bool r) ∧ Que B w' q (N + 1) (put1 l k) ∧ Bg.Chg (fun j => B ≤ j) w w' := by
  obtain ⟨v, mo, D, h1, h2, h3, h4⟩ := h
  obtain ⟨p1, p2⟩ := Bg.qput_any q N v mo l D k w h1 hk hN hl
  by_cases hin : k ∈ l
  · refine (p1 hin).mono ?_
    rintro e w' ⟨rfl, hg⟩
    refine ⟨_, rfl, ?_, ⟨hg.os, hg.tape, hg.output, hg.size, fun j hj _ => hg.block j hj (by simp)⟩⟩
    rw [put1, if_pos hin]
    exact ⟨v, mo, D, queV_more (queV_chg h1 (Bg.Chg.gb0 (S := fun _ => False) hg) (fun e => e) (fun _ _ e => e) (fun _ _ e => e)) (by omega), h2, h3, h4⟩
  · refine (p2 hin).mono ?_
    rintro e w' ⟨rfl, v', m, hm, hv, hq, hc⟩
    refine ⟨_, rfl, ?_, hc.mono fun j hj e => ?_⟩
    · rw [put1, if_neg hin]
      refine ⟨v', some m, _, hq, h2, fun m' e => ?_, fun j e => ?_⟩
      · cases e
        rcases hm with e | e
        · exact h3 m e
        · omega
      · rcases hv with e1 | ⟨g, e1, e2⟩
        · rw [e1] at e; exact h4 j e
        · rw [e1] at e; cases e; omega
    · rcases e with e | e | e
      · rw [e]; exact h2
      · exact h3 j e
      · exact h4 j e
theorem que_take {B q N x : Nat} {w : World} {r : List Nat} (h : Que B w q N (x :: r)) (hk : x < 4096) : Calls Try.prog 43 #[.pointer (some ⟨q, 0, none⟩)] w fun e w' => e = .returned (.tuple #[.int .i64 (x : Int), .bool true]) ∧ Que B w' q N r ∧ Bg.Chg (fun j => B ≤ j) w w' := by
  obtain ⟨v, mo, D, h1, h2, h3, h4⟩ := h
  cases mo with
  | none =>
    have := (h1.dat.key x).2 (by simp)
    rw [h1.nil rfl] at this
    simp [has] at this
  | some m =>
    refine (Bg.qtake_cons q m N v x r D w h1 hk).mono ?_
    rintro e w' ⟨rfl, v', hv, hq, hc⟩
    refine ⟨rfl, ⟨v', some m, _, hq, h2, h3, fun k e => h4 k (by rw [← hv]; exact e)⟩, hc.mono fun j hj e => ?_⟩
    rcases e with e | e | e
    · rw [e]; exact h2
    · rw [e]; exact h3 m rfl
    · exact h4 j e
/-- A table of rows stays where all but some blocks stay. -/
theorem RowsO.chg {S : Nat → Prop} {B g n : Nat} {w w' : World} {V : Nat → Value} {R : Nat → List Int} (h : RowsO B g n w V R) (k : Bg.Chg S w w') (hg : ¬ S g) (hr : ∀ b, b < n → ∀ j, (V b).ownBlock = some j → ¬ S j) : RowsO B g n w' V R :=
  h.keep (k.block g h.lt hg) fun b hb j hj => k.block j ((h.row b hb).lt j hj).2 (hr b hb j hj)
end Go.Proofs.Ytblcbccchlljhaa
