/- The maker: it takes numbers from bytes. -/
import Derived.Test.YtepmbkiojpffpaaMem
namespace Go.Proofs.Ytepmbkiojpffpaa
open Go.RowKit Ir

/-- The value of 'b[1:]'. -/
def tailV (ao : Option Addr) (cap n : Nat) : Value := .slice (if cap = 1 then ao else ao.map fun x => (⟨x.block, x.off + 1, none⟩ : Addr)) (n - 1) (cap - 1)
theorem run_tail {ao : Option Addr} {n cap : Nat} (hj : 1 ≤ n) (W : World) : (Instr.sliceAt 22 (.slice ao n cap) (some (.int .i64 1)) none none).run Try.prog W = .ok (tailV ao cap n) W := by
  have h1 : (1 : Int) ≤ (n : Int) := by omega
  go_simp
  simp [tailV]
theorem Byt.tail {w : World} {ao : Option Addr} {cap : Nat} {x : Int} {xs : List Int} (h : Byt w (.slice ao (xs.length + 1) cap) (x :: xs)) : Byt w (tailV ao cap (xs.length + 1)) xs := by
  obtain ⟨ao', cap', e, h2, h3, h4, h5⟩ := h
  simp only [Value.slice.injEq, List.length_cons, true_and] at e
  obtain ⟨rfl, rfl⟩ := e
  simp only [List.length_cons] at h2
  refine ⟨_, cap - 1, rfl, by omega, by omega, ?_, fun h0 => ?_⟩
  · intro e
    split at e
    · omega
    · cases ao with
      | none => have := h4 rfl; omega
      | some a => simp at e
  · obtain ⟨b, off, rfl, hc⟩ := h5 (by simp)
    refine ⟨b, off + 1, ?_, fun j hj => ?_⟩
    · rw [if_neg (by omega), Option.map_some]
    · have := hc (j + 1) (by simp; omega)
      simpa [Nat.add_assoc, Nat.add_comm 1 j] using this

/-- Bytes that lie below block B. -/
def BytB (B : Nat) (w : World) (v : Value) (xs : List Int) : Prop := SlV 1 (fun w b off x => BytAt w b off x ∧ b < B) 0 w v xs
theorem BytB.of {B : Nat} {w : World} {v : Value} {xs : List Int} (h : Byt w v xs) (hB : w.heap.size ≤ B) : BytB B w v xs := by
  obtain ⟨ao, cap, h1, h2, h3, h4, h5⟩ := h
  refine ⟨ao, cap, h1, h2, h3, h4, fun h0 => ?_⟩
  obtain ⟨b, off, e, hc⟩ := h5 h0
  exact ⟨b, off, e, fun j hj => ⟨hc j hj, Nat.lt_of_lt_of_le (World.block_lt_of_cell? w _ (hc j hj).1) hB⟩⟩
theorem BytB.byt {B : Nat} {w : World} {v : Value} {xs : List Int} (h : BytB B w v xs) : Byt w v xs := by
  obtain ⟨ao, cap, h1, h2, h3, h4, h5⟩ := h
  refine ⟨ao, cap, h1, h2, h3, h4, fun h0 => ?_⟩
  obtain ⟨b, off, e, hc⟩ := h5 h0
  exact ⟨b, off, e, fun j hj => (hc j hj).1⟩
theorem BytB.kept {B : Nat} {w w' : World} {v : Value} {xs : List Int} (h : BytB B w v xs) (hk : ∀ b, b < B → w'.heap[b]? = w.heap[b]?) : BytB B w' v xs :=
  SlV.mono h fun b off _ hx => ⟨⟨(World.cell?_of_block (a := ⟨b, off, none⟩) (hk b hx.2)).trans hx.1.1, hx.1.2⟩, hx.2⟩
theorem BytB.tail {B : Nat} {w : World} {ao : Option Addr} {cap : Nat} {x : Int} {xs : List Int} (h : BytB B w (.slice ao (xs.length + 1) cap) (x :: xs)) : BytB B w (tailV ao cap (xs.length + 1)) xs := by
  obtain ⟨ao1, cap1, e1, h2, h3, h4, h5⟩ := h.byt.tail
  refine ⟨ao1, cap1, e1, h2, h3, h4, fun h0 => ?_⟩
  obtain ⟨b, off, e, hc⟩ := h5 h0
  obtain ⟨ao', cap', e', _, _, _, h5'⟩ := h
  obtain ⟨b', off', e2, hc'⟩ := h5' (by simp)
  have hb' := (hc' 0 (by simp)).2
  simp only [Value.slice.injEq] at e'
  have hbb : b = b' := by
    unfold tailV at e1
    simp only [Value.slice.injEq] at e1
    have q := e1.1
    rw [e, e'.1, e2] at q
    split at q <;> simp at q <;> exact q.1.symm
  exact ⟨b, off, e, fun j hj => ⟨hc j hj, by rw [hbb]; exact hb'⟩⟩
theorem Byt.bts {w : World} {v : Value} {bs : List Int} (h : Byt w v bs) : Bts bs := by
  obtain ⟨ao, cap, _, _, _, _, h5⟩ := h
  intro x hx
  obtain ⟨j, hj, rfl⟩ := List.mem_iff_getElem.1 hx
  obtain ⟨b, off, _, hc⟩ := h5 (by omega)
  have := (hc j hj).2
  simpa [List.getElem?_eq_getElem hj] using this

/-- A maker lies at block pm; these bytes are left, below block B. -/
def MkAt (B : Nat) (w : World) (pm : Nat) (bs : List Int) : Prop := B ≤ pm ∧ ∃ v, w.heap[pm]? = some (Obj.cells #[v] 81 (0, 0)) ∧ BytB B w v bs
theorem MkAt.cells {B : Nat} {w : World} {pm : Nat} {bs : List Int} (h : MkAt B w pm bs) : ∃ ao cap, w.cell? ⟨pm, 0, none⟩ = some (.slice ao bs.length cap) ∧ w.frozen? ⟨pm, 0, none⟩ = false ∧ BytB B w (.slice ao bs.length cap) bs := by
  obtain ⟨_, v, h1, h2⟩ := h
  obtain ⟨ao, cap, rfl⟩ := SlV.slice h2
  refine ⟨ao, cap, ?_, frozen_of_row _ _ _ _ _ h1, h2⟩
  rw [cell_of_row _ _ _ _ _ _ h1]
  rfl
theorem MkAt.lt {B : Nat} {w : World} {pm : Nat} {bs : List Int} (h : MkAt B w pm bs) : pm < w.heap.size := by
  obtain ⟨_, u, h1, _⟩ := h
  exact (Array.getElem?_eq_some_iff.1 h1).1
theorem grown_refl (w : World) (r : Option Nat) : w.grownBy w r := ⟨rfl, rfl, rfl, Nat.le_refl _, fun _ _ _ => rfl⟩
theorem grown_trans {w w1 w2 : World} {r : Option Nat} (h1 : w.grownBy w1 r) (h2 : w1.grownBy w2 r) : w.grownBy w2 r :=
  ⟨h2.os.trans h1.os, h2.tape.trans h1.tape, h2.output.trans h1.output, Nat.le_trans h1.size h2.size, fun k hk hr => (h2.block k (Nat.lt_of_lt_of_le hk h1.size) hr).trans (h1.block k hk hr)⟩
theorem grown_below {w w1 : World} (h : Below w.heap.size w w1) (r : Option Nat) : w.grownBy w1 r := ⟨h.os, h.tape, h.output, h.size, fun k hk _ => h.block k hk⟩
theorem grown_set (w : World) (p o : Nat) (u : Value) : w.grownBy (w.setCell ⟨p, o, none⟩ u) (some p) :=
  ⟨rfl, rfl, rfl, by simp [World.setCell], fun k _ hr => Below.heap_setCell _ _ _ _ (fun e => hr (by rw [e]))⟩
/-- What is changed but one block that is new, or one more. -/
theorem grown_own {w w1 w2 : World} {r s : Option Nat} (h1 : w.grownBy w1 r) (h2 : w1.grownBy w2 s) (hs : ∀ k, s = some k → w.heap.size ≤ k) : w.grownBy w2 r :=
  ⟨h2.os.trans h1.os, h2.tape.trans h1.tape, h2.output.trans h1.output, Nat.le_trans h1.size h2.size, fun k hk hr => (h2.block k (Nat.lt_of_lt_of_le hk h1.size) (fun e => by have := hs k e.symm; omega)).trans (h1.block k hk hr)⟩
theorem MkAt.set {B : Nat} {w : World} {pm : Nat} {bs cs : List Int} {v : Value} (h : MkAt B w pm bs) (hv : BytB B w v cs) : MkAt B (w.setCell ⟨pm, 0, none⟩ v) pm cs := by
  obtain ⟨h0, u, h1, h2⟩ := h
  refine ⟨h0, v, ?_, hv.kept fun b hb => Below.heap_setCell _ _ _ _ (by simp; omega)⟩
  rw [heap_setCell_same w pm 0 _ _ v h1]
  rfl
/-- A change that leaves the maker's block, and what is below B. -/
theorem MkAt.kept {B : Nat} {w w' : World} {pm : Nat} {bs : List Int} (h : MkAt B w pm bs) (hp : w'.heap[pm]? = w.heap[pm]?) (hB : ∀ b, b < B → w'.heap[b]? = w.heap[b]?) : MkAt B w' pm bs := by
  obtain ⟨h0, u, h1, h2⟩ := h
  exact ⟨h0, u, by rw [hp]; exact h1, h2.kept hB⟩
theorem MkAt.grown {B : Nat} {w w' : World} {pm : Nat} {bs : List Int} {s : Option Nat} (h : MkAt B w pm bs) (hg : w.grownBy w' s) (hB : B ≤ w.heap.size) (hs : ∀ k, s = some k → B ≤ k ∧ k ≠ pm) : MkAt B w' pm bs :=
  h.kept (hg.block pm h.lt (fun e => (hs pm e.symm).2 rfl)) fun b hb => hg.block b (by omega) (fun e => by have := (hs b e.symm).1; omega)
theorem MkAt.below {B : Nat} {w w' : World} {pm : Nat} {bs : List Int} (h : MkAt B w pm bs) (hg : Below w.heap.size w w') (hB : B ≤ w.heap.size) : MkAt B w' pm bs :=
  h.kept (hg.block pm h.lt) fun b hb => hg.block b (by omega)

set_option maxRecDepth 100000 in
theorem next_any (B pm : Nat) (bs : List Int) (n : Int) (w : World) (h : MkAt B w pm bs) (hn : 0 < n) :
    Calls Try.prog 25 #[.pointer (some ⟨pm, 0, none⟩), .int .i64 n] w fun e w' => e = .returned (.int .i64 (nxt bs n).1) ∧ MkAt B w' pm (nxt bs n).2 ∧ w.grownBy w' (some pm) ∧ w'.heap.size = w.heap.size := by
  obtain ⟨ao, cap, c0, f0, hb⟩ := h.cells
  have HM := hide h
  clear h
  cases bs with
  | nil =>
    go_enter Try.func25, Try.ntmps25
    go_wp2_with fail
    go_ret
    exact ⟨rfl, HM.out, grown_refl _ _, rfl⟩
  | cons x xs =>
    obtain ⟨b, off, rfl, ⟨hx, hx0, hx1⟩, _⟩ := SlV.at hb 0 (by simp)
    simp only [Nat.zero_mul, Nat.add_zero, List.getD_cons_zero] at hx
    simp only [List.getD_cons_zero] at hx0 hx1
    have hrun : ∀ W, (Instr.sliceAt 22 (.slice (some ⟨b, off, none⟩) (xs.length + 1) cap) (some (.int .i64 1)) none none).run Try.prog W = .ok (tailV (some ⟨b, off, none⟩) cap (xs.length + 1)) W := fun W => run_tail (by omega) W
    have ht := hb.tail
    have HT := hide (HM.out.set ht)
    have hgs := grown_set w pm 0 (tailV (some ⟨b, off, none⟩) cap (xs.length + 1))
    have htm : x.tmod n = x % n := Int.tmod_eq_emod_of_nonneg hx0
    have hone : ∃ ao' n' c', tailV (some ⟨b, off, none⟩) cap (xs.length + 1) = .slice ao' n' c' := ⟨_, _, _, rfl⟩
    generalize tailV (some ⟨b, off, none⟩) cap (xs.length + 1) = u at *
    obtain ⟨ao', n', c', rfl⟩ := hone
    have hn0 : (n == 0) = false := by simp; omega
    have hn1 : (n == -1) = false := by simp; omega
    have hlen : ((xs.length : Int) + 1 == 0) = false := by simp; omega
    simp only [List.length_cons] at c0
    clear hb ht
    go_enter Try.func25, Try.ntmps25
    go_wp2_with fail
    go_ret
    exact ⟨rfl, HT.out, hgs, by simp⟩
end Go.Proofs.Ytepmbkiojpffpaa
