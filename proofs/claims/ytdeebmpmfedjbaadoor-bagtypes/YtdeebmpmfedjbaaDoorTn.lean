/- Calls of a queue, of a table; a queue beside the law's own row. -/
import Derived.Test.YtdeebmpmfedjbaaDoorOa
import Derived.Test.YtdeebmpmfedjbaaDoorQk
import Derived.Lib.Strings
import Derived.WideShapes
namespace Go.Proofs.YtdeebmpmfedjbaaDoor
open Go.ChangeShapes Go.WideShapes Go.ChangeAt Go.RowKit Go.Deep Bag
/-- A call of a queue, of a table. -/
structure TurnD where
  k : Nat
  s : ByteArray
  v : Int
def TurnAt (w : World) (b off : Nat) (a : TurnD) : Prop := (w.cell? ⟨b, off, none⟩ = some (.int .u8 a.k) ∧ w.cell? ⟨b, off + 1, none⟩ = some (.string a.s) ∧ w.cell? ⟨b, off + 2, none⟩ = some (.int .i64 a.v)) ∧ a.k < 256 ∧ (Lit.int .i64 a.v).wf = true
def turnZ : TurnD := ⟨0, ⟨#[]⟩, 0⟩
def TurnsV (w : World) (v : Value) (xs : List TurnD) : Prop := SlV 3 TurnAt turnZ w v xs
theorem TurnAt.below {w w' : World} {b off : Nat} {a : TurnD} (h : TurnAt w b off a) (hB : Below w.heap.size w w') : TurnAt w' b off a :=
  ⟨⟨cell_below hB h.1.1, cell_below hB h.1.2.1, cell_below hB h.1.2.2⟩, h.2⟩
theorem TurnsV.below {w w' : World} {v : Value} {xs : List TurnD} (h : TurnsV w v xs) (hB : Below w.heap.size w w') : TurnsV w' v xs := SlV.mono h fun _ _ _ => fun h => h.below hB
theorem TurnsV.at {w : World} {ao : Option Addr} {n c : Nat} {xs : List TurnD} (h : TurnsV w (.slice ao n c) xs) (j : Nat) (hj : j < xs.length) : ∃ b off, ao = some ⟨b, off, none⟩ ∧ TurnAt w b (off + j * 3) (xs.getD j turnZ) := SlV.at h j hj
section
variable {H : Type} {enc : TypeId × Value → H} {W : World} {base : Nat} {v : Value} {d : DataW H} {p : List MemPlace}
set_option maxRecDepth 100000 in
theorem turn_of {fuel : Nat} {cs : List Value} {x : DataW H × List MemPlace} (h : DataW.trod enc Tryd.prog W 0 (fun _ => true) true fuel 71 cs = some x) :
    ∃ a : TurnD, cs = [.int .u8 a.k, .string a.s, .int .i64 a.v] ∧ a.k < 256 ∧ (Lit.int .i64 a.v).wf = true := by
  obtain ⟨xs, n, _, _, hlen, hxl, hf⟩ := DataW.trod_struct Tryd.underlying71 h
  have hc : Tryd.prog.cellsOf 71 = 3 := by kernel_rfl
  have o5 : Tryd.prog.cellsOf 5 = 1 := by kernel_rfl
  have o9 : Tryd.prog.cellsOf 9 = 1 := by kernel_rfl
  have o3 : Tryd.prog.cellsOf 3 = 1 := by kernel_rfl
  rw [hc] at hlen
  match xs, hxl, cs, hlen with
  | [y0, y1, y2], _, [v0, v1, v2], _ =>
    have g0 := hf 0 _ rfl
    have g1 := hf 1 _ rfl
    have g2 := hf 2 _ rfl
    simp [o5, o9, o3] at g0 g1 g2
    obtain ⟨n0, e0, hw⟩ := int_of Tryd.underlying5 g0
    obtain ⟨s, e1, _, _⟩ := DataW.trod_string Tryd.underlying9 g1
    obtain ⟨n2, e2, hw2⟩ := int_of Tryd.underlying3 g2
    simp at e0 e1 e2
    have h2 : IntKind.u8.min ≤ n0 ∧ n0 ≤ IntKind.u8.max := by simpa [Lit.wf] using hw
    have m1 : IntKind.u8.min = 0 := by decide
    have m2 : IntKind.u8.max = 255 := by decide
    exact ⟨⟨n0.toNat, s, n2⟩, by simp only [e0, e1, e2]; rw [Int.toNat_of_nonneg (by omega)], by simp only; omega, hw2⟩
set_option maxRecDepth 100000 in
theorem turns_in (o : Value.okWide Tryd.prog W .any base 66 v) (k : DataW.Trod enc Tryd.prog W 0 (fun _ => true) true 66 v d p) : ∃ xs, TurnsV W v xs := by
  obtain ⟨a, len, cap, rfl⟩ := okWide_slice Tryd.underlying66 o
  obtain ⟨fuel, hf⟩ := k
  refine sl_of Tryd.underlying66 (by kernel_rfl) (by decide) ?_ hf
  intro fuel cs x b off h hl hc
  obtain ⟨a, rfl, hk⟩ := turn_of h
  exact ⟨a, ⟨by simpa using hc 0 (by omega), by simpa using hc 1 (by omega), by simpa using hc 2 (by omega)⟩, hk⟩
end
/-- A queue of the call's own that holds l, beside the law's own row that holds r. -/
structure QL (B : Nat) (w : World) (gq : Nat) (rv : Value) (l r : List ByteArray) (n : Nat) (qv : Value) (mo : Option Nat) (N : Nat) (D : DT) : Prop where
  q : QueV w gq qv mo N l D
  row : RowW w 9 1 rv r.length (r.map Value.string)
  hB : B ≤ w.heap.size
  gB : B ≤ gq
  rB : ∀ k, rv.ownBlock = some k → B ≤ k ∧ k ≠ gq ∧ mo ≠ some k ∧ qv.ownBlock ≠ some k
  qB : ∀ k, qv.ownBlock = some k → B ≤ k
  mB : ∀ k, mo = some k → B ≤ k
  sz : ∀ x ∈ l, x.size ≤ 100
  N1 : N ≤ n
  l1 : l.length ≤ n
  r1 : r.length ≤ n
def QX (B : Nat) (w : World) (gq : Nat) (rv : Value) (l r : List ByteArray) (n : Nat) : Prop := ∃ qv mo N D, QL B w gq rv l r n qv mo N D
section
variable {B : Nat} {w w' : World} {gq : Nat} {rv : Value} {l r : List ByteArray} {n : Nat}
theorem QueV.chg {b : Nat} {v : Value} {mo : Option Nat} {N : Nat} {D : DT} {S : Nat → Prop} (h : QueV w b v mo N l D) (k : Chg S w w') (hb : ¬ S b) (hv : ∀ j, v.ownBlock = some j → ¬ S j) (hm : ∀ j, mo = some j → ¬ S j) : QueV w' b v mo N l D := by
  obtain ⟨t, ht⟩ := h.cell
  exact ⟨⟨t, (k.block b (Array.getElem?_eq_some_iff.1 ht).1 hb).trans ht⟩, h.row.chg k hv, h.rne, h.nil, fun m e => ⟨(h.own m e).1, (h.own m e).2.1, map_chg (h.own m e).2.2 k (hm m e)⟩, h.dat⟩
theorem QL.grow {qv : Value} {mo : Option Nat} {N : Nat} {D : DT} (h : QL B w gq rv l r n qv mo N D) (hg : w.grownBy w' none) : QL B w' gq rv l r n qv mo N D := by
  have k : Chg (fun _ => False) w w' := Chg.gb0 hg
  exact ⟨h.q.chg k (fun e => e) (fun _ _ e => e) (fun _ _ e => e), h.row.chg k (fun _ _ e => e), Nat.le_trans h.hB hg.size, h.gB, h.rB, h.qB, h.mB, h.sz, h.N1, h.l1, h.r1⟩
theorem QX.grow (h : QX B w gq rv l r n) (hg : w.grownBy w' none) : QX B w' gq rv l r n := by
  obtain ⟨qv, mo, N, D, h⟩ := h
  exact ⟨qv, mo, N, D, h.grow hg⟩
theorem QL.lt {qv : Value} {mo : Option Nat} {N : Nat} {D : DT} (h : QL B w gq rv l r n qv mo N D) : ∀ j, (j = gq ∨ mo = some j ∨ qv.ownBlock = some j) → j < w.heap.size := by
  intro j e
  obtain ⟨t, ht⟩ := h.q.cell
  rcases e with e | e | e
  · rw [e]; exact (Array.getElem?_eq_some_iff.1 ht).1
  · exact World.ownsMap.lt (h.q.own j e).2.2
  · exact h.q.row.lt j e
theorem QX.more (h : QX B w gq rv l r n) {m : Nat} (hm : n ≤ m) : QX B w gq rv l r m := by
  obtain ⟨qv, mo, N, D, h⟩ := h
  exact ⟨qv, mo, N, D, h.q, h.row, h.hB, h.gB, h.rB, h.qB, h.mB, h.sz, Nat.le_trans h.N1 hm, Nat.le_trans h.l1 hm, Nat.le_trans h.r1 hm⟩
theorem QX.hb (h : QX B w gq rv l r n) : B ≤ w.heap.size := by
  obtain ⟨qv, mo, N, D, h⟩ := h
  exact h.hB
theorem QX.rowW (h : QX B w gq rv l r n) : RowW w 9 1 rv r.length (r.map Value.string) := by
  obtain ⟨qv, mo, N, D, h⟩ := h
  exact h.row
theorem QX.len (h : QX B w gq rv l r n) : l.length ≤ n ∧ r.length ≤ n := by
  obtain ⟨qv, mo, N, D, h⟩ := h
  exact ⟨h.l1, h.r1⟩
theorem QX.small (h : QX B w gq rv l r n) : ∀ x ∈ l, x.size ≤ 100 := by
  obtain ⟨qv, mo, N, D, h⟩ := h
  exact h.sz
/-- The law's row turns. -/
theorem QX.turn (h : QX B w gq rv l r n) {rv' : Value} {r' : List ByteArray} (hr : RowW w' 9 1 rv' r'.length (r'.map Value.string)) (hg : w.grownBy w' rv.ownBlock) (hl : rv'.ownBlock = rv.ownBlock ∨ rv'.ownBlock = some w.heap.size) (hn : r'.length ≤ n) : QX B w' gq rv' l r' n := by
  obtain ⟨qv, mo, N, D, h⟩ := h
  have k : Chg (fun j => rv.ownBlock = some j) w w' := (Chg.of_gb hg).mono fun _ _ e => e.symm
  have hm : ∀ m, mo = some m → m < w.heap.size := fun m e => World.ownsMap.lt (h.q.own m e).2.2
  obtain ⟨t, ht⟩ := h.q.cell
  have hgq := (Array.getElem?_eq_some_iff.1 ht).1
  refine ⟨qv, mo, N, D, h.q.chg k (fun e => (h.rB _ e).2.1 rfl) (fun j e q => (h.rB j q).2.2.2 e) (fun j e q => (h.rB j q).2.2.1 e), hr, Nat.le_trans h.hB hg.size, h.gB, fun j e => ?_, h.qB, h.mB, h.sz, h.N1, h.l1, hn⟩
  rcases hl with q | q
  · exact h.rB j (q ▸ e)
  · rw [q] at e
    simp only [Option.some.injEq] at e
    subst e
    exact ⟨h.hB, by omega, fun e => by have := hm _ e; omega, fun e => by have := h.q.row.lt _ e; omega⟩
/-- The law's row, at its own place. -/
theorem QX.same (h : QX B w gq rv l r n) {rv' : Value} {r' : List ByteArray} (hr : RowW w 9 1 rv' r'.length (r'.map Value.string)) (hl : rv'.ownBlock = rv.ownBlock) (hn : r'.length ≤ n) : QX B w gq rv' l r' n := by
  obtain ⟨qv, mo, N, D, h⟩ := h
  exact ⟨qv, mo, N, D, h.q, hr, h.hB, h.gB, fun j e => h.rB j (hl ▸ e), h.qB, h.mB, h.sz, h.N1, h.l1, hn⟩
def has9 (l : List ByteArray) (k : ByteArray) : Bool := l.any fun x => x.toList == k.toList
theorem eq9 (x k : ByteArray) : (x.toList == k.toList) = true ↔ x = k := by
  rw [beq_iff_eq, Lib.toList_data, Lib.toList_data]
  exact ⟨fun h => bytes_inj h, fun h => by rw [h]⟩
theorem has9_iff {l : List ByteArray} {k : ByteArray} : has9 l k = true ↔ k ∈ l := by
  unfold has9
  rw [List.any_eq_true]
  constructor
  · rintro ⟨x, h1, h2⟩
    rw [← (eq9 x k).1 h2]
    exact h1
  · exact fun h => ⟨k, h, (eq9 k k).2 rfl⟩
theorem has9_yes {l : List ByteArray} {k : ByteArray} (h : k ∈ l) : has9 l k = true := has9_iff.2 h
theorem has9_no {l : List ByteArray} {k : ByteArray} (h : ¬ k ∈ l) : has9 l k = false := Bool.eq_false_iff.2 fun e => h (has9_iff.1 e)
theorem qx_put {wz : World} (hz : QX B wz gq rv l r n) (hgz : wz.grownBy w none) {k : ByteArray} (hk : k.size ≤ 100) (hn : n < 1000) : Calls Tryd.prog 30 #[.pointer (some ⟨gq, 0, none⟩), .string k] w fun e w' => e = .returned (.bool (!has9 l k)) ∧ QX B w' gq rv (if has9 l k then l else l ++ [k]) r (n + 1) ∧ Below B w w' ∧ ∀ j, wz.heap.size ≤ j → j < w.heap.size → w'.heap[j]? = w.heap[j]? := by
  have h0 := hz.grow hgz
  obtain ⟨qv, mo, N, D, h'⟩ := hz
  have h := h'.grow hgz
  have hN := h.N1
  have hl := h.l1
  have hq := qput_any gq N qv mo l D k w h.q (by unfold maxLen; omega) (by unfold maxLen; omega) (by omega)
  by_cases hin : k ∈ l
  · refine (hq.1 hin).mono ?_
    rintro e w' ⟨rfl, hg⟩
    rw [has9_yes hin, if_pos rfl]
    exact ⟨rfl, (h0.grow hg).more (by omega), (gb_to hg).mono h.hB, fun j _ hj => hg.block j hj (by simp)⟩
  · refine (hq.2 hin).mono ?_
    rintro e w' ⟨rfl, v', m, hm, hv, hQ, hC⟩
    rw [has9_no hin, if_neg (by simp)]
    obtain ⟨t, ht⟩ := h.q.cell
    have hgq := (Array.getElem?_eq_some_iff.1 ht).1
    have hmw : ∀ m, mo = some m → m < w.heap.size := fun m e => World.ownsMap.lt (h.q.own m e).2.2
    refine ⟨rfl, ⟨v', some m, N + 1, _, hQ, h.row.chg hC (fun j e q => ?_), Nat.le_trans h.hB hC.size, h.gB, fun j e => ?_, fun j e => ?_, fun j e => ?_, ?_, by omega, by simp; omega, by have := h.r1; omega⟩, hC.below h.hB (fun j q => ?_), fun j hj1 hj2 => hC.block j hj2 (fun q => by have := h'.lt j q; omega)⟩
    · obtain ⟨_, q1, q2, q3⟩ := h.rB j e
      rcases q with q | q | q
      · exact q1 q
      · exact q2 q
      · exact q3 q
    · obtain ⟨q0, q1, q2, q3⟩ := h.rB j e
      have hj := h.row.lt j e
      refine ⟨q0, q1, fun e2 => ?_, fun e2 => ?_⟩
      · rcases hm with q | q
        · exact q2 (by rw [q]; exact e2)
        · simp at e2; omega
      · rcases hv with q | ⟨g, q, q4⟩
        · exact q3 (by rw [← q]; exact e2)
        · rw [q] at e2; simp at e2; omega
    · rcases hv with q | ⟨g, q, q4⟩
      · exact h.qB j (by rw [← q]; exact e)
      · rw [q] at e
        simp at e
        have := h.hB
        omega
    · simp at e
      subst e
      rcases hm with q | q
      · exact h.mB _ q
      · have := h.hB; omega
    · intro x hx
      rcases List.mem_append.1 hx with q | q
      · exact h.sz x q
      · simp at q; rw [q]; exact hk
    · rcases q with q | q | q
      · rw [q]; exact h.gB
      · exact h.mB j q
      · exact h.qB j q
theorem qx_take (h : QX B w gq rv l r n) : Calls Tryd.prog 31 #[.pointer (some ⟨gq, 0, none⟩)] w fun e w' => e = .returned (.tuple #[.string (l.headD ⟨#[]⟩), .bool (!l.isEmpty)]) ∧ QX B w' gq rv l.tail r n ∧ Below B w w' := by
  have h0 := h
  obtain ⟨qv, mo, N, D, h⟩ := h
  cases l with
  | nil =>
    refine (qtake_nil gq N qv mo D w h.q).mono ?_
    rintro e w' ⟨rfl, rfl⟩
    exact ⟨rfl, h0, Below.refl _ _⟩
  | cons x t =>
    cases mo with
    | none => exact absurd ((h.q.dat.key x).2 (by simp)) (by rw [h.q.nil rfl]; simp [Go.Maps.has])
    | some m =>
      have hx := h.sz x (by simp)
      refine (qtake_cons gq m N qv x t D w h.q (by unfold maxLen; omega)).mono ?_
      rintro e w' ⟨rfl, v', hv, hQ, hC⟩
      have hl := h.l1
      refine ⟨rfl, ⟨v', some m, N, _, hQ, h.row.chg hC (fun j e q => ?_), Nat.le_trans h.hB hC.size, h.gB, fun j e => ?_, fun j e => h.qB j (by rw [← hv]; exact e), h.mB, fun y hy => h.sz y (by simp only [List.tail_cons] at hy; exact List.mem_cons_of_mem _ hy), h.N1, by simp at hl ⊢; omega, h.r1⟩, hC.below h.hB fun j q => ?_⟩
      · obtain ⟨_, q1, q2, q3⟩ := h.rB j e
        rcases q with q | q | q
        · exact q1 q
        · exact q2 (by rw [q])
        · exact q3 q
      · obtain ⟨q0, q1, q2, q3⟩ := h.rB j e
        exact ⟨q0, q1, q2, by rw [hv]; exact q3⟩
      · rcases q with q | q | q
        · rw [q]; exact h.gB
        · exact h.mB j (by rw [q])
        · exact h.qB j q
theorem qx_len (h : QX B w gq rv l r n) : Calls Tryd.prog 32 #[.pointer (some ⟨gq, 0, none⟩)] w fun e w' => e = .returned (.int .i64 (l.length : Nat)) ∧ w' = w := by
  obtain ⟨qv, mo, N, D, h⟩ := h
  exact qlen_any gq N qv mo l D w h.q
end
end Go.Proofs.YtdeebmpmfedjbaaDoor
