/- A function made twice, in whatever order the boxes are laid. -/
import Derived.Test.YtljnngblhfhhaabAnyR
import Derived.Test.YtljnngblhfhhaabMa
import Derived.Test.YtljnngblhfhhaabRf
namespace Go.Proofs.Ytljnngblhfhhaab
open Go.RowKit Ir

theorem Ap.BlksO.below {B : Nat} {w w' : World} {v : Value} {bs : List Blk} (h : Ap.BlksO B w v bs) (hB : Below w.heap.size w w') : Ap.BlksO B w' v bs := h.keeps (Keeps.below hB)
theorem Ap.BlksO.mono {B B' : Nat} {w : World} {v : Value} {bs : List Blk} (h : Ap.BlksO B w v bs) (hB : B' ≤ B) : Ap.BlksO B' w v bs := by
  obtain ⟨ps, h1, h2, h3⟩ := h
  exact ⟨ps, h1, owns_mono h2 hB, fun q hq => ⟨(h3.each q hq).1, (h3.each q hq).2.mono hB⟩, h3.rows, h3.args⟩
theorem Ap.BlksO.v {B : Nat} {w : World} {v : Value} {bs : List Blk} (h : Ap.BlksO B w v bs) : BlksV w v bs := h.old.v
def zeroF : Array Value := #[.int .i64 0, .int .i64 0, .slice none 0 0]
def funV (F : Fun) (u : Value) : Value := .agg #[.int .i64 F.p, .int .i64 F.v, u]
def aggOf : Value → Array Value
  | .agg cs => cs
  | _ => #[]
/-- What stands on the way. -/
structure R3 (w0 : World) (sp : Value) (F : Fun) (l : Nat → Bool) (s : Tmp → Value) (W : World) : Prop where
  below : Below w0.heap.size w0 W
  ta : l 0 = true → s 27 = sp
  tb : l 2 = true → s 29 = sp
  tf : l 1 = true → ∃ u, s 28 = funV F u ∧ Ap.BlksO w0.heap.size W u F.bs
  tg : l 3 = true → ∃ B2 W0 uf ug, s 28 = funV F uf ∧ Ap.BlksO w0.heap.size W0 uf F.bs ∧ W0.heap.size ≤ B2 ∧ Keeps T41 W0 W ∧ s 30 = funV F ug ∧ Ap.BlksO B2 W ug F.bs ∧ B2 ≤ W.heap.size ∧ w0.heap.size ≤ B2
  bf : l 4 = true → ∃ p, s 9 = .pointer (some ⟨p, 0, none⟩) ∧ w0.heap.size ≤ p ∧ (l 6 = false → W.heap[p]? = some (Obj.cells zeroF 31 (0, 0))) ∧ (l 6 = true → W.heap[p]? = some (Obj.cells (aggOf (s 28)) 31 (0, 0)))
  bg : l 5 = true → ∃ p, s 10 = .pointer (some ⟨p, 0, none⟩) ∧ w0.heap.size ≤ p ∧ (l 7 = false → W.heap[p]? = some (Obj.cells zeroF 31 (0, 0))) ∧ (l 7 = true → W.heap[p]? = some (Obj.cells (aggOf (s 30)) 31 (0, 0)))
  ne : l 4 = true → l 5 = true → s 9 ≠ s 10
theorem row_bel {W W' : World} {p : Nat} {o : Obj} (h : W.heap[p]? = some o) (hb : Below W.heap.size W W') : W'.heap[p]? = some o := by
  rw [hb.block p (Array.getElem?_eq_some_iff.1 h).1]
  exact h
/-- The world turns, nothing that was is changed. -/
theorem R3.next {w0 : World} {sp : Value} {F : Fun} {l : Nat → Bool} {s s' : Tmp → Value} {W W' : World} (h : R3 w0 sp F l s W) (hb : Below W.heap.size W W') (ha : l 0 = true → s' 27 = s 27) (hc : l 2 = true → s' 29 = s 29) (hf : l 1 = true → s' 28 = s 28) (hg : l 3 = true → s' 30 = s 30) (h31 : l 3 = true → l 1 = true) (h61 : l 6 = true → l 1 = true) (h73 : l 7 = true → l 3 = true) (hpf : l 4 = true → s' 9 = s 9) (hpg : l 5 = true → s' 10 = s 10) : R3 w0 sp F l s' W' := by
  refine ⟨bel_of h.below hb, fun e => by rw [ha e]; exact h.ta e, fun e => by rw [hc e]; exact h.tb e, fun e => ?_, fun e => ?_, fun e => ?_, fun e => ?_, fun e1 e2 => by rw [hpf e1, hpg e2]; exact h.ne e1 e2⟩
  · obtain ⟨u, h1, h2⟩ := h.tf e
    exact ⟨u, by rw [hf e]; exact h1, h2.below hb⟩
  · obtain ⟨B2, W0, uf, ug, h1, h2, h3, h4, h5, h6, h7, h8⟩ := h.tg e
    exact ⟨B2, W0, uf, ug, by rw [hf (h31 e)]; exact h1, h2, h3, h4.trans (Keeps.below hb), by rw [hg e]; exact h5, h6.below hb, Nat.le_trans h7 hb.size, h8⟩
  · obtain ⟨p, h1, h2, h3, h4⟩ := h.bf e
    exact ⟨p, by rw [hpf e]; exact h1, h2, fun e => row_bel (h3 e) hb, fun e => by rw [hf (h61 e)]; exact row_bel (h4 e) hb⟩
  · obtain ⟨p, h1, h2, h3, h4⟩ := h.bg e
    exact ⟨p, by rw [hpg e]; exact h1, h2, fun e => row_bel (h3 e) hb, fun e => by rw [hg (h73 e)]; exact row_bel (h4 e) hb⟩
/-- A whole box is stored. -/
theorem store3 {W : World} {p : Nat} {x y z : Value} (a b c : Value) (h : W.heap[p]? = some (Obj.cells #[x, y, z] 31 (0, 0))) : (((W.setCell ⟨p, 0, none⟩ a).setCell ⟨p, 1, none⟩ b).setCell ⟨p, 2, none⟩ c).heap[p]? = some (Obj.cells #[a, b, c] 31 (0, 0)) ∧ Keeps T41 W (((W.setCell ⟨p, 0, none⟩ a).setCell ⟨p, 1, none⟩ b).setCell ⟨p, 2, none⟩ c) ∧ ∀ q, q ≠ p → (((W.setCell ⟨p, 0, none⟩ a).setCell ⟨p, 1, none⟩ b).setCell ⟨p, 2, none⟩ c).heap[q]? = W.heap[q]? := by
  have h1 := heap_setCell_same W p 0 _ _ a h
  have h2 := heap_setCell_same _ p 1 _ _ b h1
  have h3 := heap_setCell_same _ p 2 _ _ c h2
  refine ⟨h3, ((Keeps.set h rfl a).trans (Keeps.set h1 rfl b)).trans (Keeps.set h2 rfl c), fun q hq => ?_⟩
  rw [Below.heap_setCell _ _ _ _ (by simpa using hq), Below.heap_setCell _ _ _ _ (by simpa using hq), Below.heap_setCell _ _ _ _ (by simpa using hq)]
theorem box3 {W : World} {p : Nat} {x y z : Value} (h : W.heap[p]? = some (Obj.cells #[x, y, z] 31 (0, 0))) : W.cell? ⟨p, 0, none⟩ = some x ∧ W.cell? ⟨p, 1, none⟩ = some y ∧ W.cell? ⟨p, 2, none⟩ = some z ∧ ∀ j, W.frozen? ⟨p, j, none⟩ = false := by
  refine ⟨?_, ?_, ?_, fun j => frozen_of_row _ _ _ _ _ h⟩
  all_goals (rw [cell_of_row _ _ _ _ _ _ h]; rfl)
def ops_mt : Array Oper := #[{ dst := some 27, op := Op.load 24 (Operand.tmp 4), type := 24, pos := "law.go:174", after := #[], guard := none }, { dst := some 28, op := Op.call { callee := Callee.value (Operand.func 6), args := #[Operand.tmp 27], argTypes := #[24] }, type := 31, pos := "law.go:174", after := #[{ on := 0, ground := Ground.data }], guard := none }, { dst := some 29, op := Op.load 24 (Operand.tmp 4), type := 24, pos := "law.go:174", after := #[], guard := none }, { dst := some 30, op := Op.call { callee := Callee.value (Operand.func 6), args := #[Operand.tmp 29], argTypes := #[24] }, type := 31, pos := "law.go:174", after := #[{ on := 2, ground := Ground.data }, { on := 1, ground := Ground.chain }], guard := none }, { dst := some 9, op := Op.alloc 31, type := 0, pos := "law.go:174", after := #[], guard := none }, { dst := some 10, op := Op.alloc 31, type := 0, pos := "law.go:174", after := #[], guard := none }, { dst := none, op := Op.store 31 (Operand.tmp 9) (Operand.tmp 28), type := 0, pos := "law.go:174", after := #[{ on := 4, ground := Ground.data }, { on := 1, ground := Ground.data }, { on := 3, ground := Ground.chain }, { on := 0, ground := Ground.phase }, { on := 1, ground := Ground.phase }, { on := 2, ground := Ground.textOnly Departure.lateStores }, { on := 3, ground := Ground.textOnly Departure.lateStoresUnsure }, { on := 4, ground := Ground.phase }, { on := 5, ground := Ground.phase }], guard := none }, { dst := none, op := Op.store 31 (Operand.tmp 10) (Operand.tmp 30), type := 0, pos := "law.go:174", after := #[{ on := 5, ground := Ground.data }, { on := 3, ground := Ground.data }, { on := 6, ground := Ground.chain }, { on := 0, ground := Ground.phase }, { on := 1, ground := Ground.phase }, { on := 2, ground := Ground.phase }, { on := 3, ground := Ground.phase }, { on := 4, ground := Ground.phase }, { on := 5, ground := Ground.phase }, { on := 6, ground := Ground.phase }], guard := none }]
set_option maxHeartbeats 1000000 in
set_option maxRecDepth 100000 in
theorem mt_ok {Q : Exit → Act → World → Prop} {a0 : Act} {w : World} {gs : Nat} {sa sb sc : Int} {bs : List Int} {ua : Option Addr} {uc : Nat} (hz : a0.tmps.size = 203) (b5 : a0.eval (.tmp 4) = .pointer (some ⟨gs, 0, none⟩))
    (s0 : w.cell? ⟨gs, 0, none⟩ = some (.int .u8 sa)) (s1 : w.cell? ⟨gs, 1, none⟩ = some (.int .u8 sb)) (s2 : w.cell? ⟨gs, 2, none⟩ = some (.int .u8 sc)) (s3 : w.cell? ⟨gs, 3, none⟩ = some (.slice ua bs.length uc))
    (hS : SpecV w (.agg #[.int .u8 sa, .int .u8 sb, .int .u8 sc, .slice ua bs.length uc]) sa sb sc bs)
    (hend : ∀ (q : Tmp → Value) (pf pg B2 : Nat) (W0 : World) (uf ug : Value) (W : World), q 9 = .pointer (some ⟨pf, 0, none⟩) → q 10 = .pointer (some ⟨pg, 0, none⟩) → w.heap.size ≤ pf → w.heap.size ≤ pg → pf ≠ pg →
      W.heap[pf]? = some (Obj.cells #[.int .i64 (made sa sb sc bs).p, .int .i64 (made sa sb sc bs).v, uf] 31 (0, 0)) → W.heap[pg]? = some (Obj.cells #[.int .i64 (made sa sb sc bs).p, .int .i64 (made sa sb sc bs).v, ug] 31 (0, 0)) →
      Ap.BlksO w.heap.size W0 uf (made sa sb sc bs).bs → W0.heap.size ≤ B2 → Keeps T41 W0 W → Ap.BlksO B2 W ug (made sa sb sc bs).bs → B2 ≤ W.heap.size → w.heap.size ≤ B2 → Below w.heap.size w W →
      Q .normal (overlay a0 (dstsOf ops_mt) q) W) : (Code.region 3 ops_mt true).wp Try.prog Q a0 w := by
  generalize hF : made sa sb sc bs = F at hend
  refine R.wp_region_eachR (by kernel_rfl) (R3 w (.agg #[.int .u8 sa, .int .u8 sb, .int .u8 sc, .slice ua bs.length uc]) F) (by rw [hz]; kernel_rfl) ⟨(Below.refl _ _).drew, (fun e => by cases e), (fun e => by cases e), (fun e => by cases e), (fun e => by cases e), (fun e => by cases e), (fun e => by cases e), (fun e => by cases e)⟩ ?_ ?_
  · refine And.intro ?_ (And.intro ?_ (And.intro ?_ (And.intro ?_ (And.intro ?_ (And.intro ?_ (And.intro ?_ (And.intro ?_ trivial)))))))
    · refine R.asked_any rfl rfl (fun l a W H => ?_)
      have e5 : a.eval (.tmp 4) = .pointer (some ⟨gs, 0, none⟩) := (H.base 4 rfl).trans b5
      have c0 := cell_below H.r.below s0
      have c1 := cell_below H.r.below s1
      have c2 := cell_below H.r.below s2
      have c3 := cell_below H.r.below s3
      refine ⟨.agg #[.int .u8 sa, .int .u8 sb, .int .u8 sc, .slice ua bs.length uc], W, ?_, ?_⟩
      · simp only [execOp, e5]
        clear H
        go_simp
      · have h := H.r.next (s' := R.put1 (fun t => a.eval (.tmp t)) (some 27) (.agg #[.int .u8 sa, .int .u8 sb, .int .u8 sc, .slice ua bs.length uc])) (Below.refl _ _) (fun e => absurd (e.symm.trans H.new) (by decide)) (fun _ => rfl) (fun _ => rfl) (fun _ => rfl) (fun e => H.closed 3 1 (by rfl) e) (fun e => H.closed 6 1 (by rfl) e) (fun e => H.closed 7 3 (by rfl) e) (fun _ => rfl) (fun _ => rfl)
        exact { h with ta := fun _ => rfl, tb := fun _ => h.tb ‹_› }
    · refine R.asked_call rfl Try.func6 (by kernel_rfl) (by kernel_rfl) rfl rfl (fun l a W H => ?_)
      have e : a.eval (.tmp 27) = _ := H.r.ta (H.deps ⟨0, .data⟩ (by simp) rfl)
      have n3 : l 3 = false := by
        cases hs : l 3 with
        | false => rfl
        | true =>
          have h1 := (H.closed 3 1 (by rfl) hs)
          rw [H.new] at h1
          cases h1
      have n6 : l 6 = false := by
        cases hs : l 6 with
        | false => rfl
        | true =>
          have h1 := (H.closed 6 1 (by rfl) hs)
          rw [H.new] at h1
          cases h1
      simp only [List.map_toArray, List.map_cons, List.map_nil, e]
      refine (Ap.made_any _ sa sb sc bs W (hS.below H.r.below)).mono ?_
      rintro e W1 ⟨u, rfl, h1, h2⟩
      rw [hF] at h1 ⊢
      have h := H.r.next (s' := R.put1 (fun t => a.eval (.tmp t)) (some 28) (funV F u)) h2 (fun _ => rfl) (fun _ => rfl) (fun e => absurd (e.symm.trans H.new) (by decide)) (fun _ => rfl) (fun e => H.closed 3 1 (by rfl) e) (fun e => H.closed 6 1 (by rfl) e) (fun e => H.closed 7 3 (by rfl) e) (fun _ => rfl) (fun _ => rfl)
      refine ⟨funV F u, rfl, { h with tf := fun _ => ⟨u, rfl, h1.mono H.r.below.size⟩, tg := fun e => absurd (e.symm.trans n3) (by decide) }⟩
    · refine R.asked_any rfl rfl (fun l a W H => ?_)
      have e5 : a.eval (.tmp 4) = .pointer (some ⟨gs, 0, none⟩) := (H.base 4 rfl).trans b5
      have c0 := cell_below H.r.below s0
      have c1 := cell_below H.r.below s1
      have c2 := cell_below H.r.below s2
      have c3 := cell_below H.r.below s3
      refine ⟨.agg #[.int .u8 sa, .int .u8 sb, .int .u8 sc, .slice ua bs.length uc], W, ?_, ?_⟩
      · simp only [execOp, e5]
        clear H
        go_simp
      · have h := H.r.next (s' := R.put1 (fun t => a.eval (.tmp t)) (some 29) (.agg #[.int .u8 sa, .int .u8 sb, .int .u8 sc, .slice ua bs.length uc])) (Below.refl _ _) (fun _ => rfl) (fun e => absurd (e.symm.trans H.new) (by decide)) (fun _ => rfl) (fun _ => rfl) (fun e => H.closed 3 1 (by rfl) e) (fun e => H.closed 6 1 (by rfl) e) (fun e => H.closed 7 3 (by rfl) e) (fun _ => rfl) (fun _ => rfl)
        exact { h with ta := fun _ => h.ta ‹_›, tb := fun _ => rfl }
    · refine R.asked_call rfl Try.func6 (by kernel_rfl) (by kernel_rfl) rfl rfl (fun l a W H => ?_)
      have e : a.eval (.tmp 29) = _ := H.r.tb (H.deps ⟨2, .data⟩ (by simp) rfl)
      have y1 : l 1 = true := H.deps ⟨1, .chain⟩ (by simp) rfl
      have n7 : l 7 = false := by
        cases hs : l 7 with
        | false => rfl
        | true =>
          have h1 := (H.closed 7 3 (by rfl) hs)
          rw [H.new] at h1
          cases h1
      obtain ⟨uf, hu1, hu2⟩ := H.r.tf y1
      simp only [List.map_toArray, List.map_cons, List.map_nil, e]
      refine (Ap.made_any _ sa sb sc bs W (hS.below H.r.below)).mono ?_
      rintro e W1 ⟨u, rfl, h1, h2⟩
      rw [hF] at h1 ⊢
      have h := H.r.next (s' := R.put1 (fun t => a.eval (.tmp t)) (some 30) (funV F u)) h2 (fun _ => rfl) (fun _ => rfl) (fun _ => rfl) (fun e => absurd (e.symm.trans H.new) (by decide)) (fun e => H.closed 3 1 (by rfl) e) (fun e => H.closed 6 1 (by rfl) e) (fun e => H.closed 7 3 (by rfl) e) (fun _ => rfl) (fun _ => rfl)
      refine ⟨funV F u, rfl, { h with tg := fun _ => ⟨W.heap.size, W, uf, u, hu1, hu2, Nat.le_refl _, Keeps.below h2, rfl, h1, h2.size, H.r.below.size⟩ }⟩
    · refine R.asked_any rfl rfl (fun l a W H => ?_)
      have n6 : l 6 = false := by
        cases hs : l 6 with
        | false => rfl
        | true =>
          have h1 := (H.closed 6 4 (by rfl) hs)
          rw [H.new] at h1
          cases h1
      have hbx := bel1' W (.cells zeroF 31)
      refine ⟨.pointer (some ⟨W.heap.size, 0, none⟩), W.alloc (.cells zeroF 31), ?_, ?_⟩
      · simp only [execOp]
        unfold zeroF
        clear H n6 hbx
        go_simp
      · have h := H.r.next (s' := R.put1 (fun t => a.eval (.tmp t)) (some 9) (.pointer (some ⟨W.heap.size, 0, none⟩))) hbx (fun _ => rfl) (fun _ => rfl) (fun _ => rfl) (fun _ => rfl) (fun e => H.closed 3 1 (by rfl) e) (fun e => H.closed 6 1 (by rfl) e) (fun e => H.closed 7 3 (by rfl) e) (fun e => absurd (e.symm.trans H.new) (by decide)) (fun _ => rfl)
        refine { h with bf := fun _ => ⟨W.heap.size, rfl, H.r.below.size, fun _ => heap_alloc_new W _, fun e => absurd (e.symm.trans n6) (by decide)⟩, ne := fun e1 e2 => ?_ }
        obtain ⟨p, h1, h2, h3, h4⟩ := H.r.bg e2
        have hlt : p < W.heap.size := by
          cases hq : l 7 with
          | false => exact (Array.getElem?_eq_some_iff.1 (h3 hq)).1
          | true => exact (Array.getElem?_eq_some_iff.1 (h4 hq)).1
        intro e
        have e : Value.pointer (some ⟨W.heap.size, 0, none⟩) = a.eval (.tmp 10) := e
        rw [h1] at e
        simp at e
        try omega
    · refine R.asked_any rfl rfl (fun l a W H => ?_)
      have n7 : l 7 = false := by
        cases hs : l 7 with
        | false => rfl
        | true =>
          have h1 := (H.closed 7 5 (by rfl) hs)
          rw [H.new] at h1
          cases h1
      have hbx := bel1' W (.cells zeroF 31)
      refine ⟨.pointer (some ⟨W.heap.size, 0, none⟩), W.alloc (.cells zeroF 31), ?_, ?_⟩
      · simp only [execOp]
        unfold zeroF
        clear H n7 hbx
        go_simp
      · have h := H.r.next (s' := R.put1 (fun t => a.eval (.tmp t)) (some 10) (.pointer (some ⟨W.heap.size, 0, none⟩))) hbx (fun _ => rfl) (fun _ => rfl) (fun _ => rfl) (fun _ => rfl) (fun e => H.closed 3 1 (by rfl) e) (fun e => H.closed 6 1 (by rfl) e) (fun e => H.closed 7 3 (by rfl) e) (fun _ => rfl) (fun e => absurd (e.symm.trans H.new) (by decide))
        refine { h with bg := fun _ => ⟨W.heap.size, rfl, H.r.below.size, fun _ => heap_alloc_new W _, fun e => absurd (e.symm.trans n7) (by decide)⟩, ne := fun e1 e2 => ?_ }
        obtain ⟨p, h1, h2, h3, h4⟩ := H.r.bf e1
        have hlt : p < W.heap.size := by
          cases hq : l 6 with
          | false => exact (Array.getElem?_eq_some_iff.1 (h3 hq)).1
          | true => exact (Array.getElem?_eq_some_iff.1 (h4 hq)).1
        intro e
        have e : a.eval (.tmp 9) = Value.pointer (some ⟨W.heap.size, 0, none⟩) := e
        rw [h1] at e
        simp at e
        try omega
    · refine R.asked_skip rfl rfl (fun l a W H => ?_)
      have y4 : l 4 = true := H.deps ⟨4, .phase⟩ (by simp) rfl
      have y5 : l 5 = true := H.deps ⟨5, .phase⟩ (by simp) rfl
      have y3 : l 3 = true := H.deps ⟨3, .chain⟩ (by simp) rfl
      obtain ⟨B2, W0, uf, ug, g1, g2, g3, g4, g5, g6, g7, g8⟩ := H.r.tg y3
      obtain ⟨pf, f1, f2, f3, f4⟩ := H.r.bf y4
      obtain ⟨pg, k1, k2, k3, k4⟩ := H.r.bg y5
      have hne : pf ≠ pg := fun e => H.r.ne y4 y5 (by show a.eval _ = a.eval _; rw [show a.eval (.tmp 9) = _ from f1, show a.eval (.tmp 10) = _ from k1, e])
      have hrow := f3 H.new
      unfold zeroF at hrow
      obtain ⟨c0, c1, c2, cf⟩ := box3 hrow
      obtain ⟨ao, cap, rfl⟩ : ∃ ao cap, uf = .slice ao F.bs.length cap := g2.v.slice
      have ep : a.eval (.tmp 9) = .pointer (some ⟨pf, 0, none⟩) := f1
      have ev : a.eval (.tmp 28) = .agg #[.int .i64 F.p, .int .i64 F.v, .slice ao F.bs.length cap] := g1
      obtain ⟨q1, q2, q3⟩ := store3 (.int .i64 F.p) (.int .i64 F.v) (.slice ao F.bs.length cap) hrow
      refine ⟨((W.setCell ⟨pf, 0, none⟩ (.int .i64 F.p)).setCell ⟨pf, 1, none⟩ (.int .i64 F.v)).setCell ⟨pf, 2, none⟩ (.slice ao F.bs.length cap), ?_, ?_⟩
      · have cf0 := cf 0
        have cf1 := cf 1
        have cf2 := cf 2
        clear hrow q1 q2 q3 g1 g2 g3 g4 g5 g6 g7 g8 f1 f2 f3 f4 k1 k2 k3 k4 H cf
        simp only [execOp, ep, ev]
        go_simp
      · have hbl : Below w.heap.size w (((W.setCell ⟨pf, 0, none⟩ (.int .i64 F.p)).setCell ⟨pf, 1, none⟩ (.int .i64 F.v)).setCell ⟨pf, 2, none⟩ (.slice ao F.bs.length cap)) := ((H.r.below.setCell (p := ⟨pf, 0, none⟩) (by simpa using f2) _).setCell (p := ⟨pf, 1, none⟩) (by simpa using f2) _).setCell (p := ⟨pf, 2, none⟩) (by simpa using f2) _
        refine ⟨hbl, H.r.ta, H.r.tb, fun e => ?_, fun e => ?_, fun e => ?_, fun e => ?_, H.r.ne⟩
        · obtain ⟨u, h1, h2⟩ := H.r.tf e
          exact ⟨u, h1, h2.keeps q2⟩
        · exact ⟨B2, W0, .slice ao F.bs.length cap, ug, g1, g2, g3, g4.trans q2, g5, g6.keeps q2, by simpa using g7, g8⟩
        · refine ⟨pf, f1, f2, fun e => (by simp [upd] at e), fun _ => ?_⟩
          show _ = some (Obj.cells (aggOf (a.eval (.tmp 28))) 31 (0, 0))
          rw [ev]
          exact q1
        · refine ⟨pg, k1, k2, fun e => (q3 pg hne.symm).trans (k3 e), fun e => (q3 pg hne.symm).trans (k4 e)⟩
    · refine R.asked_skip rfl rfl (fun l a W H => ?_)
      have y4 : l 4 = true := H.deps ⟨4, .phase⟩ (by simp) rfl
      have y5 : l 5 = true := H.deps ⟨5, .phase⟩ (by simp) rfl
      have y3 : l 3 = true := H.deps ⟨3, .data⟩ (by simp) rfl
      have y6 : l 6 = true := H.deps ⟨6, .chain⟩ (by simp) rfl
      obtain ⟨B2, W0, uf, ug, g1, g2, g3, g4, g5, g6, g7, g8⟩ := H.r.tg y3
      obtain ⟨pf, f1, f2, f3, f4⟩ := H.r.bf y4
      obtain ⟨pg, k1, k2, k3, k4⟩ := H.r.bg y5
      have hne : pf ≠ pg := fun e => H.r.ne y4 y5 (by show a.eval _ = a.eval _; rw [show a.eval (.tmp 9) = _ from f1, show a.eval (.tmp 10) = _ from k1, e])
      have hrow := k3 H.new
      unfold zeroF at hrow
      obtain ⟨c0, c1, c2, cf⟩ := box3 hrow
      obtain ⟨ao, cap, rfl⟩ : ∃ ao cap, ug = .slice ao F.bs.length cap := g6.v.slice
      have ep : a.eval (.tmp 10) = .pointer (some ⟨pg, 0, none⟩) := k1
      have ev : a.eval (.tmp 30) = .agg #[.int .i64 F.p, .int .i64 F.v, .slice ao F.bs.length cap] := g5
      obtain ⟨q1, q2, q3⟩ := store3 (.int .i64 F.p) (.int .i64 F.v) (.slice ao F.bs.length cap) hrow
      refine ⟨((W.setCell ⟨pg, 0, none⟩ (.int .i64 F.p)).setCell ⟨pg, 1, none⟩ (.int .i64 F.v)).setCell ⟨pg, 2, none⟩ (.slice ao F.bs.length cap), ?_, ?_⟩
      · have cf0 := cf 0
        have cf1 := cf 1
        have cf2 := cf 2
        clear hrow q1 q2 q3 g1 g2 g3 g4 g5 g6 g7 g8 f1 f2 f3 f4 k1 k2 k3 k4 H cf
        simp only [execOp, ep, ev]
        go_simp
      · have hbl : Below w.heap.size w (((W.setCell ⟨pg, 0, none⟩ (.int .i64 F.p)).setCell ⟨pg, 1, none⟩ (.int .i64 F.v)).setCell ⟨pg, 2, none⟩ (.slice ao F.bs.length cap)) := ((H.r.below.setCell (p := ⟨pg, 0, none⟩) (by simpa using k2) _).setCell (p := ⟨pg, 1, none⟩) (by simpa using k2) _).setCell (p := ⟨pg, 2, none⟩) (by simpa using k2) _
        refine ⟨hbl, H.r.ta, H.r.tb, fun e => ?_, fun e => ?_, fun e => ?_, fun e => ?_, H.r.ne⟩
        · obtain ⟨u, h1, h2⟩ := H.r.tf e
          exact ⟨u, h1, h2.keeps q2⟩
        · exact ⟨B2, W0, uf, .slice ao F.bs.length cap, g1, g2, g3, g4.trans q2, g5, g6.keeps q2, by simpa using g7, g8⟩
        · refine ⟨pf, f1, f2, fun e => (q3 pf hne).trans (f3 e), fun e => (q3 pf hne).trans (f4 e)⟩
        · refine ⟨pg, k1, k2, fun e => (by simp [upd] at e), fun _ => ?_⟩
          show _ = some (Obj.cells (aggOf (a.eval (.tmp 30))) 31 (0, 0))
          rw [ev]
          exact q1
  · intro l q W hall h
    obtain ⟨B2, W0, uf, ug, g1, g2, g3, g4, g5, g6, g7, g8⟩ := h.tg (hall 3 (by decide))
    obtain ⟨pf, f1, f2, f3, f4⟩ := h.bf (hall 4 (by decide))
    obtain ⟨pg, k1, k2, k3, k4⟩ := h.bg (hall 5 (by decide))
    have hne : pf ≠ pg := fun e => h.ne (hall 4 (by decide)) (hall 5 (by decide)) (by rw [f1, k1, e])
    have f5 := f4 (hall 6 (by decide))
    have k5 := k4 (hall 7 (by decide))
    rw [g1] at f5
    rw [g5] at k5
    exact hend q pf pg B2 W0 uf ug W f1 k1 f2 k2 hne f5 k5 g2 g3 g4 g6 g7 g8 h.below
end Go.Proofs.Ytljnngblhfhhaab
