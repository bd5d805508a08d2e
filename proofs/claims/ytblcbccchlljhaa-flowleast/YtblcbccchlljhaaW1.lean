/- The code's ways: of each block those from which facts come, and those to which its own go. -/
import Derived.Test.YtblcbccchlljhaaWr
namespace Go.Proofs.Ytblcbccchlljhaa
open Go.RowKit Ir Wy

theorem info48 : (Try.prog.info? 48).map (fun i => (i.zero, i.size, i.bytes)) = some (some (.slice none 0 0), 1, 24) := by kernel_rfl
/-- A table of empty rows is made. -/
theorem run_rows (W : World) (n : Nat) (hn : n ≤ 1000) : ∃ W', (Instr.makeSlice 30 (.int .i64 n) (.int .i64 n)).run Try.prog W = .ok (.slice (some ⟨W.heap.size, 0, none⟩) n n) W' ∧ (∀ B, RowsO B W.heap.size n W' (fun _ => .slice none 0 0) (fun _ => [])) ∧ Below W.heap.size W W' := by
  obtain ⟨i4, hi, hz, hs, hb⟩ := info_parts info48
  obtain ⟨W', h1, h2, h3⟩ := run_make_full (P := Try.prog) W W.heap.size 30 48 i4 (.slice none 0 0) 1 Try.underlying30 hi hz hs .i64 .i64 n (by rw [hb]; omega) (by unfold maxLen; omega) (Nat.le_refl _)
  refine ⟨W', h1, fun B => rows_made h2 (fun i hi => ?_), ⟨h3.os, h3.tape, h3.output, h3.size, fun k hk => h3.block k hk (by simp)⟩⟩
  have e : (Value.slice none 0 0).cells = #[Value.slice none 0 0] := rfl
  simp [madeCells, hi, e, Nat.mod_one]
def ops_w1 : Array Oper := #[⟨some 9, .move (.tmp 0), 3, "flow.go:45", #[], none⟩, ⟨some 10, .makeSlice 30 (.tmp 9) (.tmp 9), 30, "flow.go:45", #[⟨0, .data⟩, ⟨0, .data⟩], none⟩, ⟨some 11, .move (.tmp 0), 3, "flow.go:45", #[], none⟩, ⟨some 12, .makeSlice 30 (.tmp 11) (.tmp 11), 30, "flow.go:45", #[⟨2, .data⟩, ⟨2, .data⟩], none⟩, ⟨some 4, .assign (.tmp 10), 30, "flow.go:45", #[⟨1, .data⟩, ⟨0, .phase⟩, ⟨1, .phase⟩, { on := 2, ground := Ground.textOnly Departure.lateStores }, { on := 3, ground := Ground.textOnly Departure.lateStoresUnsure }], none⟩, ⟨some 5, .assign (.tmp 12), 30, "flow.go:45", #[⟨3, .data⟩, ⟨4, .chain⟩, ⟨0, .phase⟩, ⟨1, .phase⟩, ⟨2, .phase⟩, ⟨3, .phase⟩, ⟨4, .phase⟩], none⟩]
/-- How far the two tables are. -/
structure W1 (n : Nat) (wa : World) (l : Nat → Bool) (s : Tmp → Value) (W : World) : Prop where
  below : Below wa.heap.size wa W
  a : l 1 = true → ∃ g, s 10 = .slice (some ⟨g, 0, none⟩) n n ∧ wa.heap.size ≤ g ∧ ∀ B, RowsO B g n W (fun _ => .slice none 0 0) (fun _ => [])
  b : l 3 = true → ∃ g, s 12 = .slice (some ⟨g, 0, none⟩) n n ∧ wa.heap.size ≤ g ∧ ∀ B, RowsO B g n W (fun _ => .slice none 0 0) (fun _ => [])
  ne : l 1 = true → l 3 = true → s 10 ≠ s 12
  c : l 4 = true → s 4 = s 10
  d : l 5 = true → s 5 = s 12
theorem W1.lt {n : Nat} {wa W : World} {s : Tmp → Value} {t : Tmp} (h : ∃ g, s t = .slice (some ⟨g, 0, none⟩) n n ∧ wa.heap.size ≤ g ∧ ∀ B, RowsO B g n W (fun _ => .slice none 0 0) (fun _ => [])) : s t ≠ .slice (some ⟨W.heap.size, 0, none⟩) n n := by
  obtain ⟨g, h1, _, h2⟩ := h
  rw [h1]
  intro e
  simp only [Value.slice.injEq, Option.some.injEq, Addr.mk.injEq, and_true] at e
  have := (h2 0).lt
  omega
theorem W1.up {n : Nat} {wa W W' : World} {v : Value} (h : ∃ g, v = .slice (some ⟨g, 0, none⟩) n n ∧ wa.heap.size ≤ g ∧ ∀ B, RowsO B g n W (fun _ => .slice none 0 0) (fun _ => [])) (hB : Below W.heap.size W W') : ∃ g, v = .slice (some ⟨g, 0, none⟩) n n ∧ wa.heap.size ≤ g ∧ ∀ B, RowsO B g n W' (fun _ => .slice none 0 0) (fun _ => []) := by
  obtain ⟨g, h1, h2, h3⟩ := h
  exact ⟨g, h1, h2, fun B => (h3 B).below hB⟩
theorem dep_in {md : Region.Mode} {ops : Array Oper} {a0 : Act} {G : (Nat → Bool) → Tmp → Value → World → Prop} {S : (Nat → Bool) → (Tmp → Value) → World → Prop} {j : Nat} {o : Oper} {l : Nat → Bool} {a : Act} {w : World} (H : L3.Hand md ops a0 G S j o l a w) (i : Nat) (hd : dep md ops i j = true) : l i = false := by
  cases e : l i
  · rfl
  · have := H.closed i j hd e
    rw [H.new] at this
    cases this
set_option maxHeartbeats 1000000 in
set_option maxRecDepth 100000 in
theorem w1_ok {Q : Exit → Act → World → Prop} {a0 : Act} {wa : World} (n : Nat) (hn : n ≤ 1000) (hz : a0.tmps.size = 56) (b0 : a0.eval (.tmp 0) = .int .i64 (n : Int))
    (hend : ∀ (s : Tmp → Value) (W : World) (gf gt : Nat), s 4 = .slice (some ⟨gf, 0, none⟩) n n → s 5 = .slice (some ⟨gt, 0, none⟩) n n → gf ≠ gt → wa.heap.size ≤ gf → wa.heap.size ≤ gt → (∀ B, RowsO B gf n W (fun _ => .slice none 0 0) (fun _ => [])) → (∀ B, RowsO B gt n W (fun _ => .slice none 0 0) (fun _ => [])) → Below wa.heap.size wa W → Q .normal (overlay a0 (dstsOf ops_w1) s) W) : (Code.region 1 ops_w1 true).wp Try.prog Q a0 wa := by
  refine L3.wp_region_eachL (by kernel_rfl) (fun _ t v _ => (match t with | 9 => v = .int .i64 (n : Int) | 11 => v = .int .i64 (n : Int) | _ => True)) (W1 n wa) (by rw [hz]; kernel_rfl) ⟨(Below.refl _ _).drew, fun h => by simp at h, fun h => by simp at h, fun h => by simp at h, fun h => by simp at h, fun h => by simp at h⟩ ?_ ?_
  · refine And.intro ?_ (And.intro ?_ (And.intro ?_ (And.intro ?_ (And.intro ?_ (And.intro ?_ trivial)))))
    · refine L3.asked_any rfl fun l a W H => ⟨.int .i64 (n : Int), W, ?_, ?_, ⟨H.s.below, H.s.a, H.s.b, H.s.ne, H.s.c, H.s.d⟩, fun _ _ h => h⟩
      · exact Bg.ex_move rfl ((H.base 0 rfl).trans b0)
      · intro d hd; cases hd; rfl
    · refine L3.asked_any rfl fun l a W H => ?_
      have e9 : a.eval (.tmp 9) = .int .i64 (n : Int) := H.facts 9 rfl
      obtain ⟨W', r1, r2, r3⟩ := run_rows W n hn
      have n4 : l 4 = false := dep_in H 4 rfl
      refine ⟨_, W', ?_, fun d hd => by cases hd; trivial, ⟨bel_of H.s.below r3, fun _ => ⟨_, rfl, H.s.below.size, r2⟩, fun h => W1.up (H.s.b h) r3, fun _ h e => W1.lt (H.s.b h) e.symm, fun h => (by rw [show (upd l 1) 4 = l 4 from rfl, n4] at h; cases h), H.s.d⟩, fun _ _ h => h⟩
      simp [execOp, e9, r1]
    · refine L3.asked_any rfl fun l a W H => ⟨.int .i64 (n : Int), W, ?_, ?_, ⟨H.s.below, H.s.a, H.s.b, H.s.ne, H.s.c, H.s.d⟩, fun _ _ h => h⟩
      · exact Bg.ex_move rfl ((H.base 0 rfl).trans b0)
      · intro d hd; cases hd; rfl
    · refine L3.asked_any rfl fun l a W H => ?_
      have e11 : a.eval (.tmp 11) = .int .i64 (n : Int) := H.facts 11 rfl
      obtain ⟨W', r1, r2, r3⟩ := run_rows W n hn
      have n5 : l 5 = false := dep_in H 5 rfl
      refine ⟨_, W', ?_, fun d hd => by cases hd; trivial, ⟨bel_of H.s.below r3, fun h => W1.up (H.s.a h) r3, fun _ => ⟨_, rfl, H.s.below.size, r2⟩, fun h _ e => W1.lt (H.s.a h) e, H.s.c, fun h => (by rw [show (upd l 3) 5 = l 5 from rfl, n5] at h; cases h)⟩, fun _ _ h => h⟩
      simp [execOp, e11, r1]
    · refine L3.asked_any rfl fun l a W H => ⟨a.eval (.tmp 10), W, Bg.ex_assign rfl rfl, fun d hd => by cases hd; trivial, ⟨H.s.below, H.s.a, H.s.b, H.s.ne, fun _ => rfl, H.s.d⟩, fun _ _ h => h⟩
    · refine L3.asked_any rfl fun l a W H => ⟨a.eval (.tmp 12), W, Bg.ex_assign rfl rfl, fun d hd => by cases hd; trivial, ⟨H.s.below, H.s.a, H.s.b, H.s.ne, H.s.c, fun _ => rfl⟩, fun _ _ h => h⟩
  · intro l s W hall hS hs
    obtain ⟨gf, f1, f2, f3⟩ := hS.a (hall 1 (by decide))
    obtain ⟨gt, t1, t2, t3⟩ := hS.b (hall 3 (by decide))
    refine hend s W gf gt ((hS.c (hall 4 (by decide))).trans f1) ((hS.d (hall 5 (by decide))).trans t1) (fun e => hS.ne (hall 1 (by decide)) (hall 3 (by decide)) ?_) f2 t2 f3 t3 hS.below
    rw [f1, t1, e]
end Go.Proofs.Ytblcbccchlljhaa
