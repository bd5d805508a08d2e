/- MachSlots' two statements that draw their order, each over any activation. -/
import Derived.Test.YtbgedbahabbanaaI5
import Derived.Test.YtbgedbahabbanaaCallL
namespace Go.Proofs.Ytbgedbahabbanaa
open Go Go.RowKit Ir
def ops67 : Array Oper := #[{ dst := some 29, op := Op.fieldAddr 24 (Operand.tmp 13) 3, type := 0, pos := "law.go:131", after := #[], guard := none }, { dst := some 30, op := Op.load 22 (Operand.tmp 29), type := 22, pos := "law.go:131", after := #[{ on := 0, ground := Ground.data }], guard := none }, { dst := some 31, op := Op.load 46 (Operand.tmp 14), type := 46, pos := "law.go:131", after := #[], guard := none }, { dst := some 32, op := Op.buildSlice 36 1 #[(0, Operand.tmp 31)], type := 36, pos := "law.go:131", after := #[{ on := 2, ground := Ground.data }], guard := none }, { dst := some 33, op := Op.fieldAddr 24 (Operand.tmp 13) 3, type := 0, pos := "law.go:131", after := #[], guard := none }, { dst := some 34, op := Op.load 22 (Operand.tmp 33), type := 22, pos := "law.go:131", after := #[{ on := 4, ground := Ground.data }], guard := none }, { dst := some 35, op := Op.indexAddr 22 (Operand.tmp 34) (Operand.const (Value.int IntKind.i64 0)), type := 0, pos := "law.go:131", after := #[{ on := 5, ground := Ground.data }], guard := none }, { dst := some 36, op := Op.fieldAddr 41 (Operand.tmp 35) 0, type := 0, pos := "law.go:131", after := #[{ on := 6, ground := Ground.data }], guard := none }, { dst := some 37, op := Op.load 36 (Operand.tmp 36), type := 36, pos := "law.go:131", after := #[{ on := 7, ground := Ground.data }], guard := none }, { dst := some 38, op := Op.call { callee := Callee.builtin Builtin.append, args := #[Operand.tmp 32, Operand.tmp 37], argTypes := #[36, 36] }, type := 36, pos := "law.go:131", after := #[{ on := 3, ground := Ground.data }, { on := 8, ground := Ground.data }], guard := none }, { dst := some 39, op := Op.indexAddr 22 (Operand.tmp 30) (Operand.const (Value.int IntKind.i64 0)), type := 0, pos := "law.go:131", after := #[{ on := 1, ground := Ground.data }, { on := 0, ground := Ground.phase }, { on := 1, ground := Ground.phase }, { on := 2, ground := Ground.phase }, { on := 3, ground := Ground.phase }, { on := 4, ground := Ground.phase }, { on := 5, ground := Ground.phase }, { on := 6, ground := Ground.phase }, { on := 7, ground := Ground.phase }, { on := 8, ground := Ground.phase }, { on := 9, ground := Ground.phase }], guard := none }, { dst := some 40, op := Op.fieldAddr 41 (Operand.tmp 39) 0, type := 0, pos := "law.go:131", after := #[{ on := 10, ground := Ground.data }, { on := 0, ground := Ground.phase }, { on := 1, ground := Ground.phase }, { on := 2, ground := Ground.phase }, { on := 3, ground := Ground.phase }, { on := 4, ground := Ground.phase }, { on := 5, ground := Ground.phase }, { on := 6, ground := Ground.phase }, { on := 7, ground := Ground.phase }, { on := 8, ground := Ground.phase }, { on := 9, ground := Ground.phase }], guard := none }, { dst := none, op := Op.store 36 (Operand.tmp 40) (Operand.tmp 38), type := 0, pos := "law.go:131", after := #[{ on := 11, ground := Ground.data }, { on := 9, ground := Ground.data }, { on := 9, ground := Ground.chain }, { on := 0, ground := Ground.phase }, { on := 1, ground := Ground.phase }, { on := 2, ground := Ground.phase }, { on := 3, ground := Ground.phase }, { on := 4, ground := Ground.phase }, { on := 5, ground := Ground.phase }, { on := 6, ground := Ground.phase }, { on := 7, ground := Ground.phase }, { on := 8, ground := Ground.phase }, { on := 9, ground := Ground.phase }], guard := none }]
def ops613 : Array Oper := #[{ dst := some 62, op := Op.load 24 (Operand.tmp 13), type := 24, pos := "law.go:139", after := #[], guard := none }, { dst := some 63, op := Op.call { callee := Callee.value (Operand.func 10), args := #[Operand.tmp 62], argTypes := #[24] }, type := 33, pos := "law.go:139", after := #[{ on := 0, ground := Ground.data }], guard := none }, { dst := some 64, op := Op.load 33 (Operand.tmp 15), type := 33, pos := "law.go:139", after := #[], guard := none }, { dst := some 65, op := Op.binOp BinOp.eql 33 (Operand.tmp 63) (Operand.tmp 64) 33, type := 4, pos := "law.go:139", after := #[{ on := 1, ground := Ground.data }, { on := 2, ground := Ground.data }], guard := none }, { dst := some 12, op := Op.assign (Operand.tmp 65), type := 4, pos := "law.go:139", after := #[{ on := 3, ground := Ground.data }, { on := 1, ground := Ground.chain }, { on := 0, ground := Ground.phase }, { on := 1, ground := Ground.phase }, { on := 2, ground := Ground.phase }, { on := 3, ground := Ground.phase }], guard := none }]
theorem own_one (W : World) (X : Ins) {B3 : Nat} (hB : B3 ≤ W.heap.size) : (W.alloc (.cells (rowI X (.slice none 0 0)) 46)).ownsRow B3 46 7 (.slice (some ⟨W.heap.size, 0, none⟩) 1 1) 1 (cellsI [(X, Value.slice none 0 0)]) :=
  ⟨rfl, .inr ⟨W.heap.size, 1, _, rfl, hB, heap_alloc_new W _, Nat.le_refl _, by simp [maxLen], rfl, rfl⟩⟩
theorem run_load33 {a : Act} {o : Oper} {W : World} {x : Operand} {b : Nat} {c : Int × Int × Int} (hop : o.op = .load 33 x) (ex : a.eval x = .pointer (some ⟨b, 0, none⟩)) (c0 : W.cell? ⟨b, 0, none⟩ = some (.int .i64 c.1)) (c1 : W.cell? ⟨b, 1, none⟩ = some (.int .i64 c.2.1)) (c2 : W.cell? ⟨b, 2, none⟩ = some (.int .i64 c.2.2)) : (execOp a.eval o).run Try.prog W = .ok (.value (faultV c)) W := by
  unfold faultV
  generalize a.eval = ρ at ex ⊢
  unfold execOp
  rw [hop]
  go_simp
/-- What is known of each temporary of 'c.Blocks[0].Ins = append([]api.Ins{i}, c.Blocks[0].Ins...)'. -/
def G67 (B3 pc g nb gc n ci : Nat) (ua : Option Addr) (X : Ins) (ps : List (Ins × Value)) (l : Nat → Bool) : Tmp → Value → World → Prop
  | 29, xx, _ => xx = .pointer (some ⟨pc, 3, none⟩)
  | 30, xx, _ => xx = .slice (some ⟨g, 0, none⟩) nb gc
  | 31, xx, _ => xx = insV X (.slice none 0 0)
  | 32, xx, ww => l 9 = false → ww.ownsRow B3 46 7 xx 1 (cellsI [(X, Value.slice none 0 0)])
  | 33, xx, _ => xx = .pointer (some ⟨pc, 3, none⟩)
  | 34, xx, _ => xx = .slice (some ⟨g, 0, none⟩) nb gc
  | 35, xx, _ => xx = .pointer (some ⟨g, 0, none⟩)
  | 36, xx, _ => xx = .pointer (some ⟨g, 0, none⟩)
  | 37, xx, _ => xx = .slice ua n ci
  | 38, xx, ww => l 9 = true → l 12 = false → ww.ownsRow B3 46 7 xx ([(X, Value.slice none 0 0)] ++ ps).length (cellsI ([(X, Value.slice none 0 0)] ++ ps))
  | 39, xx, _ => xx = .pointer (some ⟨g, 0, none⟩)
  | 40, xx, _ => xx = .pointer (some ⟨g, 0, none⟩)
  | _, _, _ => True

section
variable {B3 pc g nb gc n ci : Nat} {ua : Option Addr} {X : Ins} {ps : List (Ins × Value)} {l : Nat → Bool} {t : Tmp} {y : Value} {W W' : World}
theorem G67_mono {j : Nat} (h : G67 B3 pc g nb gc n ci ua X ps l t y W) (h9 : j ≠ 9) (h12 : j ≠ 12) (hb : Below W.heap.size W W') : G67 B3 pc g nb gc n ci ua X ps (upd l j) t y W' := by
  have u9 : upd l j 9 = l 9 := if_neg (fun e => h9 e.symm)
  have u12 : upd l j 12 = l 12 := if_neg (fun e => h12 e.symm)
  unfold G67 at h ⊢
  split
  all_goals
    first
      | exact h
      | (intro e1; rw [u9] at e1; exact owns_below (h e1) hb)
      | (intro e1 e2; rw [u9] at e1; rw [u12] at e2; exact owns_below (h e1 e2) hb)
      | trivial
theorem G67_9 (h : G67 B3 pc g nb gc n ci ua X ps l t y W) (ht : t ≠ 38) : G67 B3 pc g nb gc n ci ua X ps (upd l 9) t y W' := by
  have u9 : upd l 9 9 = true := rfl
  unfold G67 at h ⊢
  split
  all_goals
    first
      | exact h
      | exact absurd rfl ht
      | (intro e1; rw [u9] at e1; exact absurd e1 (by decide))
      | trivial
theorem G67_12 (h : G67 B3 pc g nb gc n ci ua X ps l t y W) (l9 : l 9 = true) : G67 B3 pc g nb gc n ci ua X ps (upd l 12) t y W' := by
  have u9 : upd l 12 9 = l 9 := rfl
  have u12 : upd l 12 12 = true := rfl
  unfold G67 at h ⊢
  split
  all_goals
    first
      | exact h
      | (intro e1; rw [u9, l9] at e1; exact absurd e1 (by decide))
      | (intro e1 e2; rw [u12] at e2; exact absurd e2 (by decide))
      | trivial
end
structure S67 (g : Nat) (w3 : World) (qs : List (Ins × Value)) (l : Nat → Bool) (W : World) : Prop where
  below : l 12 = false → Below w3.heap.size w3 W
  done : l 12 = true → ∃ W1 v, Below w3.heap.size w3 W1 ∧ W1.ownsRow w3.heap.size 46 7 v qs.length (cellsI qs) ∧ W = W1.setCell ⟨g, 0, none⟩ v
theorem S67.skip {g : Nat} {w3 : World} {qs : List (Ins × Value)} {l : Nat → Bool} {W : World} (h : S67 g w3 qs l W) {i : Nat} (hi : i ≠ 12) : S67 g w3 qs (upd l i) W := by
  have u : upd l i 12 = l 12 := if_neg (fun e => hi e.symm)
  exact ⟨by rw [u]; exact h.below, by rw [u]; exact h.done⟩
set_option maxHeartbeats 1000000 in
set_option maxRecDepth 100000 in
theorem r67_ok {Q : Exit → Act → World → Prop} {a0 : Act} {wd : World} {pc pn g nb gc n ci : Nat} {ua : Option Addr} {X : Ins} {ps : List (Ins × Value)} (hz : a0.tmps.size = 66) (b13 : a0.eval (.tmp 13) = .pointer (some ⟨pc, 0, none⟩)) (b14 : a0.eval (.tmp 14) = .pointer (some ⟨pn, 0, none⟩)) (hnb : 0 < nb)
    (m3 : wd.cell? ⟨pc, 3, none⟩ = some (.slice (some ⟨g, 0, none⟩) nb gc)) (hc0 : wd.cell? ⟨g, 0, none⟩ = some (.slice ua n ci)) (hrow : ∃ cs, wd.heap[g]? = some (Obj.cells cs 41 (0, 0))) (hbox : InsCells wd pn 0 X (.slice none 0 0)) (hsrc : SrcI wd (.slice ua n ci) ps) (hpl : ps.length ≤ 100) (hsl : ∀ p ∈ ps, ∃ a n c, p.2 = .slice a n c)
    (hend : ∀ (q : Tmp → Value) (W1 : World) (v : Value), Below wd.heap.size wd W1 → W1.ownsRow wd.heap.size 46 7 v ([(X, Value.slice none 0 0)] ++ ps).length (cellsI ([(X, Value.slice none 0 0)] ++ ps)) → Q .normal (overlay a0 (dstsOf ops67) q) (W1.setCell ⟨g, 0, none⟩ v)) : (Code.region 7 ops67 true).wp Try.prog Q a0 wd := by
  refine L.wp_region_eachL (by kernel_rfl) (fun l t y W => G67 wd.heap.size pc g nb gc n ci ua X ps l t y W) (fun l W => S67 g wd ([(X, Value.slice none 0 0)] ++ ps) l W) (by rw [hz]; kernel_rfl) ⟨fun _ => (Below.refl _ _).drew, fun h => by simp at h⟩ ?_ ?_
  · refine And.intro ?_ (And.intro ?_ (And.intro ?_ (And.intro ?_ (And.intro ?_ (And.intro ?_ (And.intro ?_ (And.intro ?_ (And.intro ?_ (And.intro ?_ (And.intro ?_ (And.intro ?_ (And.intro ?_ trivial))))))))))))
    · refine L.asked_pure rfl rfl (fun _ _ h => h.skip (by decide)) (fun _ _ _ _ _ h => G67_mono h (by decide) (by decide) (Below.refl _ _)) (fun _ _ _ => rfl) (fun l a W H => ?_)
      have e13 : a.eval (.tmp 13) = .pointer (some ⟨pc, 0, none⟩) := (H.base 13 rfl).trans b13
      (simp only [execOp]; try simp only [Option.map]); (try simp only [List.map_toArray, List.map_cons, List.map_nil]); (simp only [e13]; go_simp)
      all_goals (try first | go_num | omega | (rw [IntKind.wrap_i64]; omega) | (rw [IntKind.wrap_u8]; omega))
    · refine L.asked_pure rfl rfl (fun _ _ h => h.skip (by decide)) (fun _ _ _ _ _ h => G67_mono h (by decide) (by decide) (Below.refl _ _)) (fun _ _ _ => rfl) (fun l a W H => ?_)
      have e29 : a.eval (.tmp 29) = .pointer (some ⟨pc, 3, none⟩) := H.facts 29 rfl
      have hl : l 12 = false := by
        cases hs : l 12 with
        | false => rfl
        | true =>
          have h1 := (H.closed 10 1 (by rfl) (H.closed 11 10 (by rfl) (H.closed 12 11 (by rfl) hs)))
          rw [H.new] at h1
          cases h1
      have hcc := cell_below (H.s.below hl) m3
      (simp only [execOp]; try simp only [Option.map]); (try simp only [List.map_toArray, List.map_cons, List.map_nil]); (simp only [e29]; go_simp)
      all_goals (try first | go_num | omega | (rw [IntKind.wrap_i64]; omega) | (rw [IntKind.wrap_u8]; omega))
    · refine L.asked_pure rfl rfl (fun _ _ h => h.skip (by decide)) (fun _ _ _ _ _ h => G67_mono h (by decide) (by decide) (Below.refl _ _)) (fun _ _ _ => rfl) (fun l a W H => ?_)
      have e14 : a.eval (.tmp 14) = .pointer (some ⟨pn, 0, none⟩) := (H.base 14 rfl).trans b14
      have hl : l 12 = false := by
        cases hs : l 12 with
        | false => rfl
        | true =>
          have h1 := (H.closed 3 2 (by rfl) (H.closed 9 3 (by rfl) (H.closed 12 9 (by rfl) hs)))
          rw [H.new] at h1
          cases h1
      exact run_load46 rfl e14 (hbox.below (H.s.below hl))
    · refine L.asked_any rfl (fun l a W H => ?_)
      have hl : l 12 = false := by
        cases hs : l 12 with
        | false => rfl
        | true =>
          have h1 := (H.closed 9 3 (by rfl) (H.closed 12 9 (by rfl) hs))
          rw [H.new] at h1
          cases h1
      have hb := H.s.below hl
      have e31 : a.eval (.tmp 31) = insV X (.slice none 0 0) := H.facts 31 rfl
      have hbx := bel1' W (.cells (rowI X (.slice none 0 0)) 46)
      refine ⟨.slice (some ⟨W.heap.size, 0, none⟩) 1 1, W.alloc (.cells (rowI X (.slice none 0 0)) 46), ?_, fun d hd => by cases hd; exact fun _ => own_one W X hb.size, ⟨fun _ => bel_of hb hbx, fun h => by have h' : l 12 = true := h; rw [hl] at h'; cases h'⟩, fun _ _ _ h => G67_mono h (by decide) (by decide) hbx⟩
      unfold insV at e31
      unfold rowI
      (simp only [execOp]; try simp only [Option.map]); (try simp only [List.map_toArray, List.map_cons, List.map_nil]); (simp only [e31]; go_simp)
    · refine L.asked_pure rfl rfl (fun _ _ h => h.skip (by decide)) (fun _ _ _ _ _ h => G67_mono h (by decide) (by decide) (Below.refl _ _)) (fun _ _ _ => rfl) (fun l a W H => ?_)
      have e13 : a.eval (.tmp 13) = .pointer (some ⟨pc, 0, none⟩) := (H.base 13 rfl).trans b13
      (simp only [execOp]; try simp only [Option.map]); (try simp only [List.map_toArray, List.map_cons, List.map_nil]); (simp only [e13]; go_simp)
      all_goals (try first | go_num | omega | (rw [IntKind.wrap_i64]; omega) | (rw [IntKind.wrap_u8]; omega))
    · refine L.asked_pure rfl rfl (fun _ _ h => h.skip (by decide)) (fun _ _ _ _ _ h => G67_mono h (by decide) (by decide) (Below.refl _ _)) (fun _ _ _ => rfl) (fun l a W H => ?_)
      have e33 : a.eval (.tmp 33) = .pointer (some ⟨pc, 3, none⟩) := H.facts 33 rfl
      have hl : l 12 = false := by
        cases hs : l 12 with
        | false => rfl
        | true =>
          have h1 := (H.closed 6 5 (by rfl) (H.closed 7 6 (by rfl) (H.closed 8 7 (by rfl) (H.closed 9 8 (by rfl) (H.closed 12 9 (by rfl) hs)))))
          rw [H.new] at h1
          cases h1
      have hcc := cell_below (H.s.below hl) m3
      (simp only [execOp]; try simp only [Option.map]); (try simp only [List.map_toArray, List.map_cons, List.map_nil]); (simp only [e33]; go_simp)
      all_goals (try first | go_num | omega | (rw [IntKind.wrap_i64]; omega) | (rw [IntKind.wrap_u8]; omega))
    · refine L.asked_pure rfl rfl (fun _ _ h => h.skip (by decide)) (fun _ _ _ _ _ h => G67_mono h (by decide) (by decide) (Below.refl _ _)) (fun _ _ _ => rfl) (fun l a W H => ?_)
      have e34 : a.eval (.tmp 34) = .slice (some ⟨g, 0, none⟩) nb gc := H.facts 34 rfl
      have hnb0 : (0 : Int) < (nb : Int) := by omega
      (simp only [execOp]; try simp only [Option.map]); (try simp only [List.map_toArray, List.map_cons, List.map_nil]); (simp only [e34]; go_simp)
      all_goals (try first | go_num | omega | (rw [IntKind.wrap_i64]; omega) | (rw [IntKind.wrap_u8]; omega))
    · refine L.asked_pure rfl rfl (fun _ _ h => h.skip (by decide)) (fun _ _ _ _ _ h => G67_mono h (by decide) (by decide) (Below.refl _ _)) (fun _ _ _ => rfl) (fun l a W H => ?_)
      have e35 : a.eval (.tmp 35) = .pointer (some ⟨g, 0, none⟩) := H.facts 35 rfl
      (simp only [execOp]; try simp only [Option.map]); (try simp only [List.map_toArray, List.map_cons, List.map_nil]); (simp only [e35]; go_simp)
      all_goals (try first | go_num | omega | (rw [IntKind.wrap_i64]; omega) | (rw [IntKind.wrap_u8]; omega))
    · refine L.asked_pure rfl rfl (fun _ _ h => h.skip (by decide)) (fun _ _ _ _ _ h => G67_mono h (by decide) (by decide) (Below.refl _ _)) (fun _ _ _ => rfl) (fun l a W H => ?_)
      have e36 : a.eval (.tmp 36) = .pointer (some ⟨g, 0, none⟩) := H.facts 36 rfl
      have hl : l 12 = false := by
        cases hs : l 12 with
        | false => rfl
        | true =>
          have h1 := (H.closed 9 8 (by rfl) (H.closed 12 9 (by rfl) hs))
          rw [H.new] at h1
          cases h1
      have hcc := cell_below (H.s.below hl) hc0
      (simp only [execOp]; try simp only [Option.map]); (try simp only [List.map_toArray, List.map_cons, List.map_nil]); (simp only [e36]; go_simp)
      all_goals (try first | go_num | omega | (rw [IntKind.wrap_i64]; omega) | (rw [IntKind.wrap_u8]; omega))
    · refine L.asked_any rfl (fun l a W H => ?_)
      have hl : l 12 = false := by
        cases hs : l 12 with
        | false => rfl
        | true =>
          have h1 := (H.closed 12 9 (by rfl) hs)
          rw [H.new] at h1
          cases h1
      have hb := H.s.below hl
      have e37 : a.eval (.tmp 37) = .slice ua n ci := H.facts 37 rfl
      have hown0 := (show l 9 = false → W.ownsRow wd.heap.size 46 7 (a.eval (.tmp 32)) 1 (cellsI [(X, Value.slice none 0 0)]) from H.facts 32 rfl) H.new
      have hown0 : W.ownsRow wd.heap.size 46 7 (a.eval (.tmp 32)) [(X, Value.slice none 0 0)].length (cellsI [(X, Value.slice none 0 0)]) := hown0
      refine appI_ok rfl rfl e37 hown0 (hsrc.below hb) hsl (by simp only [List.length_cons, List.length_nil]; omega) hb.size fun v' w' g1 g2 => ?_
      exact ⟨fun d hd => by cases hd; exact fun _ _ => g1, ⟨fun _ => hb.grown g2 hb.size (fun k hk => (hown0.lt k hk).1), fun h => by have h' : l 12 = true := h; rw [hl] at h'; cases h'⟩, fun d _ hd h => G67_9 h (fun e => hd (by rw [e]))⟩
    · refine L.asked_pure rfl rfl (fun _ _ h => h.skip (by decide)) (fun _ _ _ _ _ h => G67_mono h (by decide) (by decide) (Below.refl _ _)) (fun _ _ _ => rfl) (fun l a W H => ?_)
      have e30 : a.eval (.tmp 30) = .slice (some ⟨g, 0, none⟩) nb gc := H.facts 30 rfl
      have hnb0 : (0 : Int) < (nb : Int) := by omega
      (simp only [execOp]; try simp only [Option.map]); (try simp only [List.map_toArray, List.map_cons, List.map_nil]); (simp only [e30]; go_simp)
      all_goals (try first | go_num | omega | (rw [IntKind.wrap_i64]; omega) | (rw [IntKind.wrap_u8]; omega))
    · refine L.asked_pure rfl rfl (fun _ _ h => h.skip (by decide)) (fun _ _ _ _ _ h => G67_mono h (by decide) (by decide) (Below.refl _ _)) (fun _ _ _ => rfl) (fun l a W H => ?_)
      have e39 : a.eval (.tmp 39) = .pointer (some ⟨g, 0, none⟩) := H.facts 39 rfl
      (simp only [execOp]; try simp only [Option.map]); (try simp only [List.map_toArray, List.map_cons, List.map_nil]); (simp only [e39]; go_simp)
      all_goals (try first | go_num | omega | (rw [IntKind.wrap_i64]; omega) | (rw [IntKind.wrap_u8]; omega))
    · refine L.asked_skip rfl rfl (fun l a W H => ?_)
      have hb := H.s.below H.new
      have l9 : l 9 = true := H.deps ⟨9, .data⟩ (by simp) rfl
      have e40 : a.eval (.tmp 40) = .pointer (some ⟨g, 0, none⟩) := H.facts 40 rfl
      have hO := (show l 9 = true → l 12 = false → W.ownsRow wd.heap.size 46 7 (a.eval (.tmp 38)) ([(X, Value.slice none 0 0)] ++ ps).length (cellsI ([(X, Value.slice none 0 0)] ++ ps)) from H.facts 38 rfl) l9 H.new
      generalize e38 : a.eval (.tmp 38) = yv at hO
      obtain ⟨ya, yn, yc, rfl⟩ : ∃ ya yn yc, yv = .slice ya yn yc := by
        rcases hO.2 with ⟨rfl, _⟩ | ⟨_, _, _, rfl, _⟩
        · exact ⟨_, _, _, rfl⟩
        · exact ⟨_, _, _, rfl⟩
      have hcc := cell_below hb hc0
      obtain ⟨csg, hcg⟩ := hrow
      have hrg := hb.block g (Array.getElem?_eq_some_iff.1 hcg).1
      rw [hcg] at hrg
      have hf : W.frozen? ⟨g, 0, none⟩ = false := frozen_of_row _ _ _ _ _ hrg
      refine ⟨W.setCell ⟨g, 0, none⟩ (.slice ya yn yc), ?_, ⟨fun h => by simp [upd] at h, fun _ => ⟨W, _, hb, hO, rfl⟩⟩, fun _ _ h => G67_12 h l9⟩
      (simp only [execOp]; try simp only [Option.map]); (try simp only [List.map_toArray, List.map_cons, List.map_nil]); (simp only [e38, e40]; go_simp)
  · intro l q W hall hS hq
    obtain ⟨W1, v, h1, h2, rfl⟩ := hS.done (hall 12 (by decide))
    exact hend q W1 v h1 h2
/-- What is known of each temporary of 'return mach.Check(c) == want'. -/
def G613 (C : Cod) (u : Value) (c : Int × Int × Int) : Tmp → Value → World → Prop
  | 62, xx, _ => xx = .agg #[.int .i64 C.p, .int .i64 C.r, .int .i64 C.s, u]
  | 63, xx, _ => xx = faultV c
  | 64, xx, _ => xx = faultV c
  | 65, xx, _ => xx = .bool (true)
  | 12, xx, _ => xx = .bool (true)
  | _, _, _ => True

set_option maxHeartbeats 1000000 in
set_option maxRecDepth 100000 in
theorem r613_ok {Q : Exit → Act → World → Prop} {a0 : Act} {wd : World} {pc pw : Nat} {C : Cod} {u : Value} {c : Int × Int × Int} (hz : a0.tmps.size = 66) (b13 : a0.eval (.tmp 13) = .pointer (some ⟨pc, 0, none⟩)) (b15 : a0.eval (.tmp 15) = .pointer (some ⟨pw, 0, none⟩)) (hc : mchk C = c) (hV : BlksV wd u C.bs)
    (m0 : wd.cell? ⟨pc, 0, none⟩ = some (.int .i64 C.p)) (m1 : wd.cell? ⟨pc, 1, none⟩ = some (.int .i64 C.r)) (m2 : wd.cell? ⟨pc, 2, none⟩ = some (.int .i64 C.s)) (m3 : wd.cell? ⟨pc, 3, none⟩ = some u)
    (v0 : wd.cell? ⟨pw, 0, none⟩ = some (.int .i64 c.1)) (v1 : wd.cell? ⟨pw, 1, none⟩ = some (.int .i64 c.2.1)) (v2 : wd.cell? ⟨pw, 2, none⟩ = some (.int .i64 c.2.2))
    (hend : ∀ (q : Tmp → Value) (W : World), q 12 = .bool true → Below wd.heap.size wd W → Q .normal (overlay a0 (dstsOf ops613) q) W) : (Code.region 13 ops613 true).wp Try.prog Q a0 wd := by
  refine L.wp_region_eachL (by kernel_rfl) (fun _ t y _ => G613 C u c t y wd) (fun _ W => Below wd.heap.size wd W) (by rw [hz]; kernel_rfl) (Below.refl _ _).drew ?_ ?_
  · refine And.intro ?_ (And.intro ?_ (And.intro ?_ (And.intro ?_ (And.intro ?_ trivial))))
    · refine L.asked_pure rfl rfl (fun _ _ h => h) (fun _ _ _ _ _ h => h) (fun _ _ _ => rfl) (fun l a W H => ?_)
      have e13 : a.eval (.tmp 13) = .pointer (some ⟨pc, 0, none⟩) := (H.base 13 rfl).trans b13
      exact run_load24 rfl e13 (cell_below H.s m0) (cell_below H.s m1) (cell_below H.s m2) (cell_below H.s m3)
    · refine L.asked_call rfl Try.func10 (by kernel_rfl) (by kernel_rfl) rfl rfl (fun l a W H => ?_)
      have e62 : a.eval (.tmp 62) = .agg #[.int .i64 C.p, .int .i64 C.r, .int .i64 C.s, u] := H.facts 62 rfl
      have ea : (#[.tmp 62] : Array Operand).map a.eval = #[.agg #[.int .i64 C.p, .int .i64 C.r, .int .i64 C.s, u]] := by
        simp only [List.map_toArray, List.map_cons, List.map_nil, e62]
      rw [ea]
      refine (mCheck_any C _ W ⟨_, rfl, hV.below H.s⟩).mono ?_
      rintro x w' ⟨rfl, hB⟩
      exact ⟨_, rfl, by rw [hc]; rfl, bel_of H.s hB, fun _ _ _ h => h⟩
    · refine L.asked_pure rfl rfl (fun _ _ h => h) (fun _ _ _ _ _ h => h) (fun _ _ _ => rfl) (fun l a W H => ?_)
      have e15 : a.eval (.tmp 15) = .pointer (some ⟨pw, 0, none⟩) := (H.base 15 rfl).trans b15
      exact run_load33 rfl e15 (cell_below H.s v0) (cell_below H.s v1) (cell_below H.s v2)
    · refine L.asked_pure rfl rfl (fun _ _ h => h) (fun _ _ _ _ _ h => h) (fun _ _ _ => rfl) (fun l a W H => ?_)
      have e63 : a.eval (.tmp 63) = faultV c := H.facts 63 rfl
      have e64 : a.eval (.tmp 64) = faultV c := H.facts 64 rfl
      exact run_eql33_same rfl e63 e64
    · refine L.asked_pure rfl rfl (fun _ _ h => h) (fun _ _ _ _ _ h => h) (fun _ _ _ => rfl) (fun l a W H => ?_)
      have e65 : a.eval (.tmp 65) = .bool (true) := H.facts 65 rfl
      exact run_assign rfl e65
  · intro l q W _ hS hq
    exact hend q W (hq 12 rfl) hS
end Go.Proofs.Ytbgedbahabbanaa
