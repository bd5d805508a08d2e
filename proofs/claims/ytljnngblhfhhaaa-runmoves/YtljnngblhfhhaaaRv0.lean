/- RunMoves' regions: a function made twice; a move put into a block. -/
import Derived.Test.YtljnngblhfhhaaaRf
import Derived.Test.YtljnngblhfhhaaaPv
import Derived.Test.YtljnngblhfhhaaaBlk
namespace Go.Proofs.Ytljnngblhfhhaaa
open Go.RowKit Ir

/-- What is known of each temporary. -/
def M8 (B3 g jo kk : Nat) (ui c1 c2 : Value) (X : Ins) (ps : List (Ins × Value)) (l : Nat → Bool) : Tmp → Value → World → Prop
  | 56, xx, _ => xx = .pointer (some ⟨g, jo, none⟩)
  | 57, xx, ww => l 8 = false → ∃ h, xx = .slice (some ⟨h, 0, none⟩) 0 0 ∧ B3 ≤ h ∧ ww.heap[h]? = some (Obj.cells #[] 71 (0, 0))
  | 58, xx, _ => xx = .pointer (some ⟨g, jo, none⟩)
  | 59, xx, _ => xx = .pointer (some ⟨g, jo, none⟩)
  | 60, xx, _ => xx = .pointer (some ⟨g, jo, none⟩)
  | 61, xx, _ => xx = ui
  | 62, xx, _ => xx = .int .i64 (kk : Nat)
  | 63, xx, _ => xx = c1
  | 64, xx, ww => l 8 = true → l 13 = false → ww.ownsRow B3 71 7 xx (ps.take kk).length (cellsI (ps.take kk))
  | 65, xx, _ => xx = .int .i64 X.d
  | 66, xx, _ => xx = .int .i64 X.d
  | 67, xx, _ => xx = insV X (.slice none 0 0)
  | 68, xx, ww => l 13 = false → ∃ h, xx = .slice (some ⟨h, 0, none⟩) 1 1 ∧ B3 ≤ h ∧ ww.heap[h]? = some (Obj.cells (rowI X (.slice none 0 0)) 71 (0, 0))
  | 69, xx, ww => l 13 = true → l 20 = false → ww.ownsRow B3 71 7 xx (ps.take kk ++ [(X, Value.slice none 0 0)]).length (cellsI (ps.take kk ++ [(X, Value.slice none 0 0)]))
  | 70, xx, _ => xx = .pointer (some ⟨g, jo, none⟩)
  | 71, xx, _ => xx = .pointer (some ⟨g, jo, none⟩)
  | 72, xx, _ => xx = .pointer (some ⟨g, jo, none⟩)
  | 73, xx, _ => xx = ui
  | 74, xx, _ => xx = .int .i64 (kk : Nat)
  | 75, xx, _ => xx = c2
  | 76, xx, ww => l 20 = true → l 23 = false → ww.ownsRow B3 71 7 xx ((ps.take kk ++ [(X, Value.slice none 0 0)]) ++ ps.drop kk).length (cellsI ((ps.take kk ++ [(X, Value.slice none 0 0)]) ++ ps.drop kk))
  | 77, xx, _ => xx = .pointer (some ⟨g, jo, none⟩)
  | 78, xx, _ => xx = .pointer (some ⟨g, jo, none⟩)
  | _, _, _ => True
/-- What stands in the world. -/
structure N8 (g jo : Nat) (w3 : World) (qs : List (Ins × Value)) (l : Nat → Bool) (W : World) : Prop where
  below : l 23 = false → Below w3.heap.size w3 W
  done : l 23 = true → ∃ W1 v, Below w3.heap.size w3 W1 ∧ W1.ownsRow w3.heap.size 71 7 v qs.length (cellsI qs) ∧ W = W1.setCell ⟨g, jo, none⟩ v
theorem N8.skip {g jo : Nat} {w3 : World} {qs : List (Ins × Value)} {l : Nat → Bool} {W : World} (h : N8 g jo w3 qs l W) {i : Nat} (hi : i ≠ 23) : N8 g jo w3 qs (upd l i) W := by
  have u : upd l i 23 = l 23 := if_neg (fun e => hi e.symm)
  exact ⟨by rw [u]; exact h.below, by rw [u]; exact h.done⟩
section
variable {B3 g jo kk : Nat} {ui c1 c2 : Value} {X : Ins} {ps : List (Ins × Value)} {l : Nat → Bool} {t : Tmp} {y : Value} {W W' : World}
theorem M8_mono {j : Nat} (h : M8 B3 g jo kk ui c1 c2 X ps l t y W) (h8 : j ≠ 8) (h11 : j ≠ 13) (h18 : j ≠ 20) (h21 : j ≠ 23) (hb : Below W.heap.size W W') : M8 B3 g jo kk ui c1 c2 X ps (upd l j) t y W' := by
  have u8 : upd l j 8 = l 8 := if_neg (fun e => h8 e.symm)
  have u11 : upd l j 13 = l 13 := if_neg (fun e => h11 e.symm)
  have u18 : upd l j 20 = l 20 := if_neg (fun e => h18 e.symm)
  have u21 : upd l j 23 = l 23 := if_neg (fun e => h21 e.symm)
  have hk : ∀ (q : Nat) (cs : Array Value) (e : TypeId), W.heap[q]? = some (Obj.cells cs e (0, 0)) → W'.heap[q]? = some (Obj.cells cs e (0, 0)) := fun q cs e hq => Keeps.below (T := fun _ => true) hb q cs e (0, 0) rfl hq
  unfold M8 at h ⊢
  split
  all_goals
    first
      | exact h
      | (intro e1; rw [u8] at e1; obtain ⟨q, a1, a2, a3⟩ := h e1; exact ⟨q, a1, a2, hk _ _ _ a3⟩)
      | (intro e1; rw [u11] at e1; obtain ⟨q, a1, a2, a3⟩ := h e1; exact ⟨q, a1, a2, hk _ _ _ a3⟩)
      | (intro e1 e2; rw [u8] at e1; rw [u11] at e2; exact owns_below (h e1 e2) hb)
      | (intro e1 e2; rw [u11] at e1; rw [u18] at e2; exact owns_below (h e1 e2) hb)
      | (intro e1 e2; rw [u18] at e1; rw [u21] at e2; exact owns_below (h e1 e2) hb)
      | trivial
theorem M8_8 {h0 : Nat} (h : M8 B3 g jo kk ui c1 c2 X ps l t y W) (ht : t ≠ 64) (l11 : l 13 = false) (l18 : l 20 = false) (h0r : W.heap[h0]? = some (Obj.cells #[] 71 (0, 0))) (hg : W.grownBy W' (some h0)) : M8 B3 g jo kk ui c1 c2 X ps (upd l 8) t y W' := by
  have u8 : upd l 8 8 = true := rfl
  have u11 : upd l 8 13 = l 13 := rfl
  have u18 : upd l 8 20 = l 20 := rfl
  unfold M8 at h ⊢
  split
  all_goals
    first
      | exact h
      | exact absurd rfl ht
      | (intro e1; rw [u8] at e1; exact absurd e1 (by decide))
      | (intro e1; rw [u11] at e1; obtain ⟨q, a1, a2, a3⟩ := h e1; refine ⟨q, a1, a2, ?_⟩; rw [hg.block q (Array.getElem?_eq_some_iff.1 a3).1 (fun e => by simp only [Option.some.injEq] at e; subst e; rw [h0r] at a3; simp [rowI] at a3)]; exact a3)
      | (intro e1 e2; rw [u11, l11] at e1; exact absurd e1 (by decide))
      | (intro e1 e2; rw [u18, l18] at e1; exact absurd e1 (by decide))
      | trivial
theorem M8_11 (h : M8 B3 g jo kk ui c1 c2 X ps l t y W) (ht : t ≠ 69) (l8 : l 8 = true) (l18 : l 20 = false) : M8 B3 g jo kk ui c1 c2 X ps (upd l 13) t y W' := by
  have u8 : upd l 13 8 = l 8 := rfl
  have u11 : upd l 13 13 = true := rfl
  have u18 : upd l 13 20 = l 20 := rfl
  unfold M8 at h ⊢
  split
  all_goals
    first
      | exact h
      | exact absurd rfl ht
      | (intro e1; rw [u8, l8] at e1; exact absurd e1 (by decide))
      | (intro e1; rw [u11] at e1; exact absurd e1 (by decide))
      | (intro e1 e2; rw [u11] at e2; exact absurd e2 (by decide))
      | (intro e1 e2; rw [u18, l18] at e1; exact absurd e1 (by decide))
      | trivial
theorem M8_18 (h : M8 B3 g jo kk ui c1 c2 X ps l t y W) (ht : t ≠ 76) (l8 : l 8 = true) (l11 : l 13 = true) : M8 B3 g jo kk ui c1 c2 X ps (upd l 20) t y W' := by
  have u8 : upd l 20 8 = l 8 := rfl
  have u11 : upd l 20 13 = l 13 := rfl
  have u18 : upd l 20 20 = true := rfl
  unfold M8 at h ⊢
  split
  all_goals
    first
      | exact h
      | exact absurd rfl ht
      | (intro e1; rw [u8, l8] at e1; exact absurd e1 (by decide))
      | (intro e1; rw [u11, l11] at e1; exact absurd e1 (by decide))
      | (intro e1 e2; rw [u11, l11] at e2; exact absurd e2 (by decide))
      | (intro e1 e2; rw [u18] at e2; exact absurd e2 (by decide))
      | trivial
theorem M8_21 (h : M8 B3 g jo kk ui c1 c2 X ps l t y W) (l8 : l 8 = true) (l11 : l 13 = true) (l18 : l 20 = true) : M8 B3 g jo kk ui c1 c2 X ps (upd l 23) t y W' := by
  have u8 : upd l 23 8 = l 8 := rfl
  have u11 : upd l 23 13 = l 13 := rfl
  have u18 : upd l 23 20 = l 20 := rfl
  have u21 : upd l 23 23 = true := rfl
  unfold M8 at h ⊢
  split
  all_goals
    first
      | exact h
      | (intro e1; rw [u8, l8] at e1; exact absurd e1 (by decide))
      | (intro e1; rw [u11, l11] at e1; exact absurd e1 (by decide))
      | (intro e1 e2; rw [u11, l11] at e2; exact absurd e2 (by decide))
      | (intro e1 e2; rw [u18, l18] at e2; exact absurd e2 (by decide))
      | (intro e1 e2; rw [u21] at e2; exact absurd e2 (by decide))
      | trivial
end


def ops_m8 : Array Oper := #[{ dst := some 56, op := Op.move (Operand.tmp 13), type := 60, pos := "law.go:119", after := #[], guard := none }, { dst := some 57, op := Op.buildSlice 61 0 #[], type := 61, pos := "law.go:119", after := #[], guard := none }, { dst := some 58, op := Op.move (Operand.tmp 13), type := 60, pos := "law.go:119", after := #[], guard := none }, { dst := some 59, op := Op.nilCheck (Operand.tmp 58), type := 0, pos := "law.go:119", after := #[{ on := 2, ground := Ground.data }], guard := none }, { dst := some 60, op := Op.fieldAddr 66 (Operand.tmp 59) 0, type := 0, pos := "law.go:119", after := #[{ on := 3, ground := Ground.data }], guard := none }, { dst := some 61, op := Op.load 61 (Operand.tmp 60), type := 61, pos := "law.go:119", after := #[{ on := 4, ground := Ground.data }], guard := none }, { dst := some 62, op := Op.move (Operand.tmp 14), type := 3, pos := "law.go:119", after := #[], guard := none }, { dst := some 63, op := Op.slice 61 (Operand.tmp 61) none (some (Operand.tmp 62)) none, type := 61, pos := "law.go:119", after := #[{ on := 5, ground := Ground.data }, { on := 6, ground := Ground.data }], guard := none }, { dst := some 64, op := Op.call { callee := Callee.builtin Builtin.append, args := #[Operand.tmp 57, Operand.tmp 63], argTypes := #[61, 61] }, type := 61, pos := "law.go:119", after := #[{ on := 1, ground := Ground.data }, { on := 7, ground := Ground.data }], guard := none }, { dst := some 65, op := Op.move (Operand.tmp 15), type := 3, pos := "law.go:119", after := #[], guard := none }, { dst := some 66, op := Op.move (Operand.tmp 15), type := 3, pos := "law.go:119", after := #[], guard := none }, { dst := some 67, op := Op.build 71 #[(0, Operand.const (Value.int IntKind.u8 2)), (2, Operand.tmp 65), (3, Operand.tmp 66)], type := 71, pos := "law.go:119", after := #[{ on := 9, ground := Ground.data }, { on := 10, ground := Ground.data }], guard := none }, { dst := some 68, op := Op.buildSlice 61 1 #[(0, Operand.tmp 67)], type := 61, pos := "law.go:119", after := #[{ on := 11, ground := Ground.data }], guard := none }, { dst := some 69, op := Op.call { callee := Callee.builtin Builtin.append, args := #[Operand.tmp 64, Operand.tmp 68], argTypes := #[61, 61] }, type := 61, pos := "law.go:119", after := #[{ on := 8, ground := Ground.data }, { on := 12, ground := Ground.data }, { on := 8, ground := Ground.chain }], guard := none }, { dst := some 70, op := Op.move (Operand.tmp 13), type := 60, pos := "law.go:119", after := #[], guard := none }, { dst := some 71, op := Op.nilCheck (Operand.tmp 70), type := 0, pos := "law.go:119", after := #[{ on := 14, ground := Ground.data }], guard := none }, { dst := some 72, op := Op.fieldAddr 66 (Operand.tmp 71) 0, type := 0, pos := "law.go:119", after := #[{ on := 15, ground := Ground.data }], guard := none }, { dst := some 73, op := Op.load 61 (Operand.tmp 72), type := 61, pos := "law.go:119", after := #[{ on := 16, ground := Ground.data }], guard := none }, { dst := some 74, op := Op.move (Operand.tmp 14), type := 3, pos := "law.go:119", after := #[], guard := none }, { dst := some 75, op := Op.slice 61 (Operand.tmp 73) (some (Operand.tmp 74)) none none, type := 61, pos := "law.go:119", after := #[{ on := 17, ground := Ground.data }, { on := 18, ground := Ground.data }], guard := none }, { dst := some 76, op := Op.call { callee := Callee.builtin Builtin.append, args := #[Operand.tmp 69, Operand.tmp 75], argTypes := #[61, 61] }, type := 61, pos := "law.go:119", after := #[{ on := 13, ground := Ground.data }, { on := 19, ground := Ground.data }, { on := 13, ground := Ground.chain }], guard := none }, { dst := some 77, op := Op.nilCheck (Operand.tmp 56), type := 0, pos := "law.go:119", after := #[{ on := 0, ground := Ground.data }, { on := 0, ground := Ground.phase }, { on := 1, ground := Ground.phase }, { on := 2, ground := Ground.phase }, { on := 3, ground := Ground.phase }, { on := 4, ground := Ground.phase }, { on := 5, ground := Ground.phase }, { on := 6, ground := Ground.phase }, { on := 7, ground := Ground.phase }, { on := 8, ground := Ground.phase }, { on := 9, ground := Ground.phase }, { on := 10, ground := Ground.phase }, { on := 11, ground := Ground.phase }, { on := 12, ground := Ground.phase }, { on := 13, ground := Ground.phase }, { on := 14, ground := Ground.phase }, { on := 15, ground := Ground.phase }, { on := 16, ground := Ground.phase }, { on := 17, ground := Ground.phase }, { on := 18, ground := Ground.phase }, { on := 19, ground := Ground.phase }, { on := 20, ground := Ground.phase }], guard := none }, { dst := some 78, op := Op.fieldAddr 66 (Operand.tmp 77) 0, type := 0, pos := "law.go:119", after := #[{ on := 21, ground := Ground.data }, { on := 0, ground := Ground.phase }, { on := 1, ground := Ground.phase }, { on := 2, ground := Ground.phase }, { on := 3, ground := Ground.phase }, { on := 4, ground := Ground.phase }, { on := 5, ground := Ground.phase }, { on := 6, ground := Ground.phase }, { on := 7, ground := Ground.phase }, { on := 8, ground := Ground.phase }, { on := 9, ground := Ground.phase }, { on := 10, ground := Ground.phase }, { on := 11, ground := Ground.phase }, { on := 12, ground := Ground.phase }, { on := 13, ground := Ground.phase }, { on := 14, ground := Ground.phase }, { on := 15, ground := Ground.phase }, { on := 16, ground := Ground.phase }, { on := 17, ground := Ground.phase }, { on := 18, ground := Ground.phase }, { on := 19, ground := Ground.phase }, { on := 20, ground := Ground.phase }], guard := none }, { dst := none, op := Op.store 61 (Operand.tmp 78) (Operand.tmp 76), type := 0, pos := "law.go:119", after := #[{ on := 22, ground := Ground.data }, { on := 20, ground := Ground.data }, { on := 20, ground := Ground.chain }, { on := 0, ground := Ground.phase }, { on := 1, ground := Ground.phase }, { on := 2, ground := Ground.phase }, { on := 3, ground := Ground.phase }, { on := 4, ground := Ground.phase }, { on := 5, ground := Ground.phase }, { on := 6, ground := Ground.phase }, { on := 7, ground := Ground.phase }, { on := 8, ground := Ground.phase }, { on := 9, ground := Ground.phase }, { on := 10, ground := Ground.phase }, { on := 11, ground := Ground.phase }, { on := 12, ground := Ground.phase }, { on := 13, ground := Ground.phase }, { on := 14, ground := Ground.phase }, { on := 15, ground := Ground.phase }, { on := 16, ground := Ground.phase }, { on := 17, ground := Ground.phase }, { on := 18, ground := Ground.phase }, { on := 19, ground := Ground.phase }, { on := 20, ground := Ground.phase }], guard := none }]
set_option maxHeartbeats 1000000 in
set_option maxRecDepth 100000 in
theorem m8_ok {Q : Exit → Act → World → Prop} {a0 : Act} {wd : World} {B g jb n ci kk : Nat} {ua : Option Addr} {rr : Int} {ps : List (Ins × Value)} (hz : a0.tmps.size = 106) (b13 : a0.eval (.tmp 13) = .pointer (some ⟨g, jb * 5, none⟩)) (b15 : a0.eval (.tmp 15) = .int .i64 rr) (b14 : a0.eval (.tmp 14) = .int .i64 (kk : Nat))
    (hc0 : wd.cell? ⟨g, jb * 5, none⟩ = some (.slice ua n ci)) (hrow : ∃ cs, wd.heap[g]? = some (Obj.cells cs 66 (0, 0))) (hown : wd.ownsRow B 71 7 (.slice ua n ci) ps.length (cellsI ps)) (hpl : ps.length ≤ 100) (hk : kk ≤ ps.length) (hsl : ∀ p ∈ ps, ∃ a n c, p.2 = .slice a n c)
    (hend : ∀ (q : Tmp → Value) (W1 : World) (v : Value), Below wd.heap.size wd W1 → W1.ownsRow wd.heap.size 71 7 v ((ps.take kk ++ [((mvI rr), Value.slice none 0 0)]) ++ ps.drop kk).length (cellsI ((ps.take kk ++ [((mvI rr), Value.slice none 0 0)]) ++ ps.drop kk)) → Q .normal (overlay a0 (dstsOf ops_m8) q) (W1.setCell ⟨g, jb * 5, none⟩ v)) : (Code.region 8 ops_m8 true).wp Try.prog Q a0 wd := by
  obtain ⟨hsrc1, hkc⟩ := SrcI.cut1 hown hk
  obtain ⟨hsrc2, hkn⟩ := SrcI.cut2 hown hk
  refine L.wp_region_eachL (by kernel_rfl) (fun l t y W => M8 wd.heap.size g (jb * 5) kk (.slice ua n ci) (.slice ua kk ci) (.slice (if ci = kk then ua else ua.map (·.add (kk * 7))) (n - kk) (ci - kk)) (mvI rr) ps l t y W) (fun l W => N8 g (jb * 5) wd ((ps.take kk ++ [((mvI rr), Value.slice none 0 0)]) ++ ps.drop kk) l W) (by rw [hz]; kernel_rfl) ⟨fun _ => (Below.refl _ _).drew, fun h => by simp at h⟩ ?_ ?_
  · refine And.intro ?_ (And.intro ?_ (And.intro ?_ (And.intro ?_ (And.intro ?_ (And.intro ?_ (And.intro ?_ (And.intro ?_ (And.intro ?_ (And.intro ?_ (And.intro ?_ (And.intro ?_ (And.intro ?_ (And.intro ?_ (And.intro ?_ (And.intro ?_ (And.intro ?_ (And.intro ?_ (And.intro ?_ (And.intro ?_ (And.intro ?_ (And.intro ?_ (And.intro ?_ (And.intro ?_ trivial)))))))))))))))))))))))
    · refine L.asked_pure rfl rfl (fun _ _ h => h.skip (by decide)) (fun _ _ _ _ _ h => M8_mono h (by decide) (by decide) (by decide) (by decide) (Below.refl _ _)) (fun _ _ _ => rfl) (fun l a W H => ?_)
      have e13 : a.eval (.tmp 13) = .pointer (some ⟨g, jb * 5, none⟩) := (H.base 13 rfl).trans b13
      exact run_move rfl e13
    · refine L.asked_any rfl (fun l a W H => ?_)
      have hl : l 23 = false := by
        cases hs : l 23 with
        | false => rfl
        | true =>
          have h1 := (H.closed 8 1 (by rfl) (H.closed 13 8 (by rfl) (H.closed 20 13 (by rfl) (H.closed 23 20 (by rfl) hs))))
          rw [H.new] at h1
          cases h1
      have hb := H.s.below hl
      have hbx := bel1' W (.cells #[] 71)
      refine ⟨.slice (some ⟨W.heap.size, 0, none⟩) 0 0, W.alloc (.cells #[] 71), ?_, fun d hd => by cases hd; exact fun _ => ⟨W.heap.size, rfl, hb.size, heap_alloc_new W _⟩, ⟨fun _ => bel_of hb hbx, fun h => by have h' : l 23 = true := h; rw [hl] at h'; cases h'⟩, fun _ _ _ h => M8_mono h (by decide) (by decide) (by decide) (by decide) hbx⟩
      simp only [execOp]
      go_simp
    · refine L.asked_pure rfl rfl (fun _ _ h => h.skip (by decide)) (fun _ _ _ _ _ h => M8_mono h (by decide) (by decide) (by decide) (by decide) (Below.refl _ _)) (fun _ _ _ => rfl) (fun l a W H => ?_)
      have e13 : a.eval (.tmp 13) = .pointer (some ⟨g, jb * 5, none⟩) := (H.base 13 rfl).trans b13
      exact run_move rfl e13
    · refine L.asked_pure rfl rfl (fun _ _ h => h.skip (by decide)) (fun _ _ _ _ _ h => M8_mono h (by decide) (by decide) (by decide) (by decide) (Below.refl _ _)) (fun _ _ _ => rfl) (fun l a W H => ?_)
      have e58 : a.eval (.tmp 58) = .pointer (some ⟨g, jb * 5, none⟩) := H.facts 58 rfl
      (simp only [execOp]; try simp only [Option.map]); (try simp only [List.map_toArray, List.map_cons, List.map_nil]); (simp only [e58]; go_simp)
    · refine L.asked_pure rfl rfl (fun _ _ h => h.skip (by decide)) (fun _ _ _ _ _ h => M8_mono h (by decide) (by decide) (by decide) (by decide) (Below.refl _ _)) (fun _ _ _ => rfl) (fun l a W H => ?_)
      have e59 : a.eval (.tmp 59) = .pointer (some ⟨g, jb * 5, none⟩) := H.facts 59 rfl
      (simp only [execOp]; try simp only [Option.map]); (try simp only [List.map_toArray, List.map_cons, List.map_nil]); (simp only [e59]; go_simp)
    · refine L.asked_pure rfl rfl (fun _ _ h => h.skip (by decide)) (fun _ _ _ _ _ h => M8_mono h (by decide) (by decide) (by decide) (by decide) (Below.refl _ _)) (fun _ _ _ => rfl) (fun l a W H => ?_)
      have e60 : a.eval (.tmp 60) = .pointer (some ⟨g, jb * 5, none⟩) := H.facts 60 rfl
      have hl : l 23 = false := by
        cases hs : l 23 with
        | false => rfl
        | true =>
          have h1 := (H.closed 7 5 (by rfl) (H.closed 8 7 (by rfl) (H.closed 13 8 (by rfl) (H.closed 20 13 (by rfl) (H.closed 23 20 (by rfl) hs)))))
          rw [H.new] at h1
          cases h1
      have hb := H.s.below hl
      have hcc := cell_below hb hc0
      (simp only [execOp]; try simp only [Option.map]); (try simp only [List.map_toArray, List.map_cons, List.map_nil]); (simp only [e60]; go_simp)
    · refine L.asked_pure rfl rfl (fun _ _ h => h.skip (by decide)) (fun _ _ _ _ _ h => M8_mono h (by decide) (by decide) (by decide) (by decide) (Below.refl _ _)) (fun _ _ _ => rfl) (fun l a W H => ?_)
      have e14 : a.eval (.tmp 14) = .int .i64 (kk : Nat) := (H.base 14 rfl).trans b14
      exact run_move rfl e14
    · refine L.asked_pure rfl rfl (fun _ _ h => h.skip (by decide)) (fun _ _ _ _ _ h => M8_mono h (by decide) (by decide) (by decide) (by decide) (Below.refl _ _)) (fun _ _ _ => rfl) (fun l a W H => ?_)
      have e61 : a.eval (.tmp 61) = .slice ua n ci := H.facts 61 rfl
      have e62 : a.eval (.tmp 62) = .int .i64 (kk : Nat) := H.facts 62 rfl
      generalize hρ : a.eval = ρ at *
      (simp only [execOp]; try simp only [Option.map]); (try simp only [List.map_toArray, List.map_cons, List.map_nil]); (simp only [e61, e62, run_cut1 hkc, Sem.run_bind, Sem.run_pure, Result.andThen_ok])
    · refine L.asked_any rfl (fun l a W H => ?_)
      have hl : l 23 = false := by
        cases hs : l 23 with
        | false => rfl
        | true =>
          have h1 := (H.closed 13 8 (by rfl) (H.closed 20 13 (by rfl) (H.closed 23 20 (by rfl) hs)))
          rw [H.new] at h1
          cases h1
      have hb := H.s.below hl
      have l11 : l 13 = false := by
        cases hq : l 13 with
        | false => rfl
        | true =>
          have h1 := H.closed 13 8 (by rfl) hq
          rw [H.new] at h1
          cases h1
      have l18 : l 20 = false := by
        cases hq : l 20 with
        | false => rfl
        | true =>
          have h1 := H.closed 13 8 (by rfl) (H.closed 20 13 (by rfl) hq)
          rw [H.new] at h1
          cases h1
      have e63 : a.eval (.tmp 63) = .slice ua kk ci := H.facts 63 rfl
      obtain ⟨h0, e57, hB0, hr0⟩ := (show l 8 = false → ∃ h, a.eval (.tmp 57) = .slice (some ⟨h, 0, none⟩) 0 0 ∧ wd.heap.size ≤ h ∧ W.heap[h]? = some (Obj.cells #[] 71 (0, 0)) from H.facts 57 rfl) H.new
      have hown0 : W.ownsRow wd.heap.size 71 7 (.slice (some ⟨h0, 0, none⟩) 0 0) ([] : List (Ins × Value)).length (cellsI []) := ⟨rfl, .inr ⟨h0, 0, #[], rfl, hB0, hr0, Nat.le_refl _, by simp [maxLen], rfl, rfl⟩⟩
      refine appI_ok rfl e57 e63 hown0 (hsrc1.below hb) (fun p hp => hsl p (List.mem_of_mem_take hp)) (by simp only [List.length_nil, List.length_take]; omega) hb.size fun v' w' g1 g2 => ?_
      rw [List.nil_append] at g1
      exact ⟨fun d hd => by cases hd; exact fun _ _ => g1, ⟨fun _ => hb.grown g2 hb.size (fun k hk => by simp only [Value.ownBlock, Option.some.injEq] at hk; subst hk; exact hB0), fun h => by have h' : l 23 = true := h; rw [hl] at h'; cases h'⟩, fun d _ hd h => M8_8 h (fun e => hd (by rw [e])) l11 l18 hr0 g2⟩
    · refine L.asked_pure rfl rfl (fun _ _ h => h.skip (by decide)) (fun _ _ _ _ _ h => M8_mono h (by decide) (by decide) (by decide) (by decide) (Below.refl _ _)) (fun _ _ _ => rfl) (fun l a W H => ?_)
      have e15 : a.eval (.tmp 15) = .int .i64 rr := (H.base 15 rfl).trans b15
      exact run_move rfl e15
    · refine L.asked_pure rfl rfl (fun _ _ h => h.skip (by decide)) (fun _ _ _ _ _ h => M8_mono h (by decide) (by decide) (by decide) (by decide) (Below.refl _ _)) (fun _ _ _ => rfl) (fun l a W H => ?_)
      have e15 : a.eval (.tmp 15) = .int .i64 rr := (H.base 15 rfl).trans b15
      exact run_move rfl e15
    · refine L.asked_pure rfl rfl (fun _ _ h => h.skip (by decide)) (fun _ _ _ _ _ h => M8_mono h (by decide) (by decide) (by decide) (by decide) (Below.refl _ _)) (fun _ _ _ => rfl) (fun l a W H => ?_)
      have e65 : a.eval (.tmp 65) = .int .i64 rr := H.facts 65 rfl
      have e66 : a.eval (.tmp 66) = .int .i64 rr := H.facts 66 rfl
      (simp only [execOp]; try simp only [Option.map]); (try simp only [List.map_toArray, List.map_cons, List.map_nil]); (simp only [e65, e66]; go_simp)
      rfl
    · refine L.asked_any rfl (fun l a W H => ?_)
      have hl : l 23 = false := by
        cases hs : l 23 with
        | false => rfl
        | true =>
          have h1 := (H.closed 13 12 (by rfl) (H.closed 20 13 (by rfl) (H.closed 23 20 (by rfl) hs)))
          rw [H.new] at h1
          cases h1
      have hb := H.s.below hl
      have e67 : a.eval (.tmp 67) = insV (mvI rr) (.slice none 0 0) := H.facts 67 rfl
      have hbx := bel1' W (.cells (rowI (mvI rr) (.slice none 0 0)) 71)
      refine ⟨.slice (some ⟨W.heap.size, 0, none⟩) 1 1, W.alloc (.cells (rowI (mvI rr) (.slice none 0 0)) 71), ?_, fun d hd => by cases hd; exact fun _ => ⟨W.heap.size, rfl, hb.size, heap_alloc_new W _⟩, ⟨fun _ => bel_of hb hbx, fun h => by have h' : l 23 = true := h; rw [hl] at h'; cases h'⟩, fun _ _ _ h => M8_mono h (by decide) (by decide) (by decide) (by decide) hbx⟩
      unfold insV at e67
      unfold rowI
      (simp only [execOp]; try simp only [Option.map]); (try simp only [List.map_toArray, List.map_cons, List.map_nil]); (simp only [e67]; go_simp)
    · refine L.asked_any rfl (fun l a W H => ?_)
      have hl : l 23 = false := by
        cases hs : l 23 with
        | false => rfl
        | true =>
          have h1 := (H.closed 20 13 (by rfl) (H.closed 23 20 (by rfl) hs))
          rw [H.new] at h1
          cases h1
      have hb := H.s.below hl
      have l18 : l 20 = false := by
        cases hq : l 20 with
        | false => rfl
        | true =>
          have h1 := H.closed 20 13 (by rfl) hq
          rw [H.new] at h1
          cases h1
      have l8 : l 8 = true := H.deps ⟨8, .data⟩ (by simp) rfl
      obtain ⟨h2, e68, hB2, hr2⟩ := (show l 13 = false → ∃ h, a.eval (.tmp 68) = .slice (some ⟨h, 0, none⟩) 1 1 ∧ wd.heap.size ≤ h ∧ W.heap[h]? = some (Obj.cells (rowI (mvI rr) (.slice none 0 0)) 71 (0, 0)) from H.facts 68 rfl) H.new
      have hown0 := (show l 8 = true → l 13 = false → W.ownsRow wd.heap.size 71 7 (a.eval (.tmp 64)) (ps.take kk).length (cellsI (ps.take kk)) from H.facts 64 rfl) l8 H.new
      have hs2 : SrcI W (.slice (some ⟨h2, 0, none⟩) 1 1) [((mvI rr), Value.slice none 0 0)] := .inr ⟨_, _, rfl, fun k u hk => by rw [Addr.add_lit, Nat.zero_add, cell_of_row _ _ _ _ _ _ hr2]; simpa [cellsI, rowI] using hk⟩
      refine appI_ok rfl rfl e68 hown0 hs2 (fun p hp => by simp at hp; subst hp; exact ⟨_, _, _, rfl⟩) (by simp only [List.length_cons, List.length_nil, List.length_take]; omega) hb.size fun v' w' g1 g2 => ?_
      exact ⟨fun d hd => by cases hd; exact fun _ _ => g1, ⟨fun _ => hb.grown g2 hb.size (fun k hk => (hown0.lt k hk).1), fun h => by have h' : l 23 = true := h; rw [hl] at h'; cases h'⟩, fun d _ hd h => M8_11 h (fun e => hd (by rw [e])) l8 l18⟩
    · refine L.asked_pure rfl rfl (fun _ _ h => h.skip (by decide)) (fun _ _ _ _ _ h => M8_mono h (by decide) (by decide) (by decide) (by decide) (Below.refl _ _)) (fun _ _ _ => rfl) (fun l a W H => ?_)
      have e13 : a.eval (.tmp 13) = .pointer (some ⟨g, jb * 5, none⟩) := (H.base 13 rfl).trans b13
      exact run_move rfl e13
    · refine L.asked_pure rfl rfl (fun _ _ h => h.skip (by decide)) (fun _ _ _ _ _ h => M8_mono h (by decide) (by decide) (by decide) (by decide) (Below.refl _ _)) (fun _ _ _ => rfl) (fun l a W H => ?_)
      have e70 : a.eval (.tmp 70) = .pointer (some ⟨g, jb * 5, none⟩) := H.facts 70 rfl
      (simp only [execOp]; try simp only [Option.map]); (try simp only [List.map_toArray, List.map_cons, List.map_nil]); (simp only [e70]; go_simp)
    · refine L.asked_pure rfl rfl (fun _ _ h => h.skip (by decide)) (fun _ _ _ _ _ h => M8_mono h (by decide) (by decide) (by decide) (by decide) (Below.refl _ _)) (fun _ _ _ => rfl) (fun l a W H => ?_)
      have e71 : a.eval (.tmp 71) = .pointer (some ⟨g, jb * 5, none⟩) := H.facts 71 rfl
      (simp only [execOp]; try simp only [Option.map]); (try simp only [List.map_toArray, List.map_cons, List.map_nil]); (simp only [e71]; go_simp)
    · refine L.asked_pure rfl rfl (fun _ _ h => h.skip (by decide)) (fun _ _ _ _ _ h => M8_mono h (by decide) (by decide) (by decide) (by decide) (Below.refl _ _)) (fun _ _ _ => rfl) (fun l a W H => ?_)
      have e72 : a.eval (.tmp 72) = .pointer (some ⟨g, jb * 5, none⟩) := H.facts 72 rfl
      have hl : l 23 = false := by
        cases hs : l 23 with
        | false => rfl
        | true =>
          have h1 := (H.closed 19 17 (by rfl) (H.closed 20 19 (by rfl) (H.closed 23 20 (by rfl) hs)))
          rw [H.new] at h1
          cases h1
      have hb := H.s.below hl
      have hcc := cell_below hb hc0
      (simp only [execOp]; try simp only [Option.map]); (try simp only [List.map_toArray, List.map_cons, List.map_nil]); (simp only [e72]; go_simp)
    · refine L.asked_pure rfl rfl (fun _ _ h => h.skip (by decide)) (fun _ _ _ _ _ h => M8_mono h (by decide) (by decide) (by decide) (by decide) (Below.refl _ _)) (fun _ _ _ => rfl) (fun l a W H => ?_)
      have e14 : a.eval (.tmp 14) = .int .i64 (kk : Nat) := (H.base 14 rfl).trans b14
      exact run_move rfl e14
    · refine L.asked_pure rfl rfl (fun _ _ h => h.skip (by decide)) (fun _ _ _ _ _ h => M8_mono h (by decide) (by decide) (by decide) (by decide) (Below.refl _ _)) (fun _ _ _ => rfl) (fun l a W H => ?_)
      have e73 : a.eval (.tmp 73) = .slice ua n ci := H.facts 73 rfl
      have e74 : a.eval (.tmp 74) = .int .i64 (kk : Nat) := H.facts 74 rfl
      generalize hρ : a.eval = ρ at *
      (simp only [execOp]; try simp only [Option.map]); (try simp only [List.map_toArray, List.map_cons, List.map_nil]); (simp only [e73, e74, run_cut2 hkn, Sem.run_bind, Sem.run_pure, Result.andThen_ok])
      cases ua <;> rfl
    · refine L.asked_any rfl (fun l a W H => ?_)
      have hl : l 23 = false := by
        cases hs : l 23 with
        | false => rfl
        | true =>
          have h1 := (H.closed 23 20 (by rfl) hs)
          rw [H.new] at h1
          cases h1
      have hb := H.s.below hl
      have l11 : l 13 = true := H.deps ⟨13, .data⟩ (by simp) rfl
      have l8 : l 8 = true := H.closed 13 8 (by rfl) l11
      have e75 : a.eval (.tmp 75) = .slice (if ci = kk then ua else ua.map (·.add (kk * 7))) (n - kk) (ci - kk) := H.facts 75 rfl
      have hown0 := (show l 13 = true → l 20 = false → W.ownsRow wd.heap.size 71 7 (a.eval (.tmp 69)) (ps.take kk ++ [((mvI rr), Value.slice none 0 0)]).length (cellsI (ps.take kk ++ [((mvI rr), Value.slice none 0 0)])) from H.facts 69 rfl) l11 H.new
      refine appI_ok rfl rfl e75 hown0 (hsrc2.below hb) (fun p hp => hsl p (List.mem_of_mem_drop hp)) (by simp only [List.length_append, List.length_cons, List.length_nil, List.length_take, List.length_drop]; omega) hb.size fun v' w' g1 g2 => ?_
      exact ⟨fun d hd => by cases hd; exact fun _ _ => g1, ⟨fun _ => hb.grown g2 hb.size (fun k hk => (hown0.lt k hk).1), fun h => by have h' : l 23 = true := h; rw [hl] at h'; cases h'⟩, fun d _ hd h => M8_18 h (fun e => hd (by rw [e])) l8 l11⟩
    · refine L.asked_pure rfl rfl (fun _ _ h => h.skip (by decide)) (fun _ _ _ _ _ h => M8_mono h (by decide) (by decide) (by decide) (by decide) (Below.refl _ _)) (fun _ _ _ => rfl) (fun l a W H => ?_)
      have e56 : a.eval (.tmp 56) = .pointer (some ⟨g, jb * 5, none⟩) := H.facts 56 rfl
      (simp only [execOp]; try simp only [Option.map]); (try simp only [List.map_toArray, List.map_cons, List.map_nil]); (simp only [e56]; go_simp)
    · refine L.asked_pure rfl rfl (fun _ _ h => h.skip (by decide)) (fun _ _ _ _ _ h => M8_mono h (by decide) (by decide) (by decide) (by decide) (Below.refl _ _)) (fun _ _ _ => rfl) (fun l a W H => ?_)
      have e77 : a.eval (.tmp 77) = .pointer (some ⟨g, jb * 5, none⟩) := H.facts 77 rfl
      (simp only [execOp]; try simp only [Option.map]); (try simp only [List.map_toArray, List.map_cons, List.map_nil]); (simp only [e77]; go_simp)
    · refine L.asked_skip rfl rfl (fun l a W H => ?_)
      have hb := H.s.below H.new
      have l18 : l 20 = true := H.deps ⟨20, .data⟩ (by simp) rfl
      have l11 : l 13 = true := H.closed 20 13 (by rfl) l18
      have l8 : l 8 = true := H.closed 13 8 (by rfl) l11
      have e78 : a.eval (.tmp 78) = .pointer (some ⟨g, jb * 5, none⟩) := H.facts 78 rfl
      have hO := (show l 20 = true → l 23 = false → W.ownsRow wd.heap.size 71 7 (a.eval (.tmp 76)) ((ps.take kk ++ [((mvI rr), Value.slice none 0 0)]) ++ ps.drop kk).length (cellsI ((ps.take kk ++ [((mvI rr), Value.slice none 0 0)]) ++ ps.drop kk)) from H.facts 76 rfl) l18 H.new
      generalize e76 : a.eval (.tmp 76) = yv at hO
      obtain ⟨ya, yn, yc, rfl⟩ : ∃ ya yn yc, yv = .slice ya yn yc := by
        rcases hO.2 with ⟨rfl, _⟩ | ⟨_, _, _, rfl, _⟩
        · exact ⟨_, _, _, rfl⟩
        · exact ⟨_, _, _, rfl⟩
      have hcc := cell_below hb hc0
      obtain ⟨csg, hcg⟩ := hrow
      have hrg := hb.block g (Array.getElem?_eq_some_iff.1 hcg).1
      rw [hcg] at hrg
      have hf : W.frozen? ⟨g, jb * 5, none⟩ = false := frozen_of_row _ _ _ _ _ hrg
      refine ⟨W.setCell ⟨g, jb * 5, none⟩ (.slice ya yn yc), ?_, ⟨fun h => by simp [upd] at h, fun _ => ⟨W, _, hb, hO, rfl⟩⟩, fun _ _ h => M8_21 h l8 l11 l18⟩
      (simp only [execOp]; try simp only [Option.map]); (try simp only [List.map_toArray, List.map_cons, List.map_nil]); (simp only [e76, e78]; go_simp)
  · intro l q W hall hS hq
    obtain ⟨W1, v, h1, h2, rfl⟩ := hS.done (hall 23 (by decide))
    exact hend q W1 v h1 h2


end Go.Proofs.Ytljnngblhfhhaaa
