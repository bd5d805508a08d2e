/- ExecSlots: two instructions put into a block. -/
import Derived.Test.YtepmbkiojpffpaaAw
import Derived.Test.YtepmbkiojpffpaaMd5
namespace Go.Proofs.Ytepmbkiojpffpaa
open Go.RowKit Ir

/-- What is known of each temporary. -/
def S9 (B3 g jo kk : Nat) (ui c1 c2 : Value) (pv : Value) (X Y : Ins) (ps : List (Ins × Value)) (l : Nat → Bool) : Tmp → Value → World → Prop
  | 70, xx, _ => xx = .pointer (some ⟨g, jo, none⟩)
  | 71, xx, ww => l 8 = false → ∃ h, xx = .slice (some ⟨h, 0, none⟩) 0 0 ∧ B3 ≤ h ∧ ww.heap[h]? = some (Obj.cells #[] 65 (0, 0))
  | 72, xx, _ => xx = .pointer (some ⟨g, jo, none⟩)
  | 73, xx, _ => xx = .pointer (some ⟨g, jo, none⟩)
  | 74, xx, _ => xx = .pointer (some ⟨g, jo, none⟩)
  | 75, xx, _ => xx = ui
  | 76, xx, _ => xx = .int .i64 (kk : Nat)
  | 77, xx, _ => xx = c1
  | 78, xx, ww => l 8 = true → l 10 = false → ww.ownsRow B3 65 7 xx (ps.take kk).length (cellsI (ps.take kk))
  | 79, xx, _ => xx = pv
  | 80, xx, ww => l 10 = true → l 17 = false → ww.ownsRow B3 65 7 xx (ps.take kk ++ [(X, Value.slice none 0 0), (Y, Value.slice none 0 0)]).length (cellsI (ps.take kk ++ [(X, Value.slice none 0 0), (Y, Value.slice none 0 0)]))
  | 81, xx, _ => xx = .pointer (some ⟨g, jo, none⟩)
  | 82, xx, _ => xx = .pointer (some ⟨g, jo, none⟩)
  | 83, xx, _ => xx = .pointer (some ⟨g, jo, none⟩)
  | 84, xx, _ => xx = ui
  | 85, xx, _ => xx = .int .i64 (kk : Nat)
  | 86, xx, _ => xx = c2
  | 87, xx, ww => l 17 = true → l 20 = false → ww.ownsRow B3 65 7 xx ((ps.take kk ++ [(X, Value.slice none 0 0), (Y, Value.slice none 0 0)]) ++ ps.drop kk).length (cellsI ((ps.take kk ++ [(X, Value.slice none 0 0), (Y, Value.slice none 0 0)]) ++ ps.drop kk))
  | 88, xx, _ => xx = .pointer (some ⟨g, jo, none⟩)
  | 89, xx, _ => xx = .pointer (some ⟨g, jo, none⟩)
  | _, _, _ => True
/-- What stands in the world. -/
structure U9 (g jo : Nat) (w3 : World) (qs : List (Ins × Value)) (l : Nat → Bool) (W : World) : Prop where
  below : l 20 = false → Below w3.heap.size w3 W
  done : l 20 = true → ∃ W1 v, Below w3.heap.size w3 W1 ∧ W1.ownsRow w3.heap.size 65 7 v qs.length (cellsI qs) ∧ W = W1.setCell ⟨g, jo, none⟩ v
theorem U9.skip {g jo : Nat} {w3 : World} {qs : List (Ins × Value)} {l : Nat → Bool} {W : World} (h : U9 g jo w3 qs l W) {i : Nat} (hi : i ≠ 20) : U9 g jo w3 qs (upd l i) W := by
  have u : upd l i 20 = l 20 := if_neg (fun e => hi e.symm)
  exact ⟨by rw [u]; exact h.below, by rw [u]; exact h.done⟩
section
variable {B3 g jo kk : Nat} {ui c1 c2 : Value} {pv : Value} {X Y : Ins} {ps : List (Ins × Value)} {l : Nat → Bool} {t : Tmp} {y : Value} {W W' : World}
theorem S9_mono {j : Nat} (h : S9 B3 g jo kk ui c1 c2 pv X Y ps l t y W) (h8 : j ≠ 8) (h11 : j ≠ 10) (h18 : j ≠ 17) (h21 : j ≠ 20) (hb : Below W.heap.size W W') : S9 B3 g jo kk ui c1 c2 pv X Y ps (upd l j) t y W' := by
  have u8 : upd l j 8 = l 8 := if_neg (fun e => h8 e.symm)
  have u11 : upd l j 10 = l 10 := if_neg (fun e => h11 e.symm)
  have u18 : upd l j 17 = l 17 := if_neg (fun e => h18 e.symm)
  have u21 : upd l j 20 = l 20 := if_neg (fun e => h21 e.symm)
  have hk : ∀ (q : Nat) (cs : Array Value) (e : TypeId), W.heap[q]? = some (Obj.cells cs e (0, 0)) → W'.heap[q]? = some (Obj.cells cs e (0, 0)) := fun q cs e hq => Keeps.below (T := fun _ => true) hb q cs e (0, 0) rfl hq
  unfold S9 at h ⊢
  split
  all_goals
    first
      | exact h
      | (intro e1; rw [u8] at e1; obtain ⟨q, a1, a2, a3⟩ := h e1; exact ⟨q, a1, a2, hk _ _ _ a3⟩)
      | (intro e1; rw [u11] at e1; obtain ⟨q, a1, a2, a3⟩ := h e1; exact ⟨q, a1, a2, hk _ _ _ a3⟩)
      | (intro e1 e2; rw [u8] at e1; rw [u11] at e2; exact owns_below (h e1 e2) hb)
      | (intro e1 e2; rw [u11] at e1; rw [u18] at e2; exact owns_below (h e1 e2) hb)
      | (intro e1 e2; rw [u18] at e1; rw [u21] at e2; exact owns_below (h e1 e2) hb)
      | trivial
theorem S9_8 {h0 : Nat} (h : S9 B3 g jo kk ui c1 c2 pv X Y ps l t y W) (ht : t ≠ 78) (l11 : l 10 = false) (l18 : l 17 = false) (_h0r : W.heap[h0]? = some (Obj.cells #[] 65 (0, 0))) (_hg : W.grownBy W' (some h0)) : S9 B3 g jo kk ui c1 c2 pv X Y ps (upd l 8) t y W' := by
  have u8 : upd l 8 8 = true := rfl
  have u11 : upd l 8 10 = l 10 := rfl
  have u18 : upd l 8 17 = l 17 := rfl
  unfold S9 at h ⊢
  split
  all_goals
    first
      | exact h
      | exact absurd rfl ht
      | (intro e1; rw [u8] at e1; exact absurd e1 (by decide))
      | (intro e1 e2; rw [u11, l11] at e1; exact absurd e1 (by decide))
      | (intro e1 e2; rw [u18, l18] at e1; exact absurd e1 (by decide))
      | trivial
theorem S9_11 (h : S9 B3 g jo kk ui c1 c2 pv X Y ps l t y W) (ht : t ≠ 80) (l8 : l 8 = true) (l18 : l 17 = false) : S9 B3 g jo kk ui c1 c2 pv X Y ps (upd l 10) t y W' := by
  have u8 : upd l 10 8 = l 8 := rfl
  have u11 : upd l 10 10 = true := rfl
  have u18 : upd l 10 17 = l 17 := rfl
  unfold S9 at h ⊢
  split
  all_goals
    first
      | exact h
      | exact absurd rfl ht
      | (intro e1; rw [u8, l8] at e1; exact absurd e1 (by decide))
      | (intro e1; rw [u11] at e1; exact absurd e1 (by decide))
      | (intro e1 e2; rw [u11] at e2; exact absurd e2 (by decide))
      | (intro e1 e2; rw [u18, l18] at e1; exact absurd e1 (by decide))
      | trivial
theorem S9_18 (h : S9 B3 g jo kk ui c1 c2 pv X Y ps l t y W) (ht : t ≠ 87) (l8 : l 8 = true) (l11 : l 10 = true) : S9 B3 g jo kk ui c1 c2 pv X Y ps (upd l 17) t y W' := by
  have u8 : upd l 17 8 = l 8 := rfl
  have u11 : upd l 17 10 = l 10 := rfl
  have u18 : upd l 17 17 = true := rfl
  unfold S9 at h ⊢
  split
  all_goals
    first
      | exact h
      | exact absurd rfl ht
      | (intro e1; rw [u8, l8] at e1; exact absurd e1 (by decide))
      | (intro e1; rw [u11, l11] at e1; exact absurd e1 (by decide))
      | (intro e1 e2; rw [u11, l11] at e2; exact absurd e2 (by decide))
      | (intro e1 e2; rw [u18] at e2; exact absurd e2 (by decide))
      | trivial
theorem S9_21 (h : S9 B3 g jo kk ui c1 c2 pv X Y ps l t y W) (l8 : l 8 = true) (l11 : l 10 = true) (l18 : l 17 = true) : S9 B3 g jo kk ui c1 c2 pv X Y ps (upd l 20) t y W' := by
  have u8 : upd l 20 8 = l 8 := rfl
  have u11 : upd l 20 10 = l 10 := rfl
  have u18 : upd l 20 17 = l 17 := rfl
  have u21 : upd l 20 20 = true := rfl
  unfold S9 at h ⊢
  split
  all_goals
    first
      | exact h
      | (intro e1; rw [u8, l8] at e1; exact absurd e1 (by decide))
      | (intro e1; rw [u11, l11] at e1; exact absurd e1 (by decide))
      | (intro e1 e2; rw [u11, l11] at e2; exact absurd e2 (by decide))
      | (intro e1 e2; rw [u18, l18] at e2; exact absurd e2 (by decide))
      | (intro e1 e2; rw [u21] at e2; exact absurd e2 (by decide))
      | trivial
end



def ops_s9 : Array Oper := #[⟨some 70, .move (.tmp 15), 68, "law.go:97", #[], none⟩, ⟨some 71, .buildSlice 55 0 #[], 55, "law.go:97", #[], none⟩, ⟨some 72, .move (.tmp 15), 68, "law.go:97", #[], none⟩, ⟨some 73, .nilCheck (.tmp 72), 0, "law.go:97", #[⟨2, .data⟩], none⟩, ⟨some 74, .fieldAddr 60 (.tmp 73) 0, 0, "law.go:97", #[⟨3, .data⟩], none⟩, ⟨some 75, .load 55 (.tmp 74), 55, "law.go:97", #[⟨4, .data⟩], none⟩, ⟨some 76, .move (.tmp 16), 3, "law.go:97", #[], none⟩, ⟨some 77, .slice 55 (.tmp 75) none (some (.tmp 76)) none, 55, "law.go:97", #[⟨5, .data⟩, ⟨6, .data⟩], none⟩, ⟨some 78, .call { callee := Callee.builtin Builtin.append, args := #[.tmp 71, .tmp 77], argTypes := #[55, 55] }, 55, "law.go:97", #[⟨1, .data⟩, ⟨7, .data⟩], none⟩, ⟨some 79, .move (.tmp 18), 55, "law.go:97", #[], none⟩, ⟨some 80, .call { callee := Callee.builtin Builtin.append, args := #[.tmp 78, .tmp 79], argTypes := #[55, 55] }, 55, "law.go:97", #[⟨8, .data⟩, ⟨9, .data⟩, ⟨8, .chain⟩], none⟩, ⟨some 81, .move (.tmp 15), 68, "law.go:97", #[], none⟩, ⟨some 82, .nilCheck (.tmp 81), 0, "law.go:97", #[⟨11, .data⟩], none⟩, ⟨some 83, .fieldAddr 60 (.tmp 82) 0, 0, "law.go:97", #[⟨12, .data⟩], none⟩, ⟨some 84, .load 55 (.tmp 83), 55, "law.go:97", #[⟨13, .data⟩], none⟩, ⟨some 85, .move (.tmp 16), 3, "law.go:97", #[], none⟩, ⟨some 86, .slice 55 (.tmp 84) (some (.tmp 85)) none none, 55, "law.go:97", #[⟨14, .data⟩, ⟨15, .data⟩], none⟩, ⟨some 87, .call { callee := Callee.builtin Builtin.append, args := #[.tmp 80, .tmp 86], argTypes := #[55, 55] }, 55, "law.go:97", #[⟨10, .data⟩, ⟨16, .data⟩, ⟨10, .chain⟩], none⟩, ⟨some 88, .nilCheck (.tmp 70), 0, "law.go:97", #[⟨0, .data⟩, ⟨0, .phase⟩, ⟨1, .phase⟩, ⟨2, .phase⟩, ⟨3, .phase⟩, ⟨4, .phase⟩, ⟨5, .phase⟩, ⟨6, .phase⟩, ⟨7, .phase⟩, ⟨8, .phase⟩, ⟨9, .phase⟩, ⟨10, .phase⟩, ⟨11, .phase⟩, ⟨12, .phase⟩, ⟨13, .phase⟩, ⟨14, .phase⟩, ⟨15, .phase⟩, ⟨16, .phase⟩, ⟨17, .phase⟩], none⟩, ⟨some 89, .fieldAddr 60 (.tmp 88) 0, 0, "law.go:97", #[⟨18, .data⟩, ⟨0, .phase⟩, ⟨1, .phase⟩, ⟨2, .phase⟩, ⟨3, .phase⟩, ⟨4, .phase⟩, ⟨5, .phase⟩, ⟨6, .phase⟩, ⟨7, .phase⟩, ⟨8, .phase⟩, ⟨9, .phase⟩, ⟨10, .phase⟩, ⟨11, .phase⟩, ⟨12, .phase⟩, ⟨13, .phase⟩, ⟨14, .phase⟩, ⟨15, .phase⟩, ⟨16, .phase⟩, ⟨17, .phase⟩], none⟩, ⟨none, .store 55 (.tmp 89) (.tmp 87), 0, "law.go:97", #[⟨19, .data⟩, ⟨17, .data⟩, ⟨17, .chain⟩, ⟨0, .phase⟩, ⟨1, .phase⟩, ⟨2, .phase⟩, ⟨3, .phase⟩, ⟨4, .phase⟩, ⟨5, .phase⟩, ⟨6, .phase⟩, ⟨7, .phase⟩, ⟨8, .phase⟩, ⟨9, .phase⟩, ⟨10, .phase⟩, ⟨11, .phase⟩, ⟨12, .phase⟩, ⟨13, .phase⟩, ⟨14, .phase⟩, ⟨15, .phase⟩, ⟨16, .phase⟩, ⟨17, .phase⟩], none⟩]
set_option maxHeartbeats 1000000 in
set_option maxRecDepth 100000 in
theorem s9_ok {Q : Exit → Act → World → Prop} {a0 : Act} {wd : World} {B g jb n ci kk : Nat} {ua : Option Addr} {gp : Nat} {X Y : Ins} {ps : List (Ins × Value)} (hz : a0.tmps.size = 117) (b15 : a0.eval (.tmp 15) = .pointer (some ⟨g, jb * 5, none⟩)) (b18 : a0.eval (.tmp 18) = .slice (some ⟨gp, 0, none⟩) 2 2) (hpr : wd.heap[gp]? = some (Obj.cells (rowI2 X Y) 65 (0, 0))) (b16 : a0.eval (.tmp 16) = .int .i64 (kk : Nat))
    (hc0 : wd.cell? ⟨g, jb * 5, none⟩ = some (.slice ua n ci)) (hrow : ∃ cs, wd.heap[g]? = some (Obj.cells cs 60 (0, 0))) (hown : wd.ownsRow B 65 7 (.slice ua n ci) ps.length (cellsI ps)) (hpl : ps.length ≤ 100) (hk : kk ≤ ps.length) (hsl : ∀ p ∈ ps, ∃ a n c, p.2 = .slice a n c)
    (hend : ∀ (q : Tmp → Value) (W1 : World) (v : Value), Below wd.heap.size wd W1 → W1.ownsRow wd.heap.size 65 7 v ((ps.take kk ++ [(X, Value.slice none 0 0), (Y, Value.slice none 0 0)]) ++ ps.drop kk).length (cellsI ((ps.take kk ++ [(X, Value.slice none 0 0), (Y, Value.slice none 0 0)]) ++ ps.drop kk)) → Q .normal (overlay a0 (dstsOf ops_s9) q) (W1.setCell ⟨g, jb * 5, none⟩ v)) : (Code.region 9 ops_s9 true).wp Try.prog Q a0 wd := by
  obtain ⟨hsrc1, hkc⟩ := SrcI.cut1 hown hk
  obtain ⟨hsrc2, hkn⟩ := SrcI.cut2 hown hk
  refine L.wp_region_eachL (by kernel_rfl) (fun l t y W => S9 wd.heap.size g (jb * 5) kk (.slice ua n ci) (.slice ua kk ci) (.slice (if ci = kk then ua else ua.map (·.add (kk * 7))) (n - kk) (ci - kk)) (.slice (some ⟨gp, 0, none⟩) 2 2) X Y ps l t y W) (fun l W => U9 g (jb * 5) wd ((ps.take kk ++ [(X, Value.slice none 0 0), (Y, Value.slice none 0 0)]) ++ ps.drop kk) l W) (by rw [hz]; kernel_rfl) ⟨fun _ => (Below.refl _ _).drew, fun h => by simp at h⟩ ?_ ?_
  · refine And.intro ?_ (And.intro ?_ (And.intro ?_ (And.intro ?_ (And.intro ?_ (And.intro ?_ (And.intro ?_ (And.intro ?_ (And.intro ?_ (And.intro ?_ (And.intro ?_ (And.intro ?_ (And.intro ?_ (And.intro ?_ (And.intro ?_ (And.intro ?_ (And.intro ?_ (And.intro ?_ (And.intro ?_ (And.intro ?_ (And.intro ?_ trivial))))))))))))))))))))
    · refine L.asked_pure rfl rfl (fun _ _ h => h.skip (by decide)) (fun _ _ _ _ _ h => S9_mono h (by decide) (by decide) (by decide) (by decide) (Below.refl _ _)) (fun _ _ _ => rfl) (fun l a W H => ?_)
      have e15 : a.eval (.tmp 15) = .pointer (some ⟨g, jb * 5, none⟩) := (H.base 15 rfl).trans b15
      exact run_move rfl e15
    · refine L.asked_any rfl (fun l a W H => ?_)
      have hl : l 20 = false := by
        cases hs : l 20 with
        | false => rfl
        | true =>
          have h1 := (H.closed 8 1 (by rfl) (H.closed 10 8 (by rfl) (H.closed 17 10 (by rfl) (H.closed 20 17 (by rfl) hs))))
          rw [H.new] at h1
          cases h1
      have hb := H.s.below hl
      have hbx := bel1' W (.cells #[] 65)
      refine ⟨.slice (some ⟨W.heap.size, 0, none⟩) 0 0, W.alloc (.cells #[] 65), ?_, fun d hd => by cases hd; exact fun _ => ⟨W.heap.size, rfl, hb.size, heap_alloc_new W _⟩, ⟨fun _ => bel_of hb hbx, fun h => by have h' : l 20 = true := h; rw [hl] at h'; cases h'⟩, fun _ _ _ h => S9_mono h (by decide) (by decide) (by decide) (by decide) hbx⟩
      simp only [execOp]
      go_simp
    · refine L.asked_pure rfl rfl (fun _ _ h => h.skip (by decide)) (fun _ _ _ _ _ h => S9_mono h (by decide) (by decide) (by decide) (by decide) (Below.refl _ _)) (fun _ _ _ => rfl) (fun l a W H => ?_)
      have e15 : a.eval (.tmp 15) = .pointer (some ⟨g, jb * 5, none⟩) := (H.base 15 rfl).trans b15
      exact run_move rfl e15
    · refine L.asked_pure rfl rfl (fun _ _ h => h.skip (by decide)) (fun _ _ _ _ _ h => S9_mono h (by decide) (by decide) (by decide) (by decide) (Below.refl _ _)) (fun _ _ _ => rfl) (fun l a W H => ?_)
      have e72 : a.eval (.tmp 72) = .pointer (some ⟨g, jb * 5, none⟩) := H.facts 72 rfl
      (simp only [execOp]; try simp only [Option.map]); (try simp only [List.map_toArray, List.map_cons, List.map_nil]); (simp only [e72]; go_simp)
    · refine L.asked_pure rfl rfl (fun _ _ h => h.skip (by decide)) (fun _ _ _ _ _ h => S9_mono h (by decide) (by decide) (by decide) (by decide) (Below.refl _ _)) (fun _ _ _ => rfl) (fun l a W H => ?_)
      have e73 : a.eval (.tmp 73) = .pointer (some ⟨g, jb * 5, none⟩) := H.facts 73 rfl
      (simp only [execOp]; try simp only [Option.map]); (try simp only [List.map_toArray, List.map_cons, List.map_nil]); (simp only [e73]; go_simp)
    · refine L.asked_pure rfl rfl (fun _ _ h => h.skip (by decide)) (fun _ _ _ _ _ h => S9_mono h (by decide) (by decide) (by decide) (by decide) (Below.refl _ _)) (fun _ _ _ => rfl) (fun l a W H => ?_)
      have e74 : a.eval (.tmp 74) = .pointer (some ⟨g, jb * 5, none⟩) := H.facts 74 rfl
      have hl : l 20 = false := by
        cases hs : l 20 with
        | false => rfl
        | true =>
          have h1 := (H.closed 7 5 (by rfl) (H.closed 8 7 (by rfl) (H.closed 10 8 (by rfl) (H.closed 17 10 (by rfl) (H.closed 20 17 (by rfl) hs)))))
          rw [H.new] at h1
          cases h1
      have hb := H.s.below hl
      have hcc := cell_below hb hc0
      (simp only [execOp]; try simp only [Option.map]); (try simp only [List.map_toArray, List.map_cons, List.map_nil]); (simp only [e74]; go_simp)
    · refine L.asked_pure rfl rfl (fun _ _ h => h.skip (by decide)) (fun _ _ _ _ _ h => S9_mono h (by decide) (by decide) (by decide) (by decide) (Below.refl _ _)) (fun _ _ _ => rfl) (fun l a W H => ?_)
      have e16 : a.eval (.tmp 16) = .int .i64 (kk : Nat) := (H.base 16 rfl).trans b16
      exact run_move rfl e16
    · refine L.asked_pure rfl rfl (fun _ _ h => h.skip (by decide)) (fun _ _ _ _ _ h => S9_mono h (by decide) (by decide) (by decide) (by decide) (Below.refl _ _)) (fun _ _ _ => rfl) (fun l a W H => ?_)
      have e75 : a.eval (.tmp 75) = .slice ua n ci := H.facts 75 rfl
      have e76 : a.eval (.tmp 76) = .int .i64 (kk : Nat) := H.facts 76 rfl
      generalize hρ : a.eval = ρ at *
      (simp only [execOp]; try simp only [Option.map]); (try simp only [List.map_toArray, List.map_cons, List.map_nil]); (simp only [e75, e76, run_cut1 hkc, Sem.run_bind, Sem.run_pure, Result.andThen_ok])
    · refine L.asked_any rfl (fun l a W H => ?_)
      have hl : l 20 = false := by
        cases hs : l 20 with
        | false => rfl
        | true =>
          have h1 := (H.closed 10 8 (by rfl) (H.closed 17 10 (by rfl) (H.closed 20 17 (by rfl) hs)))
          rw [H.new] at h1
          cases h1
      have hb := H.s.below hl
      have l11 : l 10 = false := by
        cases hq : l 10 with
        | false => rfl
        | true =>
          have h1 := H.closed 10 8 (by rfl) hq
          rw [H.new] at h1
          cases h1
      have l18 : l 17 = false := by
        cases hq : l 17 with
        | false => rfl
        | true =>
          have h1 := H.closed 10 8 (by rfl) (H.closed 17 10 (by rfl) hq)
          rw [H.new] at h1
          cases h1
      have e77 : a.eval (.tmp 77) = .slice ua kk ci := H.facts 77 rfl
      obtain ⟨h0, e71, hB0, hr0⟩ := (show l 8 = false → ∃ h, a.eval (.tmp 71) = .slice (some ⟨h, 0, none⟩) 0 0 ∧ wd.heap.size ≤ h ∧ W.heap[h]? = some (Obj.cells #[] 65 (0, 0)) from H.facts 71 rfl) H.new
      have hown0 : W.ownsRow wd.heap.size 65 7 (.slice (some ⟨h0, 0, none⟩) 0 0) ([] : List (Ins × Value)).length (cellsI []) := ⟨rfl, .inr ⟨h0, 0, #[], rfl, hB0, hr0, Nat.le_refl _, by simp [maxLen], rfl, rfl⟩⟩
      refine appI_ok rfl e71 e77 hown0 (hsrc1.below hb) (fun p hp => hsl p (List.mem_of_mem_take hp)) (by simp only [List.length_nil, List.length_take]; omega) hb.size fun v' w' g1 g2 => ?_
      rw [List.nil_append] at g1
      exact ⟨fun d hd => by cases hd; exact fun _ _ => g1, ⟨fun _ => hb.grown g2 hb.size (fun k hk => by simp only [Value.ownBlock, Option.some.injEq] at hk; subst hk; exact hB0), fun h => by have h' : l 20 = true := h; rw [hl] at h'; cases h'⟩, fun d _ hd h => S9_8 h (fun e => hd (by rw [e])) l11 l18 hr0 g2⟩
    · refine L.asked_pure rfl rfl (fun _ _ h => h.skip (by decide)) (fun _ _ _ _ _ h => S9_mono h (by decide) (by decide) (by decide) (by decide) (Below.refl _ _)) (fun _ _ _ => rfl) (fun l a W H => ?_)
      have e18 : a.eval (.tmp 18) = .slice (some ⟨gp, 0, none⟩) 2 2 := (H.base 18 rfl).trans b18
      exact run_move rfl e18
    · refine L.asked_any rfl (fun l a W H => ?_)
      have hl : l 20 = false := by
        cases hs : l 20 with
        | false => rfl
        | true =>
          have h1 := (H.closed 17 10 (by rfl) (H.closed 20 17 (by rfl) hs))
          rw [H.new] at h1
          cases h1
      have hb := H.s.below hl
      have l18 : l 17 = false := by
        cases hq : l 17 with
        | false => rfl
        | true =>
          have h1 := H.closed 17 10 (by rfl) hq
          rw [H.new] at h1
          cases h1
      have l8 : l 8 = true := H.deps ⟨8, .data⟩ (by simp) rfl
      have e79 : a.eval (.tmp 79) = .slice (some ⟨gp, 0, none⟩) 2 2 := H.facts 79 rfl
      have hr2 := (hb.block gp (Array.getElem?_eq_some_iff.1 hpr).1).trans hpr
      have hown0 := (show l 8 = true → l 10 = false → W.ownsRow wd.heap.size 65 7 (a.eval (.tmp 78)) (ps.take kk).length (cellsI (ps.take kk)) from H.facts 78 rfl) l8 H.new
      have hs2 : SrcI W (.slice (some ⟨gp, 0, none⟩) 2 2) [(X, Value.slice none 0 0), (Y, Value.slice none 0 0)] := .inr ⟨_, _, rfl, fun k u hk => by rw [Addr.add_lit, Nat.zero_add, cell_of_row _ _ _ _ _ _ hr2]; simpa [cellsI, rowI2, rowI] using hk⟩
      refine appI_ok rfl rfl e79 hown0 hs2 (fun p hp => by simp at hp; rcases hp with rfl | rfl <;> exact ⟨_, _, _, rfl⟩) (by simp only [List.length_cons, List.length_nil, List.length_take]; omega) hb.size fun v' w' g1 g2 => ?_
      exact ⟨fun d hd => by cases hd; exact fun _ _ => g1, ⟨fun _ => hb.grown g2 hb.size (fun k hk => (hown0.lt k hk).1), fun h => by have h' : l 20 = true := h; rw [hl] at h'; cases h'⟩, fun d _ hd h => S9_11 h (fun e => hd (by rw [e])) l8 l18⟩
    · refine L.asked_pure rfl rfl (fun _ _ h => h.skip (by decide)) (fun _ _ _ _ _ h => S9_mono h (by decide) (by decide) (by decide) (by decide) (Below.refl _ _)) (fun _ _ _ => rfl) (fun l a W H => ?_)
      have e15 : a.eval (.tmp 15) = .pointer (some ⟨g, jb * 5, none⟩) := (H.base 15 rfl).trans b15
      exact run_move rfl e15
    · refine L.asked_pure rfl rfl (fun _ _ h => h.skip (by decide)) (fun _ _ _ _ _ h => S9_mono h (by decide) (by decide) (by decide) (by decide) (Below.refl _ _)) (fun _ _ _ => rfl) (fun l a W H => ?_)
      have e81 : a.eval (.tmp 81) = .pointer (some ⟨g, jb * 5, none⟩) := H.facts 81 rfl
      (simp only [execOp]; try simp only [Option.map]); (try simp only [List.map_toArray, List.map_cons, List.map_nil]); (simp only [e81]; go_simp)
    · refine L.asked_pure rfl rfl (fun _ _ h => h.skip (by decide)) (fun _ _ _ _ _ h => S9_mono h (by decide) (by decide) (by decide) (by decide) (Below.refl _ _)) (fun _ _ _ => rfl) (fun l a W H => ?_)
      have e82 : a.eval (.tmp 82) = .pointer (some ⟨g, jb * 5, none⟩) := H.facts 82 rfl
      (simp only [execOp]; try simp only [Option.map]); (try simp only [List.map_toArray, List.map_cons, List.map_nil]); (simp only [e82]; go_simp)
    · refine L.asked_pure rfl rfl (fun _ _ h => h.skip (by decide)) (fun _ _ _ _ _ h => S9_mono h (by decide) (by decide) (by decide) (by decide) (Below.refl _ _)) (fun _ _ _ => rfl) (fun l a W H => ?_)
      have e83 : a.eval (.tmp 83) = .pointer (some ⟨g, jb * 5, none⟩) := H.facts 83 rfl
      have hl : l 20 = false := by
        cases hs : l 20 with
        | false => rfl
        | true =>
          have h1 := (H.closed 16 14 (by rfl) (H.closed 17 16 (by rfl) (H.closed 20 17 (by rfl) hs)))
          rw [H.new] at h1
          cases h1
      have hb := H.s.below hl
      have hcc := cell_below hb hc0
      (simp only [execOp]; try simp only [Option.map]); (try simp only [List.map_toArray, List.map_cons, List.map_nil]); (simp only [e83]; go_simp)
    · refine L.asked_pure rfl rfl (fun _ _ h => h.skip (by decide)) (fun _ _ _ _ _ h => S9_mono h (by decide) (by decide) (by decide) (by decide) (Below.refl _ _)) (fun _ _ _ => rfl) (fun l a W H => ?_)
      have e16 : a.eval (.tmp 16) = .int .i64 (kk : Nat) := (H.base 16 rfl).trans b16
      exact run_move rfl e16
    · refine L.asked_pure rfl rfl (fun _ _ h => h.skip (by decide)) (fun _ _ _ _ _ h => S9_mono h (by decide) (by decide) (by decide) (by decide) (Below.refl _ _)) (fun _ _ _ => rfl) (fun l a W H => ?_)
      have e84 : a.eval (.tmp 84) = .slice ua n ci := H.facts 84 rfl
      have e85 : a.eval (.tmp 85) = .int .i64 (kk : Nat) := H.facts 85 rfl
      generalize hρ : a.eval = ρ at *
      (simp only [execOp]; try simp only [Option.map]); (try simp only [List.map_toArray, List.map_cons, List.map_nil]); (simp only [e84, e85, run_cut2 hkn, Sem.run_bind, Sem.run_pure, Result.andThen_ok])
      cases ua <;> rfl
    · refine L.asked_any rfl (fun l a W H => ?_)
      have hl : l 20 = false := by
        cases hs : l 20 with
        | false => rfl
        | true =>
          have h1 := (H.closed 20 17 (by rfl) hs)
          rw [H.new] at h1
          cases h1
      have hb := H.s.below hl
      have l11 : l 10 = true := H.deps ⟨10, .data⟩ (by simp) rfl
      have l8 : l 8 = true := H.closed 10 8 (by rfl) l11
      have e86 : a.eval (.tmp 86) = .slice (if ci = kk then ua else ua.map (·.add (kk * 7))) (n - kk) (ci - kk) := H.facts 86 rfl
      have hown0 := (show l 10 = true → l 17 = false → W.ownsRow wd.heap.size 65 7 (a.eval (.tmp 80)) (ps.take kk ++ [(X, Value.slice none 0 0), (Y, Value.slice none 0 0)]).length (cellsI (ps.take kk ++ [(X, Value.slice none 0 0), (Y, Value.slice none 0 0)])) from H.facts 80 rfl) l11 H.new
      refine appI_ok rfl rfl e86 hown0 (hsrc2.below hb) (fun p hp => hsl p (List.mem_of_mem_drop hp)) (by simp only [List.length_append, List.length_cons, List.length_nil, List.length_take, List.length_drop]; omega) hb.size fun v' w' g1 g2 => ?_
      exact ⟨fun d hd => by cases hd; exact fun _ _ => g1, ⟨fun _ => hb.grown g2 hb.size (fun k hk => (hown0.lt k hk).1), fun h => by have h' : l 20 = true := h; rw [hl] at h'; cases h'⟩, fun d _ hd h => S9_18 h (fun e => hd (by rw [e])) l8 l11⟩
    · refine L.asked_pure rfl rfl (fun _ _ h => h.skip (by decide)) (fun _ _ _ _ _ h => S9_mono h (by decide) (by decide) (by decide) (by decide) (Below.refl _ _)) (fun _ _ _ => rfl) (fun l a W H => ?_)
      have e70 : a.eval (.tmp 70) = .pointer (some ⟨g, jb * 5, none⟩) := H.facts 70 rfl
      (simp only [execOp]; try simp only [Option.map]); (try simp only [List.map_toArray, List.map_cons, List.map_nil]); (simp only [e70]; go_simp)
    · refine L.asked_pure rfl rfl (fun _ _ h => h.skip (by decide)) (fun _ _ _ _ _ h => S9_mono h (by decide) (by decide) (by decide) (by decide) (Below.refl _ _)) (fun _ _ _ => rfl) (fun l a W H => ?_)
      have e88 : a.eval (.tmp 88) = .pointer (some ⟨g, jb * 5, none⟩) := H.facts 88 rfl
      (simp only [execOp]; try simp only [Option.map]); (try simp only [List.map_toArray, List.map_cons, List.map_nil]); (simp only [e88]; go_simp)
    · refine L.asked_skip rfl rfl (fun l a W H => ?_)
      have hb := H.s.below H.new
      have l18 : l 17 = true := H.deps ⟨17, .data⟩ (by simp) rfl
      have l11 : l 10 = true := H.closed 17 10 (by rfl) l18
      have l8 : l 8 = true := H.closed 10 8 (by rfl) l11
      have e89 : a.eval (.tmp 89) = .pointer (some ⟨g, jb * 5, none⟩) := H.facts 89 rfl
      have hO := (show l 17 = true → l 20 = false → W.ownsRow wd.heap.size 65 7 (a.eval (.tmp 87)) ((ps.take kk ++ [(X, Value.slice none 0 0), (Y, Value.slice none 0 0)]) ++ ps.drop kk).length (cellsI ((ps.take kk ++ [(X, Value.slice none 0 0), (Y, Value.slice none 0 0)]) ++ ps.drop kk)) from H.facts 87 rfl) l18 H.new
      generalize e87 : a.eval (.tmp 87) = yv at hO
      obtain ⟨ya, yn, yc, rfl⟩ : ∃ ya yn yc, yv = .slice ya yn yc := by
        rcases hO.2 with ⟨rfl, _⟩ | ⟨_, _, _, rfl, _⟩
        · exact ⟨_, _, _, rfl⟩
        · exact ⟨_, _, _, rfl⟩
      have hcc := cell_below hb hc0
      obtain ⟨csg, hcg⟩ := hrow
      have hrg := hb.block g (Array.getElem?_eq_some_iff.1 hcg).1
      rw [hcg] at hrg
      have hf : W.frozen? ⟨g, jb * 5, none⟩ = false := frozen_of_row _ _ _ _ _ hrg
      refine ⟨W.setCell ⟨g, jb * 5, none⟩ (.slice ya yn yc), ?_, ⟨fun h => by simp [upd] at h, fun _ => ⟨W, _, hb, hO, rfl⟩⟩, fun _ _ h => S9_21 h l8 l11 l18⟩
      (simp only [execOp]; try simp only [Option.map]); (try simp only [List.map_toArray, List.map_cons, List.map_nil]); (simp only [e87, e89]; go_simp)
  · intro l q W hall hS hq
    obtain ⟨W1, v, h1, h2, rfl⟩ := hS.done (hall 20 (by decide))
    exact hend q W1 v h1 h2

end Go.Proofs.Ytepmbkiojpffpaa
