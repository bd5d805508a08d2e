/- BagLaws: three copies of one set, each in a box of its own: a region that draws its order. -/
import Derived.Test.YtdeebmpmfedjbaaDoorAp
import Derived.Test.YtdeebmpmfedjbaaDoorM4
namespace Go.Proofs.YtdeebmpmfedjbaaDoor
open Go Go.RowKit Bag
set_option linter.unusedVariables false
def ops_l5 : Array Oper := #[⟨some 26, .load 27 (.tmp 5), 27, "law.go:251", #[], none⟩, ⟨some 27, .call { callee := Callee.value (Operand.func 16), args := #[.tmp 26], argTypes := #[27] }, 27, "law.go:251", #[⟨0, .data⟩], none⟩, ⟨some 28, .load 27 (.tmp 5), 27, "law.go:251", #[], none⟩, ⟨some 29, .call { callee := Callee.value (Operand.func 16), args := #[.tmp 28], argTypes := #[27] }, 27, "law.go:251", #[⟨2, .data⟩, ⟨1, .chain⟩], none⟩, ⟨some 30, .load 27 (.tmp 5), 27, "law.go:251", #[], none⟩, ⟨some 31, .call { callee := Callee.value (Operand.func 16), args := #[.tmp 30], argTypes := #[27] }, 27, "law.go:251", #[⟨4, .data⟩, ⟨3, .chain⟩], none⟩, ⟨some 9, .alloc 27, 0, "law.go:251", #[], none⟩, ⟨some 10, .alloc 27, 0, "law.go:251", #[], none⟩, ⟨some 11, .alloc 27, 0, "law.go:251", #[], none⟩, ⟨none, .store 27 (.tmp 9) (.tmp 27), 0, "law.go:251", #[⟨6, .data⟩, ⟨1, .data⟩, ⟨5, .chain⟩, ⟨0, .phase⟩, ⟨1, .phase⟩, { on := 2, ground := Ground.textOnly Departure.lateStores }, ⟨3, .phase⟩, { on := 4, ground := Ground.textOnly Departure.lateStores }, ⟨5, .phase⟩, ⟨6, .phase⟩, ⟨7, .phase⟩, ⟨8, .phase⟩], none⟩, ⟨none, .store 27 (.tmp 10) (.tmp 29), 0, "law.go:251", #[⟨7, .data⟩, ⟨3, .data⟩, ⟨9, .chain⟩, ⟨0, .phase⟩, ⟨1, .phase⟩, ⟨2, .phase⟩, ⟨3, .phase⟩, { on := 4, ground := Ground.textOnly Departure.lateStores }, ⟨5, .phase⟩, ⟨6, .phase⟩, ⟨7, .phase⟩, ⟨8, .phase⟩, ⟨9, .phase⟩], none⟩, ⟨none, .store 27 (.tmp 11) (.tmp 31), 0, "law.go:251", #[⟨8, .data⟩, ⟨5, .data⟩, ⟨10, .chain⟩, ⟨0, .phase⟩, ⟨1, .phase⟩, ⟨2, .phase⟩, ⟨3, .phase⟩, ⟨4, .phase⟩, ⟨5, .phase⟩, ⟨6, .phase⟩, ⟨7, .phase⟩, ⟨8, .phase⟩, ⟨9, .phase⟩, ⟨10, .phase⟩], none⟩]
/-- A box of a set, the call's own, that lies at x; once it is full it holds f. -/
def Box (f : Nat → Bool) (B : Nat) (full : Bool) (x : Value) (W : World) : Prop := ∃ (g : Nat) (cs : Array Value), x = .pointer (some ⟨g, 0, none⟩) ∧ B ≤ g ∧ W.heap[g]? = some (.cells cs 27 (0, 0)) ∧ cs.size = 64 ∧ (full = true → SetC cs f)
theorem Box.keep {f : Nat → Bool} {B : Nat} {full full' : Bool} {x : Value} {W W' : World} (h : Box f B full x W) (e : full' = full) (hB : Below W.heap.size W W') : Box f B full' x W' := by
  subst e
  obtain ⟨g, cs, h1, h2, h3, h4, h5⟩ := h
  exact ⟨g, cs, h1, h2, (hB.block g (Array.getElem?_eq_some_iff.1 h3).1).trans h3, h4, h5⟩
/-- Three boxes that operations 6, 7, 8 lay at what 9, 10, 11 hold, and operations 9, 10, 11 fill. -/
structure S5 (f : Nat → Bool) (wa : World) (l : Nat → Bool) (s : Tmp → Value) (W : World) : Prop where
  below : Below wa.heap.size wa W
  box : ∀ i, i < 3 → l (6 + i) = true → Box f wa.heap.size (l (9 + i)) (s (9 + i)) W
  ne : ∀ i j, i < 3 → j < 3 → i ≠ j → l (6 + i) = true → l (6 + j) = true → s (9 + i) ≠ s (9 + j)
section
variable {f : Nat → Bool} {wa W W' : World} {l : Nat → Bool} {s : Tmp → Value} {y : Value} {j : Nat} {d : Tmp}
theorem upd_off {i : Nat} (h : i ≠ j) : upd l j i = l i := if_neg h
theorem upd_on : upd l j j = true := if_pos rfl
theorem S5.pure (h : S5 f wa l s W) (hj : j < 6) (hd : ∀ i, i < 3 → 9 + i ≠ d) (hB : Below W.heap.size W W') : S5 f wa (upd l j) (L3.putv s (some d) y) W' := by
  refine ⟨bel_of h.below hB, fun i hi e => ?_, fun i k hi hk hne e1 e2 => ?_⟩
  · rw [upd_off (by omega)] at e
    rw [L3.putv_other _ _ (hd i hi)]
    exact (h.box i hi e).keep (upd_off (by omega)) hB
  · rw [upd_off (by omega)] at e1 e2
    rw [L3.putv_other _ _ (hd i hi), L3.putv_other _ _ (hd k hk)]
    exact h.ne i k hi hk hne e1 e2
theorem S5.alloc (h : S5 f wa l s W) {i : Nat} (hi : i < 3) (n9 : l (9 + i) = false) : S5 f wa (upd l (6 + i)) (L3.putv s (some (9 + i)) (.pointer (some ⟨W.heap.size, 0, none⟩))) (W.alloc (.cells z64 27)) := by
  have hB := bel1' W (.cells z64 27)
  refine ⟨bel_of h.below hB, fun k hk e => ?_, fun k m hk hm hne e1 e2 => ?_⟩
  · by_cases hki : k = i
    · subst hki
      rw [L3.putv_same, upd_off (by omega), n9]
      exact ⟨_, z64, rfl, h.below.size, heap_alloc_new W _, rfl, fun e => by cases e⟩
    · rw [upd_off (by omega)] at e
      rw [L3.putv_other _ _ (fun e => hki (Nat.add_left_cancel e)), upd_off (by omega)]
      exact (h.box k hk e).keep rfl hB
  · by_cases hki : k = i
    · subst hki
      rw [upd_off (by omega)] at e2
      rw [L3.putv_same, L3.putv_other _ _ (fun e => hne (Nat.add_left_cancel e).symm)]
      obtain ⟨g, cs, q1, _, q3, _⟩ := h.box m hm e2
      rw [q1]
      have := (Array.getElem?_eq_some_iff.1 q3).1
      intro e
      simp at e <;> omega
    · rw [upd_off (by omega)] at e1
      rw [L3.putv_other _ _ (fun e => hki (Nat.add_left_cancel e))]
      by_cases hmi : m = i
      · subst hmi
        rw [L3.putv_same]
        obtain ⟨g, cs, q1, _, q3, _⟩ := h.box k hk e1
        rw [q1]
        have := (Array.getElem?_eq_some_iff.1 q3).1
        intro e
        simp at e <;> omega
      · rw [upd_off (by omega)] at e2
        rw [L3.putv_other _ _ (fun e => hmi (Nat.add_left_cancel e))]
        exact h.ne k m hk hm hne e1 e2
theorem S5.store (h : S5 f wa l s W) {i g : Nat} {old cs : Array Value} (hi : i < 3) (y6 : ∀ k, k < 3 → l (6 + k) = true) (hp : s (9 + i) = .pointer (some ⟨g, 0, none⟩)) (hg : W.heap[g]? = some (.cells old 27 (0, 0))) (hge : wa.heap.size ≤ g) (hc : SetC cs f) : S5 f wa (upd l (9 + i)) s (W.setRow g cs) := by
  refine ⟨⟨h.below.os, h.below.tape, h.below.output, ?_, fun k hk => ?_⟩, fun k hk e => ?_, fun k m hk hm hne e1 e2 => ?_⟩
  · exact Nat.le_trans h.below.size (by rw [setRow_size]; exact Nat.le_refl _)
  · rw [setRow_other W g k cs (by omega)]
    exact h.below.block k hk
  · obtain ⟨g', cs', q1, q2, q3, q4, q5⟩ := h.box k hk (y6 k hk)
    by_cases hki : k = i
    · subst hki
      rw [hp] at q1
      simp at q1
      subst q1
      exact ⟨g, cs, hp, hge, setRow_heap W g _ _ _ _ hg, hc.1, fun _ => hc⟩
    · rw [upd_off (by omega)]
      have hne : g' ≠ g := fun e => h.ne k i hk hi hki (y6 k hk) (y6 i hi) (by rw [q1, hp, e])
      exact ⟨g', cs', q1, q2, by rw [setRow_other W g g' cs hne]; exact q3, q4, q5⟩
  · exact h.ne k m hk hm hne (y6 k hk) (y6 m hm)
theorem S5.init : S5 f wa (fun _ => false) s wa.drew := ⟨(Below.refl _ _).drew, fun _ _ e => (by cases e), fun _ _ _ _ _ e => (by cases e)⟩
end
theorem run_alloc {a : Act} {w : World} {o : Oper} {t : TypeId} (ho : o.op = .alloc t) (Z : Array Value) (hz : ∀ W, (zeroValue t).run Tryd.prog W = .ok (.agg Z) W) : (execOp a.eval o).run Tryd.prog w = .ok (.value (.pointer (some ⟨w.heap.size, 0, none⟩))) (w.alloc (.cells Z t)) := by
  unfold execOp
  simp only [ho, Instr.alloc, Sem.run_bind, hz, Result.andThen_ok]
  rfl
theorem run_store_whole {a : Act} {w : World} {o : Oper} {ty t : TypeId} {x y : Operand} {g : Nat} {old cells : Array Value} (ho : o.op = .store ty x y) (hx : a.eval x = .pointer (some ⟨g, 0, none⟩)) (hy : a.eval y = .agg cells) (hg : w.heap[g]? = some (Obj.cells old t (0, 0))) (hi : (Tryd.prog.info? ty).map (·.size) = some cells.size) (hs : old.size = cells.size) (h1 : cells.all (·.oneCell') = true) :
    (execOp a.eval o).run Tryd.prog w = .ok .skip (w.setRow g cells) := by
  unfold execOp
  simp only [ho, hx, hy, Instr.storeAt, Instr.sureAddr, Sem.run_bind, Sem.run_pure, Result.andThen_ok, run_storeVar_row w g t ty old cells hg hi hs h1]
def G_l5 (f : Nat → Bool) : Tmp → Value → Prop
  | 26, x => SetV x f
  | 27, x => SetV x f
  | 28, x => SetV x f
  | 29, x => SetV x f
  | 30, x => SetV x f
  | 31, x => SetV x f
  | _, _ => True
set_option maxHeartbeats 4000000 in
set_option maxRecDepth 100000 in
theorem l5_ok {Q : Exit → Act → World → Prop} {a0 : Act} {wa : World} (b5 : Nat) (f : Nat → Bool) (hz : a0.tmps.size = 79) (e5 : a0.eval (.tmp 5) = .pointer (some ⟨b5, 0, none⟩)) (hb : SetAt wa b5 f)
    (hend : ∀ (s : Tmp → Value) (W : World) (b9 b10 b11 : Nat), s 9 = .pointer (some ⟨b9, 0, none⟩) → s 10 = .pointer (some ⟨b10, 0, none⟩) → s 11 = .pointer (some ⟨b11, 0, none⟩) → wa.heap.size ≤ b9 → wa.heap.size ≤ b10 → wa.heap.size ≤ b11 → b9 ≠ b10 → b9 ≠ b11 → b10 ≠ b11 → SetAt W b9 f → SetAt W b10 f → SetAt W b11 f → wa.grownBy W none → Q .normal (overlay a0 (dstsOf ops_l5) s) W) : (Code.region 5 ops_l5 true).wp Tryd.prog Q a0 wa := by
  refine L3.wp_region_eachL (by kernel_rfl) (fun _ t v _ => G_l5 f t v) (S5 f wa) (by rw [hz]; kernel_rfl) S5.init ?_ ?_
  · refine And.intro ?_ (And.intro ?_ (And.intro ?_ (And.intro ?_ (And.intro ?_ (And.intro ?_ (And.intro ?_ (And.intro ?_ (And.intro ?_ (And.intro ?_ (And.intro ?_ (And.intro ?_ trivial)))))))))))
    · refine L3.asked_any rfl (fun l a W H => ?_)
      have q5 : a.eval (.tmp 5) = .pointer (some ⟨b5, 0, none⟩) := (H.base 5 rfl).trans e5
      obtain ⟨cs, t, hc, hC⟩ := hb.below H.s.below
      exact ⟨.agg cs, W, ex_load rfl q5 hc Tryd.underlying27 rfl (by rw [hC.1]; exact info27), fun d h => by cases h; exact ⟨cs, rfl, hC⟩, H.s.pure (by decide) (by decide) (Below.refl _ _), fun _ _ h => h⟩
    · refine L3.asked_call rfl Tryd.func16 (by kernel_rfl) (by kernel_rfl) rfl rfl (fun l a W H => ?_)
      have q : SetV (a.eval (.tmp 26)) f := H.facts 26 rfl
      simp only [List.map_toArray, List.map_cons, List.map_nil]
      refine (copy_any _ f W q).mono ?_
      rintro e w' ⟨u, rfl, hu, hg⟩
      exact ⟨_, rfl, hu, H.s.pure (by decide) (by decide) (gb_to hg), fun _ _ h => h⟩
    · refine L3.asked_any rfl (fun l a W H => ?_)
      have q5 : a.eval (.tmp 5) = .pointer (some ⟨b5, 0, none⟩) := (H.base 5 rfl).trans e5
      obtain ⟨cs, t, hc, hC⟩ := hb.below H.s.below
      exact ⟨.agg cs, W, ex_load rfl q5 hc Tryd.underlying27 rfl (by rw [hC.1]; exact info27), fun d h => by cases h; exact ⟨cs, rfl, hC⟩, H.s.pure (by decide) (by decide) (Below.refl _ _), fun _ _ h => h⟩
    · refine L3.asked_call rfl Tryd.func16 (by kernel_rfl) (by kernel_rfl) rfl rfl (fun l a W H => ?_)
      have q : SetV (a.eval (.tmp 28)) f := H.facts 28 rfl
      simp only [List.map_toArray, List.map_cons, List.map_nil]
      refine (copy_any _ f W q).mono ?_
      rintro e w' ⟨u, rfl, hu, hg⟩
      exact ⟨_, rfl, hu, H.s.pure (by decide) (by decide) (gb_to hg), fun _ _ h => h⟩
    · refine L3.asked_any rfl (fun l a W H => ?_)
      have q5 : a.eval (.tmp 5) = .pointer (some ⟨b5, 0, none⟩) := (H.base 5 rfl).trans e5
      obtain ⟨cs, t, hc, hC⟩ := hb.below H.s.below
      exact ⟨.agg cs, W, ex_load rfl q5 hc Tryd.underlying27 rfl (by rw [hC.1]; exact info27), fun d h => by cases h; exact ⟨cs, rfl, hC⟩, H.s.pure (by decide) (by decide) (Below.refl _ _), fun _ _ h => h⟩
    · refine L3.asked_call rfl Tryd.func16 (by kernel_rfl) (by kernel_rfl) rfl rfl (fun l a W H => ?_)
      have q : SetV (a.eval (.tmp 30)) f := H.facts 30 rfl
      simp only [List.map_toArray, List.map_cons, List.map_nil]
      refine (copy_any _ f W q).mono ?_
      rintro e w' ⟨u, rfl, hu, hg⟩
      exact ⟨_, rfl, hu, H.s.pure (by decide) (by decide) (gb_to hg), fun _ _ h => h⟩
    · refine L3.asked_any rfl (fun l a W H => ?_)
      have n9 : l 9 = false := Bool.eq_false_iff.2 fun hs => absurd (H.new.symm.trans (H.closed 9 6 (by rfl) hs)) (by decide)
      exact ⟨_, _, run_alloc rfl z64 z27, fun d h => by cases h; trivial, H.s.alloc (i := 0) (by decide) n9, fun _ _ h => h⟩
    · refine L3.asked_any rfl (fun l a W H => ?_)
      have n10 : l 10 = false := Bool.eq_false_iff.2 fun hs => absurd (H.new.symm.trans (H.closed 10 7 (by rfl) hs)) (by decide)
      exact ⟨_, _, run_alloc rfl z64 z27, fun d h => by cases h; trivial, H.s.alloc (i := 1) (by decide) n10, fun _ _ h => h⟩
    · refine L3.asked_any rfl (fun l a W H => ?_)
      have n11 : l 11 = false := Bool.eq_false_iff.2 fun hs => absurd (H.new.symm.trans (H.closed 11 8 (by rfl) hs)) (by decide)
      exact ⟨_, _, run_alloc rfl z64 z27, fun d h => by cases h; trivial, H.s.alloc (i := 2) (by decide) n11, fun _ _ h => h⟩
    · refine L3.asked_skip rfl rfl (fun l a W H => ?_)
      have y6 : l 6 = true := (H.deps ⟨6, .data⟩ (by simp) rfl)
      have y7 : l 7 = true := (H.deps ⟨7, .phase⟩ (by simp) rfl)
      have y8 : l 8 = true := (H.deps ⟨8, .phase⟩ (by simp) rfl)
      have q : SetV (a.eval (.tmp 27)) f := H.facts 27 rfl
      obtain ⟨cs, hq, hC⟩ := q
      obtain ⟨g, old, h1, h2, h3, h4, _⟩ := H.s.box 0 (by decide) y6
      have h1 : a.eval (.tmp 9) = .pointer (some ⟨g, 0, none⟩) := h1
      exact ⟨_, run_store_whole rfl h1 hq h3 (by rw [hC.1]; exact info27) (by rw [h4, hC.1]) (by rw [← Array.all_toList, List.all_eq_true]; exact hC.cells), H.s.store (i := 0) (by decide) (fun k hk => by rcases k with _ | _ | _ | k <;> first | assumption | omega) h1 h3 h2 hC, fun _ h => h⟩
    · refine L3.asked_skip rfl rfl (fun l a W H => ?_)
      have y6 : l 6 = true := (H.deps ⟨6, .phase⟩ (by simp) rfl)
      have y7 : l 7 = true := (H.deps ⟨7, .data⟩ (by simp) rfl)
      have y8 : l 8 = true := (H.deps ⟨8, .phase⟩ (by simp) rfl)
      have q : SetV (a.eval (.tmp 29)) f := H.facts 29 rfl
      obtain ⟨cs, hq, hC⟩ := q
      obtain ⟨g, old, h1, h2, h3, h4, _⟩ := H.s.box 1 (by decide) y7
      have h1 : a.eval (.tmp 10) = .pointer (some ⟨g, 0, none⟩) := h1
      exact ⟨_, run_store_whole rfl h1 hq h3 (by rw [hC.1]; exact info27) (by rw [h4, hC.1]) (by rw [← Array.all_toList, List.all_eq_true]; exact hC.cells), H.s.store (i := 1) (by decide) (fun k hk => by rcases k with _ | _ | _ | k <;> first | assumption | omega) h1 h3 h2 hC, fun _ h => h⟩
    · refine L3.asked_skip rfl rfl (fun l a W H => ?_)
      have y6 : l 6 = true := (H.deps ⟨6, .phase⟩ (by simp) rfl)
      have y7 : l 7 = true := (H.deps ⟨7, .phase⟩ (by simp) rfl)
      have y8 : l 8 = true := (H.deps ⟨8, .data⟩ (by simp) rfl)
      have q : SetV (a.eval (.tmp 31)) f := H.facts 31 rfl
      obtain ⟨cs, hq, hC⟩ := q
      obtain ⟨g, old, h1, h2, h3, h4, _⟩ := H.s.box 2 (by decide) y8
      have h1 : a.eval (.tmp 11) = .pointer (some ⟨g, 0, none⟩) := h1
      exact ⟨_, run_store_whole rfl h1 hq h3 (by rw [hC.1]; exact info27) (by rw [h4, hC.1]) (by rw [← Array.all_toList, List.all_eq_true]; exact hC.cells), H.s.store (i := 2) (by decide) (fun k hk => by rcases k with _ | _ | _ | k <;> first | assumption | omega) h1 h3 h2 hC, fun _ h => h⟩
  · intro l s W hall hS hs
    obtain ⟨b9, c9, p9, g9, x9, _, f9⟩ := hS.box 0 (by decide) (hall 6 (by decide))
    obtain ⟨b10, c10, p10, g10, x10, _, f10⟩ := hS.box 1 (by decide) (hall 7 (by decide))
    obtain ⟨b11, c11, p11, g11, x11, _, f11⟩ := hS.box 2 (by decide) (hall 8 (by decide))
    have n1 := hS.ne 0 1 (by decide) (by decide) (by decide) (hall 6 (by decide)) (hall 7 (by decide))
    have n2 := hS.ne 0 2 (by decide) (by decide) (by decide) (hall 6 (by decide)) (hall 8 (by decide))
    have n3 := hS.ne 1 2 (by decide) (by decide) (by decide) (hall 7 (by decide)) (hall 8 (by decide))
    rw [p9, p10] at n1
    rw [p9, p11] at n2
    rw [p10, p11] at n3
    exact hend s W b9 b10 b11 p9 p10 p11 g9 g10 g11 (fun e => n1 (by rw [e])) (fun e => n2 (by rw [e])) (fun e => n3 (by rw [e])) ⟨c9, 27, x9, f9 (hall 9 (by decide))⟩ ⟨c10, 27, x10, f10 (hall 10 (by decide))⟩ ⟨c11, 27, x11, f11 (hall 11 (by decide))⟩ (gb_of hS.below)
end Go.Proofs.YtdeebmpmfedjbaaDoor
