/- BagLaws: what it says of its seven sets. -/
import Derived.Test.YtdeebmpmfedjbaaDoorM4
namespace Go.Proofs.YtdeebmpmfedjbaaDoor
open Go Go.RowKit Bag
set_option linter.unusedVariables false
def both (f g : Nat → Bool) : Nat → Bool := fun y => f y && g y
def alone (f g : Nat → Bool) : Nat → Bool := fun y => f y && !g y
def union (f g : Nat → Bool) : Nat → Bool := fun y => f y || g y
theorem len_split (f g : Nat → Bool) : (mem (both f g) 4096).length + (mem (alone f g) 4096).length = (mem f 4096).length := by
  unfold mem both alone
  generalize 4096 = n
  induction n with
  | zero => rfl
  | succ n ih =>
    simp only [List.range_succ, List.filter_append, List.length_append, List.filter_cons, List.filter_nil]
    cases f n <;> cases g n <;> simp <;> omega
theorem len_join (f g : Nat → Bool) : (mem (alone f g) 4096).length + (mem g 4096).length = (mem (union f g) 4096).length := by
  unfold mem union alone
  generalize 4096 = n
  induction n with
  | zero => rfl
  | succ n ih =>
    simp only [List.range_succ, List.filter_append, List.length_append, List.filter_cons, List.filter_nil]
    cases f n <;> cases g n <;> simp <;> omega
theorem same_of {f g : Nat → Bool} (h : ∀ x, f x = g x) : same f g 4096 = true := by
  unfold same
  rw [List.all_eq_true]
  intro x _
  simp [h x]
theorem same_union (f g : Nat → Bool) : (!same (union f g) (fun y => union f g y || f y) 4096) = false := by
  rw [same_of fun x => by unfold union; cases f x <;> simp]
  rfl
theorem ex_addi {ρ : Operand → Value} {o : Oper} {w : World} {x y : Operand} {t : TypeId} {p q r : Nat} (ho : o.op = .binOp .add 3 x y t) (hx : ρ x = .int .i64 p) (hy : ρ y = .int .i64 q) (h : p + q = r) (hr : r ≤ 4096) : (execOp ρ o).run Tryd.prog w = .ok (.value (.int .i64 r)) w := by
  have e : (p : Int) + (q : Int) = (r : Int) := by omega
  clear h
  unfold execOp
  simp only [ho, hx, hy]
  go_simp
  rw [IntKind.wrap_i64]
  omega
structure Seven (k5 k7 k9 k10 k11 k12 k13 : Nat) (f g f2 f3 : Nat → Bool) (W : World) : Prop where
  x5 : SetAt W k5 f
  x7 : SetAt W k7 g
  x9 : SetAt W k9 (both f g)
  x10 : SetAt W k10 (alone f g)
  x11 : SetAt W k11 (union f g)
  x12 : SetAt W k12 f2
  x13 : SetAt W k13 f3
section
variable {k5 k7 k9 k10 k11 k12 k13 : Nat} {f g f2 f3 : Nat → Bool} {wa W W' : World} {l : Nat → Bool} {j : Nat}
theorem Seven.grow (h : Seven k5 k7 k9 k10 k11 k12 k13 f g f2 f3 W) (hg : W.grownBy W' none) : Seven k5 k7 k9 k10 k11 k12 k13 f g f2 f3 W' :=
  ⟨h.x5.kept hg (by simp), h.x7.kept hg (by simp), h.x9.kept hg (by simp), h.x10.kept hg (by simp), h.x11.kept hg (by simp), h.x12.kept hg (by simp), h.x13.kept hg (by simp)⟩
structure S13 (k5 k7 k9 k10 k11 k12 k13 : Nat) (f g f2 f3 : Nat → Bool) (wa : World) (l : Nat → Bool) (W : World) : Prop where
  gb : wa.grownBy W (some k11)
  on : l 30 = false → Seven k5 k7 k9 k10 k11 k12 k13 f g f2 f3 W
theorem S13.skip (h : S13 k5 k7 k9 k10 k11 k12 k13 f g f2 f3 wa l W) (hj : 30 ≠ j) : S13 k5 k7 k9 k10 k11 k12 k13 f g f2 f3 wa (upd l j) W :=
  ⟨h.gb, by rw [show upd l j 30 = l 30 from if_neg hj]; exact h.on⟩
theorem S13.grow (h : S13 k5 k7 k9 k10 k11 k12 k13 f g f2 f3 wa l W) (hg : W.grownBy W' none) : S13 k5 k7 k9 k10 k11 k12 k13 f g f2 f3 wa l W' :=
  ⟨h.gb.trans (gb_any hg), fun e => (h.on e).grow hg⟩
theorem S13.last (h : S13 k5 k7 k9 k10 k11 k12 k13 f g f2 f3 wa l W) (hg : W.grownBy W' (some k11)) : S13 k5 k7 k9 k10 k11 k12 k13 f g f2 f3 wa (upd l 30) W' :=
  ⟨h.gb.trans hg, fun e => by rw [show upd l 30 30 = true from if_pos rfl] at e; cases e⟩
theorem S13.init (h : Seven k5 k7 k9 k10 k11 k12 k13 f g f2 f3 wa) : S13 k5 k7 k9 k10 k11 k12 k13 f g f2 f3 wa (fun _ => false) wa.drew :=
  ⟨gb_drew _ _, fun _ => h.grow (gb_drew _ _)⟩
end
def ops_l13_ok : Array Oper := #[⟨some 46, .load 27 (.tmp 12), 27, "law.go:259", #[], none⟩, ⟨some 47, .load 27 (.tmp 5), 27, "law.go:259", #[], none⟩, ⟨some 48, .call { callee := Callee.value (Operand.func 23), args := #[.tmp 46, .tmp 47], argTypes := #[27, 27] }, 4, "law.go:259", #[⟨0, .data⟩, ⟨1, .data⟩], none⟩, ⟨some 49, .move (.tmp 48), 4, "law.go:259", #[⟨2, .data⟩, ⟨2, .chain⟩], none⟩, ⟨some 50, .load 27 (.tmp 13), 27, "law.go:259", #[⟨3, .guard⟩], some (3, true)⟩, ⟨some 51, .load 27 (.tmp 11), 27, "law.go:259", #[⟨3, .guard⟩], some (3, true)⟩, ⟨some 52, .call { callee := Callee.value (Operand.func 23), args := #[.tmp 50, .tmp 51], argTypes := #[27, 27] }, 4, "law.go:259", #[⟨4, .data⟩, ⟨5, .data⟩, ⟨3, .chain⟩, ⟨3, .guard⟩], some (3, true)⟩, ⟨some 53, .pick (.tmp 49) (.tmp 52) (.const (.bool false)), 4, "law.go:259", #[⟨3, .data⟩, ⟨6, .data⟩], none⟩, ⟨some 54, .move (.tmp 53), 4, "law.go:259", #[⟨7, .data⟩, ⟨6, .chain⟩], none⟩, ⟨some 55, .load 27 (.tmp 9), 27, "law.go:259", #[⟨8, .guard⟩], some (8, true)⟩, ⟨some 56, .call { callee := Callee.value (Operand.func 21), args := #[.tmp 55], argTypes := #[27] }, 3, "law.go:259", #[⟨9, .data⟩, ⟨8, .chain⟩, ⟨8, .guard⟩], some (8, true)⟩, ⟨some 57, .load 27 (.tmp 10), 27, "law.go:259", #[⟨8, .guard⟩], some (8, true)⟩, ⟨some 58, .call { callee := Callee.value (Operand.func 21), args := #[.tmp 57], argTypes := #[27] }, 3, "law.go:259", #[⟨11, .data⟩, ⟨10, .chain⟩, ⟨8, .guard⟩], some (8, true)⟩, ⟨some 59, .binOp .add 3 (.tmp 56) (.tmp 58) 3, 3, "law.go:259", #[⟨10, .data⟩, ⟨12, .data⟩, ⟨8, .guard⟩], some (8, true)⟩, ⟨some 60, .load 27 (.tmp 5), 27, "law.go:259", #[⟨8, .guard⟩], some (8, true)⟩, ⟨some 61, .call { callee := Callee.value (Operand.func 21), args := #[.tmp 60], argTypes := #[27] }, 3, "law.go:259", #[⟨14, .data⟩, ⟨12, .chain⟩, ⟨8, .guard⟩], some (8, true)⟩, ⟨some 62, .binOp .eql 3 (.tmp 59) (.tmp 61) 3, 4, "law.go:259", #[⟨13, .data⟩, ⟨15, .data⟩, ⟨8, .guard⟩], some (8, true)⟩, ⟨some 63, .pick (.tmp 54) (.tmp 62) (.const (.bool false)), 4, "law.go:259", #[⟨8, .data⟩, ⟨16, .data⟩], none⟩, ⟨some 64, .move (.tmp 63), 4, "law.go:259", #[⟨17, .data⟩, ⟨15, .chain⟩], none⟩, ⟨some 65, .load 27 (.tmp 11), 27, "law.go:259", #[⟨18, .guard⟩], some (18, true)⟩, ⟨some 66, .call { callee := Callee.value (Operand.func 21), args := #[.tmp 65], argTypes := #[27] }, 3, "law.go:259", #[⟨19, .data⟩, ⟨18, .chain⟩, ⟨18, .guard⟩], some (18, true)⟩, ⟨some 67, .load 27 (.tmp 10), 27, "law.go:259", #[⟨18, .guard⟩], some (18, true)⟩, ⟨some 68, .call { callee := Callee.value (Operand.func 21), args := #[.tmp 67], argTypes := #[27] }, 3, "law.go:259", #[⟨21, .data⟩, ⟨20, .chain⟩, ⟨18, .guard⟩], some (18, true)⟩, ⟨some 69, .load 27 (.tmp 7), 27, "law.go:259", #[⟨18, .guard⟩], some (18, true)⟩, ⟨some 70, .call { callee := Callee.value (Operand.func 21), args := #[.tmp 69], argTypes := #[27] }, 3, "law.go:259", #[⟨23, .data⟩, ⟨22, .chain⟩, ⟨18, .guard⟩], some (18, true)⟩, ⟨some 71, .binOp .add 3 (.tmp 68) (.tmp 70) 3, 3, "law.go:259", #[⟨22, .data⟩, ⟨24, .data⟩, ⟨18, .guard⟩], some (18, true)⟩, ⟨some 72, .binOp .eql 3 (.tmp 66) (.tmp 71) 3, 4, "law.go:259", #[⟨20, .data⟩, ⟨25, .data⟩, ⟨18, .guard⟩], some (18, true)⟩, ⟨some 73, .pick (.tmp 64) (.tmp 72) (.const (.bool false)), 4, "law.go:259", #[⟨18, .data⟩, ⟨26, .data⟩], none⟩, ⟨some 74, .move (.tmp 73), 4, "law.go:259", #[⟨27, .data⟩, ⟨24, .chain⟩], none⟩, ⟨some 75, .load 27 (.tmp 5), 27, "law.go:259", #[⟨28, .guard⟩], some (28, true)⟩, ⟨some 76, .call { callee := Callee.value (Operand.func 13), args := #[.tmp 11, .tmp 75], argTypes := #[27, 27] }, 4, "law.go:259", #[⟨29, .data⟩, ⟨28, .chain⟩, ⟨28, .guard⟩], some (28, true)⟩, ⟨some 77, .unOp .not 4 (.tmp 76), 4, "law.go:259", #[⟨30, .data⟩, ⟨28, .guard⟩], some (28, true)⟩, ⟨some 78, .pick (.tmp 74) (.tmp 77) (.const (.bool false)), 4, "law.go:259", #[⟨28, .data⟩, ⟨31, .data⟩], none⟩, ⟨some 4, .assign (.tmp 78), 4, "law.go:259", #[⟨32, .data⟩, ⟨30, .chain⟩, ⟨0, .phase⟩, ⟨1, .phase⟩, ⟨2, .phase⟩, ⟨3, .phase⟩, ⟨4, .phase⟩, ⟨5, .phase⟩, ⟨6, .phase⟩, ⟨7, .phase⟩, ⟨8, .phase⟩, ⟨9, .phase⟩, ⟨10, .phase⟩, ⟨11, .phase⟩, ⟨12, .phase⟩, ⟨13, .phase⟩, ⟨14, .phase⟩, ⟨15, .phase⟩, ⟨16, .phase⟩, ⟨17, .phase⟩, ⟨18, .phase⟩, ⟨19, .phase⟩, ⟨20, .phase⟩, ⟨21, .phase⟩, ⟨22, .phase⟩, ⟨23, .phase⟩, ⟨24, .phase⟩, ⟨25, .phase⟩, ⟨26, .phase⟩, ⟨27, .phase⟩, ⟨28, .phase⟩, ⟨29, .phase⟩, ⟨30, .phase⟩, ⟨31, .phase⟩, ⟨32, .phase⟩], none⟩]
def G_l13_ok (k5 k7 k9 k10 k11 k12 k13 : Nat) (f g f2 f3 : Nat → Bool) : Tmp → Value → Prop
  | 46, xx => SetV xx (f2)
  | 47, xx => SetV xx (f)
  | 48, xx => xx = .bool true
  | 49, xx => xx = .bool true
  | 50, xx => SetV xx (f3)
  | 51, xx => SetV xx (union f g)
  | 52, xx => xx = .bool true
  | 53, xx => xx = .bool true
  | 54, xx => xx = .bool true
  | 55, xx => SetV xx (both f g)
  | 56, xx => xx = .int .i64 ((mem (both f g) 4096).length : Nat)
  | 57, xx => SetV xx (alone f g)
  | 58, xx => xx = .int .i64 ((mem (alone f g) 4096).length : Nat)
  | 59, xx => xx = .int .i64 ((mem (f) 4096).length : Nat)
  | 60, xx => SetV xx (f)
  | 61, xx => xx = .int .i64 ((mem (f) 4096).length : Nat)
  | 62, xx => xx = .bool true
  | 63, xx => xx = .bool true
  | 64, xx => xx = .bool true
  | 65, xx => SetV xx (union f g)
  | 66, xx => xx = .int .i64 ((mem (union f g) 4096).length : Nat)
  | 67, xx => SetV xx (alone f g)
  | 68, xx => xx = .int .i64 ((mem (alone f g) 4096).length : Nat)
  | 69, xx => SetV xx (g)
  | 70, xx => xx = .int .i64 ((mem (g) 4096).length : Nat)
  | 71, xx => xx = .int .i64 ((mem (union f g) 4096).length : Nat)
  | 72, xx => xx = .bool true
  | 73, xx => xx = .bool true
  | 74, xx => xx = .bool true
  | 75, xx => SetV xx (f)
  | 76, xx => xx = .bool false
  | 77, xx => xx = .bool true
  | 78, xx => xx = .bool true
  | 4, xx => xx = .bool true
  | _, _ => True
set_option maxHeartbeats 4000000 in
set_option maxRecDepth 100000 in
theorem l13_ok {Q : Exit → Act → World → Prop} {a0 : Act} {wa : World} (k5 k7 k9 k10 k11 k12 k13 : Nat) (f g f2 f3 : Nat → Bool) (hz : a0.tmps.size = 79) (b5 : a0.eval (.tmp 5) = .pointer (some ⟨k5, 0, none⟩)) (b7 : a0.eval (.tmp 7) = .pointer (some ⟨k7, 0, none⟩)) (b9 : a0.eval (.tmp 9) = .pointer (some ⟨k9, 0, none⟩)) (b10 : a0.eval (.tmp 10) = .pointer (some ⟨k10, 0, none⟩)) (b11 : a0.eval (.tmp 11) = .pointer (some ⟨k11, 0, none⟩)) (b12 : a0.eval (.tmp 12) = .pointer (some ⟨k12, 0, none⟩)) (b13 : a0.eval (.tmp 13) = .pointer (some ⟨k13, 0, none⟩)) (B : Nat) (hB : Seven k5 k7 k9 k10 k11 k12 k13 f g f2 f3 wa) (h2 : same f2 f 4096 = true) (h3 : same f3 (union f g) 4096 = true)
    (hend : ∀ (s : Tmp → Value) (W : World), s 4 = .bool true → wa.grownBy W (some k11) → Q .normal (overlay a0 (dstsOf ops_l13_ok) s) W) : (Code.region 13 ops_l13_ok true).wp Tryd.prog Q a0 wa := by
  refine L.wp_region_eachL (by kernel_rfl) (fun _ t v _ => G_l13_ok k5 k7 k9 k10 k11 k12 k13 f g f2 f3 t v) (fun l W => S13 k5 k7 k9 k10 k11 k12 k13 f g f2 f3 wa l W) (by rw [hz]; kernel_rfl) (S13.init hB) ?_ ?_
  · refine And.intro ?_ (And.intro ?_ (And.intro ?_ (And.intro ?_ (And.intro ?_ (And.intro ?_ (And.intro ?_ (And.intro ?_ (And.intro ?_ (And.intro ?_ (And.intro ?_ (And.intro ?_ (And.intro ?_ (And.intro ?_ (And.intro ?_ (And.intro ?_ (And.intro ?_ (And.intro ?_ (And.intro ?_ (And.intro ?_ (And.intro ?_ (And.intro ?_ (And.intro ?_ (And.intro ?_ (And.intro ?_ (And.intro ?_ (And.intro ?_ (And.intro ?_ (And.intro ?_ (And.intro ?_ (And.intro ?_ (And.intro ?_ (And.intro ?_ (And.intro ?_ trivial)))))))))))))))))))))))))))))))))
    · refine ask_v rfl rfl (fun l a W H => ?_)
      have e12 : a.eval (.tmp 12) = .pointer (some ⟨k12, 0, none⟩) := (H.base 12 rfl).trans b12
      have n30 : l 30 = false := Bool.eq_false_iff.2 fun hs => absurd (H.new.symm.trans (H.closed 2 0 (by rfl) (H.closed 3 2 (by rfl) (H.closed 7 3 (by rfl) (H.closed 8 7 (by rfl) (H.closed 17 8 (by rfl) (H.closed 18 17 (by rfl) (H.closed 27 18 (by rfl) (H.closed 28 27 (by rfl) (H.closed 30 28 (by rfl) hs)))))))))) (by decide)
      obtain ⟨cs, t, hc, hC⟩ := (H.s.on n30).x12
      exact ⟨.agg cs, W, ex_load rfl e12 hc Tryd.underlying27 rfl (by rw [hC.1]; exact info27), ⟨cs, rfl, hC⟩, H.s.skip (by decide)⟩
    · refine ask_v rfl rfl (fun l a W H => ?_)
      have e5 : a.eval (.tmp 5) = .pointer (some ⟨k5, 0, none⟩) := (H.base 5 rfl).trans b5
      have n30 : l 30 = false := Bool.eq_false_iff.2 fun hs => absurd (H.new.symm.trans (H.closed 2 1 (by rfl) (H.closed 3 2 (by rfl) (H.closed 7 3 (by rfl) (H.closed 8 7 (by rfl) (H.closed 17 8 (by rfl) (H.closed 18 17 (by rfl) (H.closed 27 18 (by rfl) (H.closed 28 27 (by rfl) (H.closed 30 28 (by rfl) hs)))))))))) (by decide)
      obtain ⟨cs, t, hc, hC⟩ := (H.s.on n30).x5
      exact ⟨.agg cs, W, ex_load rfl e5 hc Tryd.underlying27 rfl (by rw [hC.1]; exact info27), ⟨cs, rfl, hC⟩, H.s.skip (by decide)⟩
    · refine ask_c rfl Tryd.func23 (by kernel_rfl) (by kernel_rfl) rfl (fun l a W H => ?_)
      have e46 := H.facts 46 rfl
      have e47 := H.facts 47 rfl
      simp only [List.map_toArray, List.map_cons, List.map_nil, ]
      refine (same_any _ _ f2 f W e46 e47).mono ?_
      rintro e w' ⟨rfl, hg⟩
      exact ⟨_, rfl, fun d h => by cases h; show _ = _; rw [h2], (H.s.grow hg).skip (by decide)⟩
    · refine ask_v rfl rfl (fun l a W H => ⟨_, W, ?_, rfl, H.s.skip (by decide)⟩)
      have e48 : a.eval (.tmp 48) = .bool true := H.facts 48 rfl
      exact ex_move rfl e48
    · refine ask_v ⟨49, rfl, rfl, fun _ h => h⟩ rfl (fun l a W H => ?_)
      have e13 : a.eval (.tmp 13) = .pointer (some ⟨k13, 0, none⟩) := (H.base 13 rfl).trans b13
      have n30 : l 30 = false := Bool.eq_false_iff.2 fun hs => absurd (H.new.symm.trans (H.closed 6 4 (by rfl) (H.closed 8 6 (by rfl) (H.closed 17 8 (by rfl) (H.closed 18 17 (by rfl) (H.closed 27 18 (by rfl) (H.closed 28 27 (by rfl) (H.closed 30 28 (by rfl) hs)))))))) (by decide)
      obtain ⟨cs, t, hc, hC⟩ := (H.s.on n30).x13
      exact ⟨.agg cs, W, ex_load rfl e13 hc Tryd.underlying27 rfl (by rw [hC.1]; exact info27), ⟨cs, rfl, hC⟩, H.s.skip (by decide)⟩
    · refine ask_v ⟨49, rfl, rfl, fun _ h => h⟩ rfl (fun l a W H => ?_)
      have e11 : a.eval (.tmp 11) = .pointer (some ⟨k11, 0, none⟩) := (H.base 11 rfl).trans b11
      have n30 : l 30 = false := Bool.eq_false_iff.2 fun hs => absurd (H.new.symm.trans (H.closed 6 5 (by rfl) (H.closed 8 6 (by rfl) (H.closed 17 8 (by rfl) (H.closed 18 17 (by rfl) (H.closed 27 18 (by rfl) (H.closed 28 27 (by rfl) (H.closed 30 28 (by rfl) hs)))))))) (by decide)
      obtain ⟨cs, t, hc, hC⟩ := (H.s.on n30).x11
      exact ⟨.agg cs, W, ex_load rfl e11 hc Tryd.underlying27 rfl (by rw [hC.1]; exact info27), ⟨cs, rfl, hC⟩, H.s.skip (by decide)⟩
    · refine ask_c ⟨49, rfl, rfl, fun _ h => h⟩ Tryd.func23 (by kernel_rfl) (by kernel_rfl) rfl (fun l a W H => ?_)
      have e50 := H.facts 50 rfl
      have e51 := H.facts 51 rfl
      simp only [List.map_toArray, List.map_cons, List.map_nil, ]
      refine (same_any _ _ f3 (union f g) W e50 e51).mono ?_
      rintro e w' ⟨rfl, hg⟩
      exact ⟨_, rfl, fun d h => by cases h; show _ = _; rw [h3], (H.s.grow hg).skip (by decide)⟩
    · refine ask_v rfl rfl (fun l a W H => ⟨_, W, ?_, rfl, H.s.skip (by decide)⟩)
      have e49 : a.eval (.tmp 49) = .bool true := H.facts 49 rfl
      have e52 : a.eval (.tmp 52) = .bool true := H.facts 52 rfl
      exact ex_pick1 rfl e49 e52
    · refine ask_v rfl rfl (fun l a W H => ⟨_, W, ?_, rfl, H.s.skip (by decide)⟩)
      have e53 : a.eval (.tmp 53) = .bool true := H.facts 53 rfl
      exact ex_move rfl e53
    · refine ask_v ⟨54, rfl, rfl, fun _ h => h⟩ rfl (fun l a W H => ?_)
      have e9 : a.eval (.tmp 9) = .pointer (some ⟨k9, 0, none⟩) := (H.base 9 rfl).trans b9
      have n30 : l 30 = false := Bool.eq_false_iff.2 fun hs => absurd (H.new.symm.trans (H.closed 10 9 (by rfl) (H.closed 12 10 (by rfl) (H.closed 15 12 (by rfl) (H.closed 18 15 (by rfl) (H.closed 27 18 (by rfl) (H.closed 28 27 (by rfl) (H.closed 30 28 (by rfl) hs)))))))) (by decide)
      obtain ⟨cs, t, hc, hC⟩ := (H.s.on n30).x9
      exact ⟨.agg cs, W, ex_load rfl e9 hc Tryd.underlying27 rfl (by rw [hC.1]; exact info27), ⟨cs, rfl, hC⟩, H.s.skip (by decide)⟩
    · refine ask_c ⟨54, rfl, rfl, fun _ h => h⟩ Tryd.func21 (by kernel_rfl) (by kernel_rfl) rfl (fun l a W H => ?_)
      have e55 := H.facts 55 rfl
      simp only [List.map_toArray, List.map_cons, List.map_nil, ]
      refine (len_any _ (both f g) W e55).mono ?_
      rintro e w' ⟨rfl, hg⟩
      exact ⟨_, rfl, fun d h => by cases h; rfl, (H.s.grow hg).skip (by decide)⟩
    · refine ask_v ⟨54, rfl, rfl, fun _ h => h⟩ rfl (fun l a W H => ?_)
      have e10 : a.eval (.tmp 10) = .pointer (some ⟨k10, 0, none⟩) := (H.base 10 rfl).trans b10
      have n30 : l 30 = false := Bool.eq_false_iff.2 fun hs => absurd (H.new.symm.trans (H.closed 12 11 (by rfl) (H.closed 15 12 (by rfl) (H.closed 18 15 (by rfl) (H.closed 27 18 (by rfl) (H.closed 28 27 (by rfl) (H.closed 30 28 (by rfl) hs))))))) (by decide)
      obtain ⟨cs, t, hc, hC⟩ := (H.s.on n30).x10
      exact ⟨.agg cs, W, ex_load rfl e10 hc Tryd.underlying27 rfl (by rw [hC.1]; exact info27), ⟨cs, rfl, hC⟩, H.s.skip (by decide)⟩
    · refine ask_c ⟨54, rfl, rfl, fun _ h => h⟩ Tryd.func21 (by kernel_rfl) (by kernel_rfl) rfl (fun l a W H => ?_)
      have e57 := H.facts 57 rfl
      simp only [List.map_toArray, List.map_cons, List.map_nil, ]
      refine (len_any _ (alone f g) W e57).mono ?_
      rintro e w' ⟨rfl, hg⟩
      exact ⟨_, rfl, fun d h => by cases h; rfl, (H.s.grow hg).skip (by decide)⟩
    · refine ask_v ⟨54, rfl, rfl, fun _ h => h⟩ rfl (fun l a W H => ⟨_, W, ?_, rfl, H.s.skip (by decide)⟩)
      have e56 : a.eval (.tmp 56) = .int .i64 ((mem (both f g) 4096).length : Nat) := H.facts 56 rfl
      have e58 : a.eval (.tmp 58) = .int .i64 ((mem (alone f g) 4096).length : Nat) := H.facts 58 rfl
      exact ex_addi rfl e56 e58 (len_split f g) (mem_len f 4096)
    · refine ask_v ⟨54, rfl, rfl, fun _ h => h⟩ rfl (fun l a W H => ?_)
      have e5 : a.eval (.tmp 5) = .pointer (some ⟨k5, 0, none⟩) := (H.base 5 rfl).trans b5
      have n30 : l 30 = false := Bool.eq_false_iff.2 fun hs => absurd (H.new.symm.trans (H.closed 15 14 (by rfl) (H.closed 18 15 (by rfl) (H.closed 27 18 (by rfl) (H.closed 28 27 (by rfl) (H.closed 30 28 (by rfl) hs)))))) (by decide)
      obtain ⟨cs, t, hc, hC⟩ := (H.s.on n30).x5
      exact ⟨.agg cs, W, ex_load rfl e5 hc Tryd.underlying27 rfl (by rw [hC.1]; exact info27), ⟨cs, rfl, hC⟩, H.s.skip (by decide)⟩
    · refine ask_c ⟨54, rfl, rfl, fun _ h => h⟩ Tryd.func21 (by kernel_rfl) (by kernel_rfl) rfl (fun l a W H => ?_)
      have e60 := H.facts 60 rfl
      simp only [List.map_toArray, List.map_cons, List.map_nil, ]
      refine (len_any _ (f) W e60).mono ?_
      rintro e w' ⟨rfl, hg⟩
      exact ⟨_, rfl, fun d h => by cases h; rfl, (H.s.grow hg).skip (by decide)⟩
    · refine ask_v ⟨54, rfl, rfl, fun _ h => h⟩ rfl (fun l a W H => ⟨_, W, ?_, rfl, H.s.skip (by decide)⟩)
      have e59 : a.eval (.tmp 59) = .int .i64 ((mem (f) 4096).length : Nat) := H.facts 59 rfl
      have e61 : a.eval (.tmp 61) = .int .i64 ((mem (f) 4096).length : Nat) := H.facts 61 rfl
      exact ex_eqi rfl e59 e61 (by simp)
    · refine ask_v rfl rfl (fun l a W H => ⟨_, W, ?_, rfl, H.s.skip (by decide)⟩)
      have e54 : a.eval (.tmp 54) = .bool true := H.facts 54 rfl
      have e62 : a.eval (.tmp 62) = .bool true := H.facts 62 rfl
      exact ex_pick1 rfl e54 e62
    · refine ask_v rfl rfl (fun l a W H => ⟨_, W, ?_, rfl, H.s.skip (by decide)⟩)
      have e63 : a.eval (.tmp 63) = .bool true := H.facts 63 rfl
      exact ex_move rfl e63
    · refine ask_v ⟨64, rfl, rfl, fun _ h => h⟩ rfl (fun l a W H => ?_)
      have e11 : a.eval (.tmp 11) = .pointer (some ⟨k11, 0, none⟩) := (H.base 11 rfl).trans b11
      have n30 : l 30 = false := Bool.eq_false_iff.2 fun hs => absurd (H.new.symm.trans (H.closed 20 19 (by rfl) (H.closed 26 20 (by rfl) (H.closed 27 26 (by rfl) (H.closed 28 27 (by rfl) (H.closed 30 28 (by rfl) hs)))))) (by decide)
      obtain ⟨cs, t, hc, hC⟩ := (H.s.on n30).x11
      exact ⟨.agg cs, W, ex_load rfl e11 hc Tryd.underlying27 rfl (by rw [hC.1]; exact info27), ⟨cs, rfl, hC⟩, H.s.skip (by decide)⟩
    · refine ask_c ⟨64, rfl, rfl, fun _ h => h⟩ Tryd.func21 (by kernel_rfl) (by kernel_rfl) rfl (fun l a W H => ?_)
      have e65 := H.facts 65 rfl
      simp only [List.map_toArray, List.map_cons, List.map_nil, ]
      refine (len_any _ (union f g) W e65).mono ?_
      rintro e w' ⟨rfl, hg⟩
      exact ⟨_, rfl, fun d h => by cases h; rfl, (H.s.grow hg).skip (by decide)⟩
    · refine ask_v ⟨64, rfl, rfl, fun _ h => h⟩ rfl (fun l a W H => ?_)
      have e10 : a.eval (.tmp 10) = .pointer (some ⟨k10, 0, none⟩) := (H.base 10 rfl).trans b10
      have n30 : l 30 = false := Bool.eq_false_iff.2 fun hs => absurd (H.new.symm.trans (H.closed 22 21 (by rfl) (H.closed 24 22 (by rfl) (H.closed 28 24 (by rfl) (H.closed 30 28 (by rfl) hs))))) (by decide)
      obtain ⟨cs, t, hc, hC⟩ := (H.s.on n30).x10
      exact ⟨.agg cs, W, ex_load rfl e10 hc Tryd.underlying27 rfl (by rw [hC.1]; exact info27), ⟨cs, rfl, hC⟩, H.s.skip (by decide)⟩
    · refine ask_c ⟨64, rfl, rfl, fun _ h => h⟩ Tryd.func21 (by kernel_rfl) (by kernel_rfl) rfl (fun l a W H => ?_)
      have e67 := H.facts 67 rfl
      simp only [List.map_toArray, List.map_cons, List.map_nil, ]
      refine (len_any _ (alone f g) W e67).mono ?_
      rintro e w' ⟨rfl, hg⟩
      exact ⟨_, rfl, fun d h => by cases h; rfl, (H.s.grow hg).skip (by decide)⟩
    · refine ask_v ⟨64, rfl, rfl, fun _ h => h⟩ rfl (fun l a W H => ?_)
      have e7 : a.eval (.tmp 7) = .pointer (some ⟨k7, 0, none⟩) := (H.base 7 rfl).trans b7
      have n30 : l 30 = false := Bool.eq_false_iff.2 fun hs => absurd (H.new.symm.trans (H.closed 24 23 (by rfl) (H.closed 28 24 (by rfl) (H.closed 30 28 (by rfl) hs)))) (by decide)
      obtain ⟨cs, t, hc, hC⟩ := (H.s.on n30).x7
      exact ⟨.agg cs, W, ex_load rfl e7 hc Tryd.underlying27 rfl (by rw [hC.1]; exact info27), ⟨cs, rfl, hC⟩, H.s.skip (by decide)⟩
    · refine ask_c ⟨64, rfl, rfl, fun _ h => h⟩ Tryd.func21 (by kernel_rfl) (by kernel_rfl) rfl (fun l a W H => ?_)
      have e69 := H.facts 69 rfl
      simp only [List.map_toArray, List.map_cons, List.map_nil, ]
      refine (len_any _ (g) W e69).mono ?_
      rintro e w' ⟨rfl, hg⟩
      exact ⟨_, rfl, fun d h => by cases h; rfl, (H.s.grow hg).skip (by decide)⟩
    · refine ask_v ⟨64, rfl, rfl, fun _ h => h⟩ rfl (fun l a W H => ⟨_, W, ?_, rfl, H.s.skip (by decide)⟩)
      have e68 : a.eval (.tmp 68) = .int .i64 ((mem (alone f g) 4096).length : Nat) := H.facts 68 rfl
      have e70 : a.eval (.tmp 70) = .int .i64 ((mem (g) 4096).length : Nat) := H.facts 70 rfl
      exact ex_addi rfl e68 e70 (len_join f g) (mem_len (union f g) 4096)
    · refine ask_v ⟨64, rfl, rfl, fun _ h => h⟩ rfl (fun l a W H => ⟨_, W, ?_, rfl, H.s.skip (by decide)⟩)
      have e66 : a.eval (.tmp 66) = .int .i64 ((mem (union f g) 4096).length : Nat) := H.facts 66 rfl
      have e71 : a.eval (.tmp 71) = .int .i64 ((mem (union f g) 4096).length : Nat) := H.facts 71 rfl
      exact ex_eqi rfl e66 e71 (by simp)
    · refine ask_v rfl rfl (fun l a W H => ⟨_, W, ?_, rfl, H.s.skip (by decide)⟩)
      have e64 : a.eval (.tmp 64) = .bool true := H.facts 64 rfl
      have e72 : a.eval (.tmp 72) = .bool true := H.facts 72 rfl
      exact ex_pick1 rfl e64 e72
    · refine ask_v rfl rfl (fun l a W H => ⟨_, W, ?_, rfl, H.s.skip (by decide)⟩)
      have e73 : a.eval (.tmp 73) = .bool true := H.facts 73 rfl
      exact ex_move rfl e73
    · refine ask_v ⟨74, rfl, rfl, fun _ h => h⟩ rfl (fun l a W H => ?_)
      have e5 : a.eval (.tmp 5) = .pointer (some ⟨k5, 0, none⟩) := (H.base 5 rfl).trans b5
      have n30 : l 30 = false := Bool.eq_false_iff.2 fun hs => absurd (H.new.symm.trans (H.closed 30 29 (by rfl) hs)) (by decide)
      obtain ⟨cs, t, hc, hC⟩ := (H.s.on n30).x5
      exact ⟨.agg cs, W, ex_load rfl e5 hc Tryd.underlying27 rfl (by rw [hC.1]; exact info27), ⟨cs, rfl, hC⟩, H.s.skip (by decide)⟩
    · refine ask_c ⟨74, rfl, rfl, fun _ h => h⟩ Tryd.func13 (by kernel_rfl) (by kernel_rfl) rfl (fun l a W H => ?_)
      have e11 : a.eval (.tmp 11) = .pointer (some ⟨k11, 0, none⟩) := (H.base 11 rfl).trans b11
      have e75 := H.facts 75 rfl
      simp only [List.map_toArray, List.map_cons, List.map_nil, e11]
      refine (join_any k11 _ (union f g) f W (H.s.on H.new).x11 e75).mono ?_
      rintro e w' ⟨rfl, hS, hg⟩
      exact ⟨_, rfl, fun d h => by cases h; show _ = _; rw [same_union], H.s.last hg⟩
    · refine ask_v ⟨74, rfl, rfl, fun _ h => h⟩ rfl (fun l a W H => ⟨_, W, ?_, rfl, H.s.skip (by decide)⟩)
      have e76 : a.eval (.tmp 76) = .bool false := H.facts 76 rfl
      exact ex_not rfl e76 rfl
    · refine ask_v rfl rfl (fun l a W H => ⟨_, W, ?_, rfl, H.s.skip (by decide)⟩)
      have e74 : a.eval (.tmp 74) = .bool true := H.facts 74 rfl
      have e77 : a.eval (.tmp 77) = .bool true := H.facts 77 rfl
      exact ex_pick1 rfl e74 e77
    · refine ask_v rfl rfl (fun l a W H => ⟨_, W, ?_, rfl, H.s.skip (by decide)⟩)
      have e78 : a.eval (.tmp 78) = .bool true := H.facts 78 rfl
      exact ex_assign rfl e78
  · intro l s W hall hS hs
    exact hend s W (hs 4 rfl) hS.gb
end Go.Proofs.YtdeebmpmfedjbaaDoor
