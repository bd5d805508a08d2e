/- BagMany's last region: nine calls one behind the other. -/
import Derived.Test.YtdeebmpmfedjbaaDoorJo
import Derived.Test.YtdeebmpmfedjbaaDoorAl
namespace Go.Proofs.YtdeebmpmfedjbaaDoor
open Go.RowKit Bag
set_option linter.unusedVariables false
theorem ex_eqb {ρ : Operand → Value} {o : Oper} {w : World} {x y : Operand} {t : TypeId} {p q r : Bool} (ho : o.op = .binOp .eql 4 x y t) (hx : ρ x = .bool p) (hy : ρ y = .bool q) (h : (p == q) = r) : (execOp ρ o).run Tryd.prog w = .ok (.value (.bool r)) w := by
  subst h
  unfold execOp
  simp only [ho, hx, hy]
  cases p <;> cases q <;> go_simp
theorem ex_eqi {ρ : Operand → Value} {o : Oper} {w : World} {x y : Operand} {t : TypeId} {p q : Int} {r : Bool} (ho : o.op = .binOp .eql 3 x y t) (hx : ρ x = .int .i64 p) (hy : ρ y = .int .i64 q) (h : decide (p = q) = r) : (execOp ρ o).run Tryd.prog w = .ok (.value (.bool r)) w := by
  subst h
  unfold execOp
  simp only [ho, hx, hy]
  go_simp
  rw [Bool.eq_iff_iff]
  simp
theorem ex_len {ρ : Operand → Value} {o : Oper} {w : World} {xs : Array Operand} {ao : Option Addr} {n c : Nat} (ho : o.op = .call { callee := .builtin .len, args := xs, argTypes := #[31] }) (hx : xs.map ρ = #[.slice ao n c]) : (execOp ρ o).run Tryd.prog w = .ok (.value (.int .i64 n)) w := by
  unfold execOp
  simp only [ho]
  go_simp
/-- A set that is turned at two places: 13, then 23. -/
structure S3 (f0 f1 f2 : Nat → Bool) (b : Nat) (wa : World) (l : Nat → Bool) (W : World) : Prop where
  tab : Tab W
  gb : wa.grownBy W (some b)
  s0 : l 13 = false → l 23 = false → SetAt W b f0
  s1 : l 13 = true → l 23 = false → SetAt W b f1
  s2 : l 23 = true → SetAt W b f2
  lt : 0 < b
section
variable {f0 f1 f2 : Nat → Bool} {b : Nat} {wa W W' : World} {l : Nat → Bool}
theorem Tab.gb {r : Option Nat} (h : Tab W) (hg : W.grownBy W' r) (h0 : some 0 ≠ r) : Tab W' := fun j hj => by
  have := h j hj
  have hlt := World.block_lt_of_cell? W _ this
  unfold World.cell? at this ⊢
  rw [show W'.heap[(⟨0, j, none⟩ : Addr).block]? = W.heap[(⟨0, j, none⟩ : Addr).block]? from hg.block 0 hlt h0]
  exact this
theorem S3.skip (h : S3 f0 f1 f2 b wa l W) {j : Nat} (h5 : 13 ≠ j) (h7 : 23 ≠ j) : S3 f0 f1 f2 b wa (upd l j) W := by
  have u5 : upd l j 13 = l 13 := if_neg h5
  have u7 : upd l j 23 = l 23 := if_neg h7
  exact ⟨h.tab, h.gb, by rw [u5, u7]; exact h.s0, by rw [u5, u7]; exact h.s1, by rw [u7]; exact h.s2, h.lt⟩
theorem S3.grow (h : S3 f0 f1 f2 b wa l W) (hg : W.grownBy W' none) : S3 f0 f1 f2 b wa l W' :=
  ⟨h.tab.gb hg (by simp), h.gb.trans (gb_any hg), fun a c => (h.s0 a c).kept hg (by simp), fun a c => (h.s1 a c).kept hg (by simp), fun a => (h.s2 a).kept hg (by simp), h.lt⟩
theorem S3.to1 (h : S3 f0 f1 f2 b wa l W) {x : Int} (n13 : l 13 = false) (n23 : l 23 = false) (h1 : f1 = ins f0 x) (hS : SetAt W' b (ins f0 x)) (hg : W.grownBy W' (some b)) : S3 f0 f1 f2 b wa (upd l 13) W' := by
  have u5 : upd l 13 13 = true := if_pos rfl
  have u7 : upd l 13 23 = false := (if_neg (by decide)).trans n23
  refine ⟨h.tab.gb hg (by have := h.lt; simp; omega), h.gb.trans hg, ?_, ?_, ?_, h.lt⟩
  · rw [u5]; intro e; cases e
  · rw [h1]; exact fun _ _ => hS
  · rw [u7]; intro e; cases e
theorem S3.to2 (h : S3 f0 f1 f2 b wa l W) {x : Int} (h1 : f2 = del f1 x) (hS : SetAt W' b (del f1 x)) (hg : W.grownBy W' (some b)) : S3 f0 f1 f2 b wa (upd l 23) W' := by
  have u7 : upd l 23 23 = true := if_pos rfl
  refine ⟨h.tab.gb hg (by have := h.lt; simp; omega), h.gb.trans hg, ?_, ?_, ?_, h.lt⟩
  · rw [u7]; intro _ e; cases e
  · rw [u7]; intro _ e; cases e
  · rw [h1]; exact fun _ => hS
theorem S3.same2 (h : S3 f0 f1 f2 b wa l W) (y23 : l 23 = true) (hS : SetAt W' b f2) (hg : W.grownBy W' (some b)) : S3 f0 f1 f2 b wa l W' := by
  refine ⟨h.tab.gb hg (by have := h.lt; simp; omega), h.gb.trans hg, ?_, ?_, fun _ => hS, h.lt⟩
  · rw [y23]; intro _ e; cases e
  · rw [y23]; intro _ e; cases e
theorem S3.start (h : Tab wa) (hb : SetAt wa b f0) : S3 f0 f1 f2 b wa.drew (fun _ => false) wa.drew := by
  refine ⟨h, gb_refl _ _, fun _ _ => hb.drew, fun e => (by cases e), fun e => (by cases e), ?_⟩
  obtain ⟨cs, t, e, hC⟩ := hb
  have h0 := h 0 (by decide)
  rcases Nat.eq_zero_or_pos b with e0 | e0
  · subst e0
    exfalso
    have hc := cell_of_row wa 0 0 cs t _ e
    obtain ⟨y, ey, _⟩ := hC.2 0 (by decide)
    rw [h0, ey] at hc
    simp at hc
  · exact e0
end
def ops_many14_in : Array Oper := #[⟨some 40, .load 27 (.tmp 5), 27, "law.go:278", #[], none⟩, ⟨some 41, .call { callee := Callee.value (Operand.func 21), args := #[.tmp 40], argTypes := #[27] }, 3, "law.go:278", #[⟨0, .data⟩], none⟩, ⟨some 42, .move (.tmp 7), 3, "law.go:278", #[], none⟩, ⟨some 43, .binOp .eql 3 (.tmp 41) (.tmp 42) 3, 4, "law.go:278", #[⟨1, .data⟩, ⟨2, .data⟩], none⟩, ⟨some 44, .move (.tmp 43), 4, "law.go:278", #[⟨3, .data⟩, ⟨1, .chain⟩], none⟩, ⟨some 45, .load 27 (.tmp 5), 27, "law.go:278", #[⟨4, .guard⟩], some (4, true)⟩, ⟨some 46, .move (.tmp 0), 3, "law.go:278", #[⟨4, .guard⟩], some (4, true)⟩, ⟨some 47, .call { callee := Callee.value (Operand.func 22), args := #[.tmp 45, .tmp 46], argTypes := #[27, 3] }, 4, "law.go:278", #[⟨5, .data⟩, ⟨6, .data⟩, ⟨4, .chain⟩, ⟨4, .guard⟩], some (4, true)⟩, ⟨some 48, .move (.tmp 10), 4, "law.go:278", #[⟨4, .guard⟩], some (4, true)⟩, ⟨some 49, .binOp .eql 4 (.tmp 47) (.tmp 48) 4, 4, "law.go:278", #[⟨7, .data⟩, ⟨8, .data⟩, ⟨4, .guard⟩], some (4, true)⟩, ⟨some 50, .pick (.tmp 44) (.tmp 49) (.const (.bool false)), 4, "law.go:278", #[⟨4, .data⟩, ⟨9, .data⟩], none⟩, ⟨some 51, .move (.tmp 50), 4, "law.go:278", #[⟨10, .data⟩, ⟨7, .chain⟩], none⟩, ⟨some 52, .move (.tmp 0), 3, "law.go:278", #[⟨11, .guard⟩], some (11, true)⟩, ⟨some 53, .call { callee := Callee.value (Operand.func 17), args := #[.tmp 5, .tmp 52], argTypes := #[27, 3] }, 4, "law.go:278", #[⟨12, .data⟩, ⟨11, .chain⟩, ⟨11, .guard⟩], some (11, true)⟩, ⟨some 54, .move (.tmp 9), 4, "law.go:278", #[⟨11, .guard⟩], some (11, true)⟩, ⟨some 55, .move (.tmp 54), 4, "law.go:278", #[⟨14, .data⟩, ⟨13, .chain⟩, ⟨11, .guard⟩], some (11, true)⟩, ⟨some 56, .move (.tmp 10), 4, "law.go:278", #[⟨15, .guard⟩], some (15, true)⟩, ⟨some 57, .unOp .not 4 (.tmp 56), 4, "law.go:278", #[⟨16, .data⟩, ⟨15, .guard⟩], some (15, true)⟩, ⟨some 58, .pick (.tmp 55) (.tmp 57) (.const (.bool false)), 4, "law.go:278", #[⟨15, .data⟩, ⟨17, .data⟩, ⟨11, .guard⟩], some (11, true)⟩, ⟨some 59, .binOp .eql 4 (.tmp 53) (.tmp 58) 4, 4, "law.go:278", #[⟨13, .data⟩, ⟨18, .data⟩, ⟨11, .guard⟩], some (11, true)⟩, ⟨some 60, .pick (.tmp 51) (.tmp 59) (.const (.bool false)), 4, "law.go:278", #[⟨11, .data⟩, ⟨19, .data⟩], none⟩, ⟨some 61, .move (.tmp 60), 4, "law.go:278", #[⟨20, .data⟩, ⟨15, .chain⟩], none⟩, ⟨some 62, .move (.tmp 0), 3, "law.go:278", #[⟨21, .guard⟩], some (21, true)⟩, ⟨some 63, .call { callee := Callee.value (Operand.func 12), args := #[.tmp 5, .tmp 62], argTypes := #[27, 3] }, 4, "law.go:278", #[⟨22, .data⟩, ⟨21, .chain⟩, ⟨21, .guard⟩], some (21, true)⟩, ⟨some 64, .move (.tmp 9), 4, "law.go:278", #[⟨21, .guard⟩], some (21, true)⟩, ⟨some 65, .binOp .eql 4 (.tmp 63) (.tmp 64) 4, 4, "law.go:278", #[⟨23, .data⟩, ⟨24, .data⟩, ⟨21, .guard⟩], some (21, true)⟩, ⟨some 66, .pick (.tmp 61) (.tmp 65) (.const (.bool false)), 4, "law.go:278", #[⟨21, .data⟩, ⟨25, .data⟩], none⟩, ⟨some 67, .move (.tmp 66), 4, "law.go:278", #[⟨26, .data⟩, ⟨23, .chain⟩], none⟩, ⟨some 68, .call { callee := Callee.value (Operand.func 17), args := #[.tmp 5, .const (.int .i64 (-1))], argTypes := #[27, 3] }, 4, "law.go:278", #[⟨27, .chain⟩, ⟨27, .guard⟩], some (27, true)⟩, ⟨some 69, .unOp .not 4 (.tmp 68), 4, "law.go:278", #[⟨28, .data⟩, ⟨27, .guard⟩], some (27, true)⟩, ⟨some 70, .pick (.tmp 67) (.tmp 69) (.const (.bool false)), 4, "law.go:278", #[⟨27, .data⟩, ⟨29, .data⟩], none⟩, ⟨some 71, .move (.tmp 70), 4, "law.go:278", #[⟨30, .data⟩, ⟨28, .chain⟩], none⟩, ⟨some 72, .call { callee := Callee.value (Operand.func 17), args := #[.tmp 5, .const (.int .i64 4096)], argTypes := #[27, 3] }, 4, "law.go:278", #[⟨31, .chain⟩, ⟨31, .guard⟩], some (31, true)⟩, ⟨some 73, .unOp .not 4 (.tmp 72), 4, "law.go:278", #[⟨32, .data⟩, ⟨31, .guard⟩], some (31, true)⟩, ⟨some 74, .pick (.tmp 71) (.tmp 73) (.const (.bool false)), 4, "law.go:278", #[⟨31, .data⟩, ⟨33, .data⟩], none⟩, ⟨some 75, .move (.tmp 74), 4, "law.go:278", #[⟨34, .data⟩, ⟨32, .chain⟩], none⟩, ⟨some 76, .call { callee := Callee.value (Operand.func 12), args := #[.tmp 5, .const (.int .i64 4096)], argTypes := #[27, 3] }, 4, "law.go:278", #[⟨35, .chain⟩, ⟨35, .guard⟩], some (35, true)⟩, ⟨some 77, .unOp .not 4 (.tmp 76), 4, "law.go:278", #[⟨36, .data⟩, ⟨35, .guard⟩], some (35, true)⟩, ⟨some 78, .pick (.tmp 75) (.tmp 77) (.const (.bool false)), 4, "law.go:278", #[⟨35, .data⟩, ⟨37, .data⟩], none⟩, ⟨some 79, .move (.tmp 78), 4, "law.go:278", #[⟨38, .data⟩, ⟨36, .chain⟩], none⟩, ⟨some 80, .load 27 (.tmp 5), 27, "law.go:278", #[⟨39, .guard⟩], some (39, true)⟩, ⟨some 81, .call { callee := Callee.value (Operand.func 20), args := #[.tmp 80], argTypes := #[27] }, 31, "law.go:278", #[⟨40, .data⟩, ⟨39, .chain⟩, ⟨39, .guard⟩], some (39, true)⟩, ⟨some 82, .call { callee := Callee.builtin Builtin.len, args := #[.tmp 81], argTypes := #[31] }, 3, "law.go:278", #[⟨41, .data⟩, ⟨39, .guard⟩], some (39, true)⟩, ⟨some 83, .load 27 (.tmp 5), 27, "law.go:278", #[⟨39, .guard⟩], some (39, true)⟩, ⟨some 84, .call { callee := Callee.value (Operand.func 21), args := #[.tmp 83], argTypes := #[27] }, 3, "law.go:278", #[⟨43, .data⟩, ⟨41, .chain⟩, ⟨39, .guard⟩], some (39, true)⟩, ⟨some 85, .binOp .eql 3 (.tmp 82) (.tmp 84) 3, 4, "law.go:278", #[⟨42, .data⟩, ⟨44, .data⟩, ⟨39, .guard⟩], some (39, true)⟩, ⟨some 86, .pick (.tmp 79) (.tmp 85) (.const (.bool false)), 4, "law.go:278", #[⟨39, .data⟩, ⟨45, .data⟩], none⟩, ⟨some 4, .assign (.tmp 86), 4, "law.go:278", #[⟨46, .data⟩, ⟨44, .chain⟩, ⟨0, .phase⟩, ⟨1, .phase⟩, ⟨2, .phase⟩, ⟨3, .phase⟩, ⟨4, .phase⟩, ⟨5, .phase⟩, ⟨6, .phase⟩, ⟨7, .phase⟩, ⟨8, .phase⟩, ⟨9, .phase⟩, ⟨10, .phase⟩, ⟨11, .phase⟩, ⟨12, .phase⟩, ⟨13, .phase⟩, ⟨14, .phase⟩, ⟨15, .phase⟩, ⟨16, .phase⟩, ⟨17, .phase⟩, ⟨18, .phase⟩, ⟨19, .phase⟩, ⟨20, .phase⟩, ⟨21, .phase⟩, ⟨22, .phase⟩, ⟨23, .phase⟩, ⟨24, .phase⟩, ⟨25, .phase⟩, ⟨26, .phase⟩, ⟨27, .phase⟩, ⟨28, .phase⟩, ⟨29, .phase⟩, ⟨30, .phase⟩, ⟨31, .phase⟩, ⟨32, .phase⟩, ⟨33, .phase⟩, ⟨34, .phase⟩, ⟨35, .phase⟩, ⟨36, .phase⟩, ⟨37, .phase⟩, ⟨38, .phase⟩, ⟨39, .phase⟩, ⟨40, .phase⟩, ⟨41, .phase⟩, ⟨42, .phase⟩, ⟨43, .phase⟩, ⟨44, .phase⟩, ⟨45, .phase⟩, ⟨46, .phase⟩], none⟩]
def G_many14_in (b : Nat) (x : Int) (f0 f1 f2 : Nat → Bool) (hs : Bool) : Tmp → Value → Prop
  | 40, xx => SetV xx f0
  | 41, xx => xx = .int .i64 ((mem f0 4096).length : Nat)
  | 42, xx => xx = .int .i64 ((mem f0 4096).length : Nat)
  | 43, xx => xx = .bool true
  | 44, xx => xx = .bool true
  | 45, xx => SetV xx f0
  | 46, xx => xx = .int .i64 x
  | 47, xx => xx = .bool hs
  | 48, xx => xx = .bool hs
  | 49, xx => xx = .bool true
  | 50, xx => xx = .bool true
  | 51, xx => xx = .bool true
  | 52, xx => xx = .int .i64 x
  | 53, xx => xx = .bool (!hs)
  | 54, xx => xx = .bool true
  | 55, xx => xx = .bool true
  | 56, xx => xx = .bool hs
  | 57, xx => xx = .bool (!hs)
  | 58, xx => xx = .bool (!hs)
  | 59, xx => xx = .bool true
  | 60, xx => xx = .bool true
  | 61, xx => xx = .bool true
  | 62, xx => xx = .int .i64 x
  | 63, xx => xx = .bool true
  | 64, xx => xx = .bool true
  | 65, xx => xx = .bool true
  | 66, xx => xx = .bool true
  | 67, xx => xx = .bool true
  | 68, xx => xx = .bool false
  | 69, xx => xx = .bool true
  | 70, xx => xx = .bool true
  | 71, xx => xx = .bool true
  | 72, xx => xx = .bool false
  | 73, xx => xx = .bool true
  | 74, xx => xx = .bool true
  | 75, xx => xx = .bool true
  | 76, xx => xx = .bool false
  | 77, xx => xx = .bool true
  | 78, xx => xx = .bool true
  | 79, xx => xx = .bool true
  | 80, xx => SetV xx f2
  | 81, xx => ∃ ao cap, xx = .slice ao (mem f2 4096).length cap
  | 82, xx => xx = .int .i64 ((mem f2 4096).length : Nat)
  | 83, xx => SetV xx f2
  | 84, xx => xx = .int .i64 ((mem f2 4096).length : Nat)
  | 85, xx => xx = .bool true
  | 86, xx => xx = .bool true
  | 4, xx => xx = .bool true
  | _, _ => True
set_option maxHeartbeats 4000000 in
set_option maxRecDepth 100000 in
theorem many14_in {Q : Exit → Act → World → Prop} {a0 : Act} {wa : World} (b : Nat) (x : Int) (f0 f1 f2 : Nat → Bool) (hs : Bool) (hz : a0.tmps.size = 87) (b5 : a0.eval (.tmp 5) = .pointer (some ⟨b, 0, none⟩)) (b0 : a0.eval (.tmp 0) = .int .i64 x) (b7 : a0.eval (.tmp 7) = .int .i64 ((mem f0 4096).length : Nat)) (b9 : a0.eval (.tmp 9) = .bool true) (b10 : a0.eval (.tmp 10) = .bool hs) (h0 : Tab wa) (hb : SetAt wa b f0) (h1 : f1 = ins f0 x) (h2 : f2 = del f1 x) (hhs : isIn f0 x = hs) (hput : (inS x && !f0 x.toNat) = (!hs)) (hcut : (inS x && f1 x.toNat) = true)
    (hend : ∀ (s : Tmp → Value) (W : World), s 4 = .bool true → wa.drew.grownBy W (some b) → Q .normal (overlay a0 (dstsOf ops_many14_in) s) W) : (Code.region 14 ops_many14_in true).wp Tryd.prog Q a0 wa := by
  refine L.wp_region_eachL (by kernel_rfl) (fun _ t v _ => G_many14_in b x f0 f1 f2 hs t v) (fun l W => S3 f0 f1 f2 b wa.drew l W) (by rw [hz]; kernel_rfl) (S3.start h0 hb) ?_ ?_
  · refine And.intro ?_ (And.intro ?_ (And.intro ?_ (And.intro ?_ (And.intro ?_ (And.intro ?_ (And.intro ?_ (And.intro ?_ (And.intro ?_ (And.intro ?_ (And.intro ?_ (And.intro ?_ (And.intro ?_ (And.intro ?_ (And.intro ?_ (And.intro ?_ (And.intro ?_ (And.intro ?_ (And.intro ?_ (And.intro ?_ (And.intro ?_ (And.intro ?_ (And.intro ?_ (And.intro ?_ (And.intro ?_ (And.intro ?_ (And.intro ?_ (And.intro ?_ (And.intro ?_ (And.intro ?_ (And.intro ?_ (And.intro ?_ (And.intro ?_ (And.intro ?_ (And.intro ?_ (And.intro ?_ (And.intro ?_ (And.intro ?_ (And.intro ?_ (And.intro ?_ (And.intro ?_ (And.intro ?_ (And.intro ?_ (And.intro ?_ (And.intro ?_ (And.intro ?_ (And.intro ?_ (And.intro ?_ trivial)))))))))))))))))))))))))))))))))))))))))))))))
    · refine ask_v rfl rfl (fun l a W H => ?_)
      have e5 : a.eval (.tmp 5) = .pointer (some ⟨b, 0, none⟩) := (H.base 5 rfl).trans b5
      have n13 : l 13 = false := Bool.eq_false_iff.2 fun hs => absurd (H.new.symm.trans (H.closed 1 0 (by rfl) (H.closed 4 1 (by rfl) (H.closed 10 4 (by rfl) (H.closed 11 10 (by rfl) (H.closed 13 11 (by rfl) hs)))))) (by decide)
      have n23 : l 23 = false := Bool.eq_false_iff.2 fun hs => absurd (H.new.symm.trans (H.closed 1 0 (by rfl) (H.closed 4 1 (by rfl) (H.closed 10 4 (by rfl) (H.closed 11 10 (by rfl) (H.closed 20 11 (by rfl) (H.closed 21 20 (by rfl) (H.closed 23 21 (by rfl) hs)))))))) (by decide)
      obtain ⟨cs, t, hc, hC⟩ := H.s.s0 n13 n23
      exact ⟨.agg cs, W, ex_load rfl e5 hc Tryd.underlying27 rfl (by rw [hC.1]; exact info27), ⟨cs, rfl, hC⟩, H.s.skip (by decide) (by decide)⟩
    · refine ask_c rfl Tryd.func21 (by kernel_rfl) (by kernel_rfl) rfl (fun l a W H => ?_)
      have e40 := H.facts 40 rfl
      simp only [List.map_toArray, List.map_cons, List.map_nil, ]
      refine (len_any _ f0 W e40).mono ?_
      rintro e w' ⟨rfl, hg⟩
      exact ⟨_, rfl, fun d h => by cases h; rfl, (H.s.grow hg).skip (by decide) (by decide)⟩
    · refine ask_v rfl rfl (fun l a W H => ⟨_, W, ?_, rfl, H.s.skip (by decide) (by decide)⟩)
      have e7 : a.eval (.tmp 7) = .int .i64 ((mem f0 4096).length : Nat) := (H.base 7 rfl).trans b7
      exact ex_move rfl e7
    · refine ask_v rfl rfl (fun l a W H => ⟨_, W, ?_, rfl, H.s.skip (by decide) (by decide)⟩)
      have e41 : a.eval (.tmp 41) = .int .i64 ((mem f0 4096).length : Nat) := H.facts 41 rfl
      have e42 : a.eval (.tmp 42) = .int .i64 ((mem f0 4096).length : Nat) := H.facts 42 rfl
      exact ex_eqi rfl e41 e42 (by simp)
    · refine ask_v rfl rfl (fun l a W H => ⟨_, W, ?_, rfl, H.s.skip (by decide) (by decide)⟩)
      have e43 : a.eval (.tmp 43) = .bool true := H.facts 43 rfl
      exact ex_move rfl e43
    · refine ask_v ⟨44, rfl, rfl, fun _ h => h⟩ rfl (fun l a W H => ?_)
      have e5 : a.eval (.tmp 5) = .pointer (some ⟨b, 0, none⟩) := (H.base 5 rfl).trans b5
      have n13 : l 13 = false := Bool.eq_false_iff.2 fun hs => absurd (H.new.symm.trans (H.closed 7 5 (by rfl) (H.closed 11 7 (by rfl) (H.closed 13 11 (by rfl) hs)))) (by decide)
      have n23 : l 23 = false := Bool.eq_false_iff.2 fun hs => absurd (H.new.symm.trans (H.closed 7 5 (by rfl) (H.closed 11 7 (by rfl) (H.closed 20 11 (by rfl) (H.closed 21 20 (by rfl) (H.closed 23 21 (by rfl) hs)))))) (by decide)
      obtain ⟨cs, t, hc, hC⟩ := H.s.s0 n13 n23
      exact ⟨.agg cs, W, ex_load rfl e5 hc Tryd.underlying27 rfl (by rw [hC.1]; exact info27), ⟨cs, rfl, hC⟩, H.s.skip (by decide) (by decide)⟩
    · refine ask_v ⟨44, rfl, rfl, fun _ h => h⟩ rfl (fun l a W H => ⟨_, W, ?_, rfl, H.s.skip (by decide) (by decide)⟩)
      have e0 : a.eval (.tmp 0) = .int .i64 x := (H.base 0 rfl).trans b0
      exact ex_move rfl e0
    · refine ask_c ⟨44, rfl, rfl, fun _ h => h⟩ Tryd.func22 (by kernel_rfl) (by kernel_rfl) rfl (fun l a W H => ?_)
      have e45 := H.facts 45 rfl
      have e46 : a.eval (.tmp 46) = .int .i64 x := H.facts 46 rfl
      simp only [List.map_toArray, List.map_cons, List.map_nil, e46]
      refine (has_any _ x f0 W e45).mono ?_
      rintro e w' ⟨rfl, hg⟩
      exact ⟨_, rfl, fun d h => by cases h; show _ = _; rw [hhs], (H.s.grow hg).skip (by decide) (by decide)⟩
    · refine ask_v ⟨44, rfl, rfl, fun _ h => h⟩ rfl (fun l a W H => ⟨_, W, ?_, rfl, H.s.skip (by decide) (by decide)⟩)
      have e10 : a.eval (.tmp 10) = .bool hs := (H.base 10 rfl).trans b10
      exact ex_move rfl e10
    · refine ask_v ⟨44, rfl, rfl, fun _ h => h⟩ rfl (fun l a W H => ⟨_, W, ?_, rfl, H.s.skip (by decide) (by decide)⟩)
      have e47 : a.eval (.tmp 47) = .bool hs := H.facts 47 rfl
      have e48 : a.eval (.tmp 48) = .bool hs := H.facts 48 rfl
      exact ex_eqb rfl e47 e48 (by simp)
    · refine ask_v rfl rfl (fun l a W H => ⟨_, W, ?_, rfl, H.s.skip (by decide) (by decide)⟩)
      have e44 : a.eval (.tmp 44) = .bool true := H.facts 44 rfl
      have e49 : a.eval (.tmp 49) = .bool true := H.facts 49 rfl
      exact ex_pick1 rfl e44 e49
    · refine ask_v rfl rfl (fun l a W H => ⟨_, W, ?_, rfl, H.s.skip (by decide) (by decide)⟩)
      have e50 : a.eval (.tmp 50) = .bool true := H.facts 50 rfl
      exact ex_move rfl e50
    · refine ask_v ⟨51, rfl, rfl, fun _ h => h⟩ rfl (fun l a W H => ⟨_, W, ?_, rfl, H.s.skip (by decide) (by decide)⟩)
      have e0 : a.eval (.tmp 0) = .int .i64 x := (H.base 0 rfl).trans b0
      exact ex_move rfl e0
    · refine ask_c ⟨51, rfl, rfl, fun _ h => h⟩ Tryd.func17 (by kernel_rfl) (by kernel_rfl) rfl (fun l a W H => ?_)
      have e5 : a.eval (.tmp 5) = .pointer (some ⟨b, 0, none⟩) := (H.base 5 rfl).trans b5
      have e52 : a.eval (.tmp 52) = .int .i64 x := H.facts 52 rfl
      have n13 : l 13 = false := H.new
      have n23 : l 23 = false := Bool.eq_false_iff.2 fun hs => absurd (H.new.symm.trans (H.closed 15 13 (by rfl) (H.closed 21 15 (by rfl) (H.closed 23 21 (by rfl) hs)))) (by decide)
      simp only [List.map_toArray, List.map_cons, List.map_nil, e5, e52]
      refine (put_any b x f0 W (H.s.s0 n13 n23)).mono ?_
      rintro e w' ⟨rfl, hS, hg⟩
      exact ⟨_, rfl, fun d h => by cases h; show _ = _; rw [hput], H.s.to1 H.new n23 h1 hS hg⟩
    · refine ask_v ⟨51, rfl, rfl, fun _ h => h⟩ rfl (fun l a W H => ⟨_, W, ?_, rfl, H.s.skip (by decide) (by decide)⟩)
      have e9 : a.eval (.tmp 9) = .bool true := (H.base 9 rfl).trans b9
      exact ex_move rfl e9
    · refine ask_v ⟨51, rfl, rfl, fun _ h => h⟩ rfl (fun l a W H => ⟨_, W, ?_, rfl, H.s.skip (by decide) (by decide)⟩)
      have e54 : a.eval (.tmp 54) = .bool true := H.facts 54 rfl
      exact ex_move rfl e54
    · refine ask_v ⟨55, rfl, rfl, fun _ h => h⟩ rfl (fun l a W H => ⟨_, W, ?_, rfl, H.s.skip (by decide) (by decide)⟩)
      have e10 : a.eval (.tmp 10) = .bool hs := (H.base 10 rfl).trans b10
      exact ex_move rfl e10
    · refine ask_v ⟨55, rfl, rfl, fun _ h => h⟩ rfl (fun l a W H => ⟨_, W, ?_, rfl, H.s.skip (by decide) (by decide)⟩)
      have e56 : a.eval (.tmp 56) = .bool hs := H.facts 56 rfl
      exact ex_not rfl e56 rfl
    · refine ask_v ⟨51, rfl, rfl, fun _ h => h⟩ rfl (fun l a W H => ⟨_, W, ?_, rfl, H.s.skip (by decide) (by decide)⟩)
      have e55 : a.eval (.tmp 55) = .bool true := H.facts 55 rfl
      have e57 : a.eval (.tmp 57) = .bool (!hs) := H.facts 57 rfl
      exact ex_pick1 rfl e55 e57
    · refine ask_v ⟨51, rfl, rfl, fun _ h => h⟩ rfl (fun l a W H => ⟨_, W, ?_, rfl, H.s.skip (by decide) (by decide)⟩)
      have e53 : a.eval (.tmp 53) = .bool (!hs) := H.facts 53 rfl
      have e58 : a.eval (.tmp 58) = .bool (!hs) := H.facts 58 rfl
      exact ex_eqb rfl e53 e58 (by simp)
    · refine ask_v rfl rfl (fun l a W H => ⟨_, W, ?_, rfl, H.s.skip (by decide) (by decide)⟩)
      have e51 : a.eval (.tmp 51) = .bool true := H.facts 51 rfl
      have e59 : a.eval (.tmp 59) = .bool true := H.facts 59 rfl
      exact ex_pick1 rfl e51 e59
    · refine ask_v rfl rfl (fun l a W H => ⟨_, W, ?_, rfl, H.s.skip (by decide) (by decide)⟩)
      have e60 : a.eval (.tmp 60) = .bool true := H.facts 60 rfl
      exact ex_move rfl e60
    · refine ask_v ⟨61, rfl, rfl, fun _ h => h⟩ rfl (fun l a W H => ⟨_, W, ?_, rfl, H.s.skip (by decide) (by decide)⟩)
      have e0 : a.eval (.tmp 0) = .int .i64 x := (H.base 0 rfl).trans b0
      exact ex_move rfl e0
    · refine ask_c ⟨61, rfl, rfl, fun _ h => h⟩ Tryd.func12 (by kernel_rfl) (by kernel_rfl) rfl (fun l a W H => ?_)
      have e5 : a.eval (.tmp 5) = .pointer (some ⟨b, 0, none⟩) := (H.base 5 rfl).trans b5
      have e62 : a.eval (.tmp 62) = .int .i64 x := H.facts 62 rfl
      have y13 : l 13 = true := (H.closed 15 13 (by rfl) (H.closed 21 15 (by rfl) (H.deps ⟨21, .chain⟩ (by simp) rfl)))
      have n23 : l 23 = false := H.new
      simp only [List.map_toArray, List.map_cons, List.map_nil, e5, e62]
      refine (cut_any b x f1 W (H.s.s1 y13 n23)).mono ?_
      rintro e w' ⟨rfl, hS, hg⟩
      exact ⟨_, rfl, fun d h => by cases h; show _ = _; rw [hcut], H.s.to2 h2 hS hg⟩
    · refine ask_v ⟨61, rfl, rfl, fun _ h => h⟩ rfl (fun l a W H => ⟨_, W, ?_, rfl, H.s.skip (by decide) (by decide)⟩)
      have e9 : a.eval (.tmp 9) = .bool true := (H.base 9 rfl).trans b9
      exact ex_move rfl e9
    · refine ask_v ⟨61, rfl, rfl, fun _ h => h⟩ rfl (fun l a W H => ⟨_, W, ?_, rfl, H.s.skip (by decide) (by decide)⟩)
      have e63 : a.eval (.tmp 63) = .bool true := H.facts 63 rfl
      have e64 : a.eval (.tmp 64) = .bool true := H.facts 64 rfl
      exact ex_eqb rfl e63 e64 (by simp)
    · refine ask_v rfl rfl (fun l a W H => ⟨_, W, ?_, rfl, H.s.skip (by decide) (by decide)⟩)
      have e61 : a.eval (.tmp 61) = .bool true := H.facts 61 rfl
      have e65 : a.eval (.tmp 65) = .bool true := H.facts 65 rfl
      exact ex_pick1 rfl e61 e65
    · refine ask_v rfl rfl (fun l a W H => ⟨_, W, ?_, rfl, H.s.skip (by decide) (by decide)⟩)
      have e66 : a.eval (.tmp 66) = .bool true := H.facts 66 rfl
      exact ex_move rfl e66
    · refine ask_c ⟨67, rfl, rfl, fun _ h => h⟩ Tryd.func17 (by kernel_rfl) (by kernel_rfl) rfl (fun l a W H => ?_)
      have e5 : a.eval (.tmp 5) = .pointer (some ⟨b, 0, none⟩) := (H.base 5 rfl).trans b5
      have y23 : l 23 = true := (H.closed 27 23 (by rfl) (H.deps ⟨27, .chain⟩ (by simp) rfl))
      simp only [List.map_toArray, List.map_cons, List.map_nil, e5]
      refine (put_any b (-1) f2 W (H.s.s2 y23)).mono ?_
      rintro e w' ⟨rfl, hS, hg⟩
      exact ⟨_, rfl, fun d h => by cases h; show _ = _; rw [inS_no (by omega)]; rfl, (H.s.same2 y23 (hS.congr fun y _ => by simp [ins, inS_no (show ((-1) : Int) < 0 ∨ 4096 ≤ ((-1) : Int) by omega)]) hg).skip (by decide) (by decide)⟩
    · refine ask_v ⟨67, rfl, rfl, fun _ h => h⟩ rfl (fun l a W H => ⟨_, W, ?_, rfl, H.s.skip (by decide) (by decide)⟩)
      have e68 : a.eval (.tmp 68) = .bool false := H.facts 68 rfl
      exact ex_not rfl e68 rfl
    · refine ask_v rfl rfl (fun l a W H => ⟨_, W, ?_, rfl, H.s.skip (by decide) (by decide)⟩)
      have e67 : a.eval (.tmp 67) = .bool true := H.facts 67 rfl
      have e69 : a.eval (.tmp 69) = .bool true := H.facts 69 rfl
      exact ex_pick1 rfl e67 e69
    · refine ask_v rfl rfl (fun l a W H => ⟨_, W, ?_, rfl, H.s.skip (by decide) (by decide)⟩)
      have e70 : a.eval (.tmp 70) = .bool true := H.facts 70 rfl
      exact ex_move rfl e70
    · refine ask_c ⟨71, rfl, rfl, fun _ h => h⟩ Tryd.func17 (by kernel_rfl) (by kernel_rfl) rfl (fun l a W H => ?_)
      have e5 : a.eval (.tmp 5) = .pointer (some ⟨b, 0, none⟩) := (H.base 5 rfl).trans b5
      have y23 : l 23 = true := (H.closed 27 23 (by rfl) (H.closed 30 27 (by rfl) (H.closed 31 30 (by rfl) (H.deps ⟨31, .chain⟩ (by simp) rfl))))
      simp only [List.map_toArray, List.map_cons, List.map_nil, e5]
      refine (put_any b 4096 f2 W (H.s.s2 y23)).mono ?_
      rintro e w' ⟨rfl, hS, hg⟩
      exact ⟨_, rfl, fun d h => by cases h; show _ = _; rw [inS_no (by omega)]; rfl, (H.s.same2 y23 (hS.congr fun y _ => by simp [ins, inS_no (show (4096 : Int) < 0 ∨ 4096 ≤ (4096 : Int) by omega)]) hg).skip (by decide) (by decide)⟩
    · refine ask_v ⟨71, rfl, rfl, fun _ h => h⟩ rfl (fun l a W H => ⟨_, W, ?_, rfl, H.s.skip (by decide) (by decide)⟩)
      have e72 : a.eval (.tmp 72) = .bool false := H.facts 72 rfl
      exact ex_not rfl e72 rfl
    · refine ask_v rfl rfl (fun l a W H => ⟨_, W, ?_, rfl, H.s.skip (by decide) (by decide)⟩)
      have e71 : a.eval (.tmp 71) = .bool true := H.facts 71 rfl
      have e73 : a.eval (.tmp 73) = .bool true := H.facts 73 rfl
      exact ex_pick1 rfl e71 e73
    · refine ask_v rfl rfl (fun l a W H => ⟨_, W, ?_, rfl, H.s.skip (by decide) (by decide)⟩)
      have e74 : a.eval (.tmp 74) = .bool true := H.facts 74 rfl
      exact ex_move rfl e74
    · refine ask_c ⟨75, rfl, rfl, fun _ h => h⟩ Tryd.func12 (by kernel_rfl) (by kernel_rfl) rfl (fun l a W H => ?_)
      have e5 : a.eval (.tmp 5) = .pointer (some ⟨b, 0, none⟩) := (H.base 5 rfl).trans b5
      have y23 : l 23 = true := (H.closed 27 23 (by rfl) (H.closed 30 27 (by rfl) (H.closed 31 30 (by rfl) (H.closed 34 31 (by rfl) (H.closed 35 34 (by rfl) (H.deps ⟨35, .chain⟩ (by simp) rfl))))))
      simp only [List.map_toArray, List.map_cons, List.map_nil, e5]
      refine (cut_any b 4096 f2 W (H.s.s2 y23)).mono ?_
      rintro e w' ⟨rfl, hS, hg⟩
      exact ⟨_, rfl, fun d h => by cases h; show _ = _; rw [inS_no (by omega)]; rfl, (H.s.same2 y23 (hS.congr fun y _ => by simp [del, inS_no (show (4096 : Int) < 0 ∨ 4096 ≤ (4096 : Int) by omega)]) hg).skip (by decide) (by decide)⟩
    · refine ask_v ⟨75, rfl, rfl, fun _ h => h⟩ rfl (fun l a W H => ⟨_, W, ?_, rfl, H.s.skip (by decide) (by decide)⟩)
      have e76 : a.eval (.tmp 76) = .bool false := H.facts 76 rfl
      exact ex_not rfl e76 rfl
    · refine ask_v rfl rfl (fun l a W H => ⟨_, W, ?_, rfl, H.s.skip (by decide) (by decide)⟩)
      have e75 : a.eval (.tmp 75) = .bool true := H.facts 75 rfl
      have e77 : a.eval (.tmp 77) = .bool true := H.facts 77 rfl
      exact ex_pick1 rfl e75 e77
    · refine ask_v rfl rfl (fun l a W H => ⟨_, W, ?_, rfl, H.s.skip (by decide) (by decide)⟩)
      have e78 : a.eval (.tmp 78) = .bool true := H.facts 78 rfl
      exact ex_move rfl e78
    · refine ask_v ⟨79, rfl, rfl, fun _ h => h⟩ rfl (fun l a W H => ?_)
      have e5 : a.eval (.tmp 5) = .pointer (some ⟨b, 0, none⟩) := (H.base 5 rfl).trans b5
      have y23 : l 23 = true := (H.closed 27 23 (by rfl) (H.closed 30 27 (by rfl) (H.closed 31 30 (by rfl) (H.closed 34 31 (by rfl) (H.closed 35 34 (by rfl) (H.closed 38 35 (by rfl) (H.closed 39 38 (by rfl) (H.deps ⟨39, .guard⟩ (by simp) rfl))))))))
      obtain ⟨cs, t, hc, hC⟩ := H.s.s2 y23
      exact ⟨.agg cs, W, ex_load rfl e5 hc Tryd.underlying27 rfl (by rw [hC.1]; exact info27), ⟨cs, rfl, hC⟩, H.s.skip (by decide) (by decide)⟩
    · refine ask_c ⟨79, rfl, rfl, fun _ h => h⟩ Tryd.func20 (by kernel_rfl) (by kernel_rfl) rfl (fun l a W H => ?_)
      have e80 := H.facts 80 rfl
      simp only [List.map_toArray, List.map_cons, List.map_nil, ]
      refine (all_any _ f2 W e80 H.s.tab).mono ?_
      rintro e w' ⟨u, rfl, hu, hg⟩
      obtain ⟨ao, cap, rfl⟩ := hu.v.slice
      exact ⟨_, rfl, fun d h => by cases h; exact ⟨ao, cap, by rw [ci_len]⟩, (H.s.grow hg).skip (by decide) (by decide)⟩
    · refine ask_v ⟨79, rfl, rfl, fun _ h => h⟩ rfl (fun l a W H => ⟨_, W, ?_, rfl, H.s.skip (by decide) (by decide)⟩)
      have e81 := H.facts 81 rfl
      obtain ⟨ao, cap, e81⟩ := e81
      have ea : (#[.tmp 81] : Array Operand).map a.eval = #[.slice ao (mem f2 4096).length cap] := by simp [e81]
      exact ex_len rfl ea
    · refine ask_v ⟨79, rfl, rfl, fun _ h => h⟩ rfl (fun l a W H => ?_)
      have e5 : a.eval (.tmp 5) = .pointer (some ⟨b, 0, none⟩) := (H.base 5 rfl).trans b5
      have y23 : l 23 = true := (H.closed 27 23 (by rfl) (H.closed 30 27 (by rfl) (H.closed 31 30 (by rfl) (H.closed 34 31 (by rfl) (H.closed 35 34 (by rfl) (H.closed 38 35 (by rfl) (H.closed 39 38 (by rfl) (H.deps ⟨39, .guard⟩ (by simp) rfl))))))))
      obtain ⟨cs, t, hc, hC⟩ := H.s.s2 y23
      exact ⟨.agg cs, W, ex_load rfl e5 hc Tryd.underlying27 rfl (by rw [hC.1]; exact info27), ⟨cs, rfl, hC⟩, H.s.skip (by decide) (by decide)⟩
    · refine ask_c ⟨79, rfl, rfl, fun _ h => h⟩ Tryd.func21 (by kernel_rfl) (by kernel_rfl) rfl (fun l a W H => ?_)
      have e83 := H.facts 83 rfl
      simp only [List.map_toArray, List.map_cons, List.map_nil, ]
      refine (len_any _ f2 W e83).mono ?_
      rintro e w' ⟨rfl, hg⟩
      exact ⟨_, rfl, fun d h => by cases h; rfl, (H.s.grow hg).skip (by decide) (by decide)⟩
    · refine ask_v ⟨79, rfl, rfl, fun _ h => h⟩ rfl (fun l a W H => ⟨_, W, ?_, rfl, H.s.skip (by decide) (by decide)⟩)
      have e82 : a.eval (.tmp 82) = .int .i64 ((mem f2 4096).length : Nat) := H.facts 82 rfl
      have e84 : a.eval (.tmp 84) = .int .i64 ((mem f2 4096).length : Nat) := H.facts 84 rfl
      exact ex_eqi rfl e82 e84 (by simp)
    · refine ask_v rfl rfl (fun l a W H => ⟨_, W, ?_, rfl, H.s.skip (by decide) (by decide)⟩)
      have e79 : a.eval (.tmp 79) = .bool true := H.facts 79 rfl
      have e85 : a.eval (.tmp 85) = .bool true := H.facts 85 rfl
      exact ex_pick1 rfl e79 e85
    · refine ask_v rfl rfl (fun l a W H => ⟨_, W, ?_, rfl, H.s.skip (by decide) (by decide)⟩)
      have e86 : a.eval (.tmp 86) = .bool true := H.facts 86 rfl
      exact ex_assign rfl e86
  · intro l s W hall hS hs
    exact hend s W (hs 4 rfl) hS.gb
def ops_many14_out : Array Oper := #[⟨some 40, .load 27 (.tmp 5), 27, "law.go:278", #[], none⟩, ⟨some 41, .call { callee := Callee.value (Operand.func 21), args := #[.tmp 40], argTypes := #[27] }, 3, "law.go:278", #[⟨0, .data⟩], none⟩, ⟨some 42, .move (.tmp 7), 3, "law.go:278", #[], none⟩, ⟨some 43, .binOp .eql 3 (.tmp 41) (.tmp 42) 3, 4, "law.go:278", #[⟨1, .data⟩, ⟨2, .data⟩], none⟩, ⟨some 44, .move (.tmp 43), 4, "law.go:278", #[⟨3, .data⟩, ⟨1, .chain⟩], none⟩, ⟨some 45, .load 27 (.tmp 5), 27, "law.go:278", #[⟨4, .guard⟩], some (4, true)⟩, ⟨some 46, .move (.tmp 0), 3, "law.go:278", #[⟨4, .guard⟩], some (4, true)⟩, ⟨some 47, .call { callee := Callee.value (Operand.func 22), args := #[.tmp 45, .tmp 46], argTypes := #[27, 3] }, 4, "law.go:278", #[⟨5, .data⟩, ⟨6, .data⟩, ⟨4, .chain⟩, ⟨4, .guard⟩], some (4, true)⟩, ⟨some 48, .move (.tmp 10), 4, "law.go:278", #[⟨4, .guard⟩], some (4, true)⟩, ⟨some 49, .binOp .eql 4 (.tmp 47) (.tmp 48) 4, 4, "law.go:278", #[⟨7, .data⟩, ⟨8, .data⟩, ⟨4, .guard⟩], some (4, true)⟩, ⟨some 50, .pick (.tmp 44) (.tmp 49) (.const (.bool false)), 4, "law.go:278", #[⟨4, .data⟩, ⟨9, .data⟩], none⟩, ⟨some 51, .move (.tmp 50), 4, "law.go:278", #[⟨10, .data⟩, ⟨7, .chain⟩], none⟩, ⟨some 52, .move (.tmp 0), 3, "law.go:278", #[⟨11, .guard⟩], some (11, true)⟩, ⟨some 53, .call { callee := Callee.value (Operand.func 17), args := #[.tmp 5, .tmp 52], argTypes := #[27, 3] }, 4, "law.go:278", #[⟨12, .data⟩, ⟨11, .chain⟩, ⟨11, .guard⟩], some (11, true)⟩, ⟨some 54, .move (.tmp 9), 4, "law.go:278", #[⟨11, .guard⟩], some (11, true)⟩, ⟨some 55, .move (.tmp 54), 4, "law.go:278", #[⟨14, .data⟩, ⟨13, .chain⟩, ⟨11, .guard⟩], some (11, true)⟩, ⟨some 56, .move (.tmp 10), 4, "law.go:278", #[⟨15, .guard⟩], some (15, true)⟩, ⟨some 57, .unOp .not 4 (.tmp 56), 4, "law.go:278", #[⟨16, .data⟩, ⟨15, .guard⟩], some (15, true)⟩, ⟨some 58, .pick (.tmp 55) (.tmp 57) (.const (.bool false)), 4, "law.go:278", #[⟨15, .data⟩, ⟨17, .data⟩, ⟨11, .guard⟩], some (11, true)⟩, ⟨some 59, .binOp .eql 4 (.tmp 53) (.tmp 58) 4, 4, "law.go:278", #[⟨13, .data⟩, ⟨18, .data⟩, ⟨11, .guard⟩], some (11, true)⟩, ⟨some 60, .pick (.tmp 51) (.tmp 59) (.const (.bool false)), 4, "law.go:278", #[⟨11, .data⟩, ⟨19, .data⟩], none⟩, ⟨some 61, .move (.tmp 60), 4, "law.go:278", #[⟨20, .data⟩, ⟨15, .chain⟩], none⟩, ⟨some 62, .move (.tmp 0), 3, "law.go:278", #[⟨21, .guard⟩], some (21, true)⟩, ⟨some 63, .call { callee := Callee.value (Operand.func 12), args := #[.tmp 5, .tmp 62], argTypes := #[27, 3] }, 4, "law.go:278", #[⟨22, .data⟩, ⟨21, .chain⟩, ⟨21, .guard⟩], some (21, true)⟩, ⟨some 64, .move (.tmp 9), 4, "law.go:278", #[⟨21, .guard⟩], some (21, true)⟩, ⟨some 65, .binOp .eql 4 (.tmp 63) (.tmp 64) 4, 4, "law.go:278", #[⟨23, .data⟩, ⟨24, .data⟩, ⟨21, .guard⟩], some (21, true)⟩, ⟨some 66, .pick (.tmp 61) (.tmp 65) (.const (.bool false)), 4, "law.go:278", #[⟨21, .data⟩, ⟨25, .data⟩], none⟩, ⟨some 67, .move (.tmp 66), 4, "law.go:278", #[⟨26, .data⟩, ⟨23, .chain⟩], none⟩, ⟨some 68, .call { callee := Callee.value (Operand.func 17), args := #[.tmp 5, .const (.int .i64 (-1))], argTypes := #[27, 3] }, 4, "law.go:278", #[⟨27, .chain⟩, ⟨27, .guard⟩], some (27, true)⟩, ⟨some 69, .unOp .not 4 (.tmp 68), 4, "law.go:278", #[⟨28, .data⟩, ⟨27, .guard⟩], some (27, true)⟩, ⟨some 70, .pick (.tmp 67) (.tmp 69) (.const (.bool false)), 4, "law.go:278", #[⟨27, .data⟩, ⟨29, .data⟩], none⟩, ⟨some 71, .move (.tmp 70), 4, "law.go:278", #[⟨30, .data⟩, ⟨28, .chain⟩], none⟩, ⟨some 72, .call { callee := Callee.value (Operand.func 17), args := #[.tmp 5, .const (.int .i64 4096)], argTypes := #[27, 3] }, 4, "law.go:278", #[⟨31, .chain⟩, ⟨31, .guard⟩], some (31, true)⟩, ⟨some 73, .unOp .not 4 (.tmp 72), 4, "law.go:278", #[⟨32, .data⟩, ⟨31, .guard⟩], some (31, true)⟩, ⟨some 74, .pick (.tmp 71) (.tmp 73) (.const (.bool false)), 4, "law.go:278", #[⟨31, .data⟩, ⟨33, .data⟩], none⟩, ⟨some 75, .move (.tmp 74), 4, "law.go:278", #[⟨34, .data⟩, ⟨32, .chain⟩], none⟩, ⟨some 76, .call { callee := Callee.value (Operand.func 12), args := #[.tmp 5, .const (.int .i64 4096)], argTypes := #[27, 3] }, 4, "law.go:278", #[⟨35, .chain⟩, ⟨35, .guard⟩], some (35, true)⟩, ⟨some 77, .unOp .not 4 (.tmp 76), 4, "law.go:278", #[⟨36, .data⟩, ⟨35, .guard⟩], some (35, true)⟩, ⟨some 78, .pick (.tmp 75) (.tmp 77) (.const (.bool false)), 4, "law.go:278", #[⟨35, .data⟩, ⟨37, .data⟩], none⟩, ⟨some 79, .move (.tmp 78), 4, "law.go:278", #[⟨38, .data⟩, ⟨36, .chain⟩], none⟩, ⟨some 80, .load 27 (.tmp 5), 27, "law.go:278", #[⟨39, .guard⟩], some (39, true)⟩, ⟨some 81, .call { callee := Callee.value (Operand.func 20), args := #[.tmp 80], argTypes := #[27] }, 31, "law.go:278", #[⟨40, .data⟩, ⟨39, .chain⟩, ⟨39, .guard⟩], some (39, true)⟩, ⟨some 82, .call { callee := Callee.builtin Builtin.len, args := #[.tmp 81], argTypes := #[31] }, 3, "law.go:278", #[⟨41, .data⟩, ⟨39, .guard⟩], some (39, true)⟩, ⟨some 83, .load 27 (.tmp 5), 27, "law.go:278", #[⟨39, .guard⟩], some (39, true)⟩, ⟨some 84, .call { callee := Callee.value (Operand.func 21), args := #[.tmp 83], argTypes := #[27] }, 3, "law.go:278", #[⟨43, .data⟩, ⟨41, .chain⟩, ⟨39, .guard⟩], some (39, true)⟩, ⟨some 85, .binOp .eql 3 (.tmp 82) (.tmp 84) 3, 4, "law.go:278", #[⟨42, .data⟩, ⟨44, .data⟩, ⟨39, .guard⟩], some (39, true)⟩, ⟨some 86, .pick (.tmp 79) (.tmp 85) (.const (.bool false)), 4, "law.go:278", #[⟨39, .data⟩, ⟨45, .data⟩], none⟩, ⟨some 4, .assign (.tmp 86), 4, "law.go:278", #[⟨46, .data⟩, ⟨44, .chain⟩, ⟨0, .phase⟩, ⟨1, .phase⟩, ⟨2, .phase⟩, ⟨3, .phase⟩, ⟨4, .phase⟩, ⟨5, .phase⟩, ⟨6, .phase⟩, ⟨7, .phase⟩, ⟨8, .phase⟩, ⟨9, .phase⟩, ⟨10, .phase⟩, ⟨11, .phase⟩, ⟨12, .phase⟩, ⟨13, .phase⟩, ⟨14, .phase⟩, ⟨15, .phase⟩, ⟨16, .phase⟩, ⟨17, .phase⟩, ⟨18, .phase⟩, ⟨19, .phase⟩, ⟨20, .phase⟩, ⟨21, .phase⟩, ⟨22, .phase⟩, ⟨23, .phase⟩, ⟨24, .phase⟩, ⟨25, .phase⟩, ⟨26, .phase⟩, ⟨27, .phase⟩, ⟨28, .phase⟩, ⟨29, .phase⟩, ⟨30, .phase⟩, ⟨31, .phase⟩, ⟨32, .phase⟩, ⟨33, .phase⟩, ⟨34, .phase⟩, ⟨35, .phase⟩, ⟨36, .phase⟩, ⟨37, .phase⟩, ⟨38, .phase⟩, ⟨39, .phase⟩, ⟨40, .phase⟩, ⟨41, .phase⟩, ⟨42, .phase⟩, ⟨43, .phase⟩, ⟨44, .phase⟩, ⟨45, .phase⟩, ⟨46, .phase⟩], none⟩]
def G_many14_out (b : Nat) (x : Int) (f0 f1 f2 : Nat → Bool) : Tmp → Value → Prop
  | 40, xx => SetV xx f0
  | 41, xx => xx = .int .i64 ((mem f0 4096).length : Nat)
  | 42, xx => xx = .int .i64 ((mem f0 4096).length : Nat)
  | 43, xx => xx = .bool true
  | 44, xx => xx = .bool true
  | 45, xx => SetV xx f0
  | 46, xx => xx = .int .i64 x
  | 47, xx => xx = .bool false
  | 48, xx => xx = .bool false
  | 49, xx => xx = .bool true
  | 50, xx => xx = .bool true
  | 51, xx => xx = .bool true
  | 52, xx => xx = .int .i64 x
  | 53, xx => xx = .bool false
  | 54, xx => xx = .bool false
  | 55, xx => xx = .bool false
  | 56, xx => xx = undef
  | 57, xx => xx = undef
  | 58, xx => xx = .bool false
  | 59, xx => xx = .bool true
  | 60, xx => xx = .bool true
  | 61, xx => xx = .bool true
  | 62, xx => xx = .int .i64 x
  | 63, xx => xx = .bool false
  | 64, xx => xx = .bool false
  | 65, xx => xx = .bool true
  | 66, xx => xx = .bool true
  | 67, xx => xx = .bool true
  | 68, xx => xx = .bool false
  | 69, xx => xx = .bool true
  | 70, xx => xx = .bool true
  | 71, xx => xx = .bool true
  | 72, xx => xx = .bool false
  | 73, xx => xx = .bool true
  | 74, xx => xx = .bool true
  | 75, xx => xx = .bool true
  | 76, xx => xx = .bool false
  | 77, xx => xx = .bool true
  | 78, xx => xx = .bool true
  | 79, xx => xx = .bool true
  | 80, xx => SetV xx f2
  | 81, xx => ∃ ao cap, xx = .slice ao (mem f2 4096).length cap
  | 82, xx => xx = .int .i64 ((mem f2 4096).length : Nat)
  | 83, xx => SetV xx f2
  | 84, xx => xx = .int .i64 ((mem f2 4096).length : Nat)
  | 85, xx => xx = .bool true
  | 86, xx => xx = .bool true
  | 4, xx => xx = .bool true
  | _, _ => True
set_option maxHeartbeats 4000000 in
set_option maxRecDepth 100000 in
theorem many14_out {Q : Exit → Act → World → Prop} {a0 : Act} {wa : World} (b : Nat) (x : Int) (f0 f1 f2 : Nat → Bool) (hz : a0.tmps.size = 87) (b5 : a0.eval (.tmp 5) = .pointer (some ⟨b, 0, none⟩)) (b0 : a0.eval (.tmp 0) = .int .i64 x) (b7 : a0.eval (.tmp 7) = .int .i64 ((mem f0 4096).length : Nat)) (b9 : a0.eval (.tmp 9) = .bool false) (b10 : a0.eval (.tmp 10) = .bool false) (h0 : Tab wa) (hb : SetAt wa b f0) (h1 : f1 = ins f0 x) (h2 : f2 = del f1 x) (hhs : isIn f0 x = false) (hput : (inS x && !f0 x.toNat) = false) (hcut : (inS x && f1 x.toNat) = false)
    (hend : ∀ (s : Tmp → Value) (W : World), s 4 = .bool true → wa.drew.grownBy W (some b) → Q .normal (overlay a0 (dstsOf ops_many14_out) s) W) : (Code.region 14 ops_many14_out true).wp Tryd.prog Q a0 wa := by
  refine L.wp_region_eachL (by kernel_rfl) (fun _ t v _ => G_many14_out b x f0 f1 f2 t v) (fun l W => S3 f0 f1 f2 b wa.drew l W) (by rw [hz]; kernel_rfl) (S3.start h0 hb) ?_ ?_
  · refine And.intro ?_ (And.intro ?_ (And.intro ?_ (And.intro ?_ (And.intro ?_ (And.intro ?_ (And.intro ?_ (And.intro ?_ (And.intro ?_ (And.intro ?_ (And.intro ?_ (And.intro ?_ (And.intro ?_ (And.intro ?_ (And.intro ?_ (And.intro ?_ (And.intro ?_ (And.intro ?_ (And.intro ?_ (And.intro ?_ (And.intro ?_ (And.intro ?_ (And.intro ?_ (And.intro ?_ (And.intro ?_ (And.intro ?_ (And.intro ?_ (And.intro ?_ (And.intro ?_ (And.intro ?_ (And.intro ?_ (And.intro ?_ (And.intro ?_ (And.intro ?_ (And.intro ?_ (And.intro ?_ (And.intro ?_ (And.intro ?_ (And.intro ?_ (And.intro ?_ (And.intro ?_ (And.intro ?_ (And.intro ?_ (And.intro ?_ (And.intro ?_ (And.intro ?_ (And.intro ?_ (And.intro ?_ trivial)))))))))))))))))))))))))))))))))))))))))))))))
    · refine ask_v rfl rfl (fun l a W H => ?_)
      have e5 : a.eval (.tmp 5) = .pointer (some ⟨b, 0, none⟩) := (H.base 5 rfl).trans b5
      have n13 : l 13 = false := Bool.eq_false_iff.2 fun hs => absurd (H.new.symm.trans (H.closed 1 0 (by rfl) (H.closed 4 1 (by rfl) (H.closed 10 4 (by rfl) (H.closed 11 10 (by rfl) (H.closed 13 11 (by rfl) hs)))))) (by decide)
      have n23 : l 23 = false := Bool.eq_false_iff.2 fun hs => absurd (H.new.symm.trans (H.closed 1 0 (by rfl) (H.closed 4 1 (by rfl) (H.closed 10 4 (by rfl) (H.closed 11 10 (by rfl) (H.closed 20 11 (by rfl) (H.closed 21 20 (by rfl) (H.closed 23 21 (by rfl) hs)))))))) (by decide)
      obtain ⟨cs, t, hc, hC⟩ := H.s.s0 n13 n23
      exact ⟨.agg cs, W, ex_load rfl e5 hc Tryd.underlying27 rfl (by rw [hC.1]; exact info27), ⟨cs, rfl, hC⟩, H.s.skip (by decide) (by decide)⟩
    · refine ask_c rfl Tryd.func21 (by kernel_rfl) (by kernel_rfl) rfl (fun l a W H => ?_)
      have e40 := H.facts 40 rfl
      simp only [List.map_toArray, List.map_cons, List.map_nil, ]
      refine (len_any _ f0 W e40).mono ?_
      rintro e w' ⟨rfl, hg⟩
      exact ⟨_, rfl, fun d h => by cases h; rfl, (H.s.grow hg).skip (by decide) (by decide)⟩
    · refine ask_v rfl rfl (fun l a W H => ⟨_, W, ?_, rfl, H.s.skip (by decide) (by decide)⟩)
      have e7 : a.eval (.tmp 7) = .int .i64 ((mem f0 4096).length : Nat) := (H.base 7 rfl).trans b7
      exact ex_move rfl e7
    · refine ask_v rfl rfl (fun l a W H => ⟨_, W, ?_, rfl, H.s.skip (by decide) (by decide)⟩)
      have e41 : a.eval (.tmp 41) = .int .i64 ((mem f0 4096).length : Nat) := H.facts 41 rfl
      have e42 : a.eval (.tmp 42) = .int .i64 ((mem f0 4096).length : Nat) := H.facts 42 rfl
      exact ex_eqi rfl e41 e42 (by simp)
    · refine ask_v rfl rfl (fun l a W H => ⟨_, W, ?_, rfl, H.s.skip (by decide) (by decide)⟩)
      have e43 : a.eval (.tmp 43) = .bool true := H.facts 43 rfl
      exact ex_move rfl e43
    · refine ask_v ⟨44, rfl, rfl, fun _ h => h⟩ rfl (fun l a W H => ?_)
      have e5 : a.eval (.tmp 5) = .pointer (some ⟨b, 0, none⟩) := (H.base 5 rfl).trans b5
      have n13 : l 13 = false := Bool.eq_false_iff.2 fun hs => absurd (H.new.symm.trans (H.closed 7 5 (by rfl) (H.closed 11 7 (by rfl) (H.closed 13 11 (by rfl) hs)))) (by decide)
      have n23 : l 23 = false := Bool.eq_false_iff.2 fun hs => absurd (H.new.symm.trans (H.closed 7 5 (by rfl) (H.closed 11 7 (by rfl) (H.closed 20 11 (by rfl) (H.closed 21 20 (by rfl) (H.closed 23 21 (by rfl) hs)))))) (by decide)
      obtain ⟨cs, t, hc, hC⟩ := H.s.s0 n13 n23
      exact ⟨.agg cs, W, ex_load rfl e5 hc Tryd.underlying27 rfl (by rw [hC.1]; exact info27), ⟨cs, rfl, hC⟩, H.s.skip (by decide) (by decide)⟩
    · refine ask_v ⟨44, rfl, rfl, fun _ h => h⟩ rfl (fun l a W H => ⟨_, W, ?_, rfl, H.s.skip (by decide) (by decide)⟩)
      have e0 : a.eval (.tmp 0) = .int .i64 x := (H.base 0 rfl).trans b0
      exact ex_move rfl e0
    · refine ask_c ⟨44, rfl, rfl, fun _ h => h⟩ Tryd.func22 (by kernel_rfl) (by kernel_rfl) rfl (fun l a W H => ?_)
      have e45 := H.facts 45 rfl
      have e46 : a.eval (.tmp 46) = .int .i64 x := H.facts 46 rfl
      simp only [List.map_toArray, List.map_cons, List.map_nil, e46]
      refine (has_any _ x f0 W e45).mono ?_
      rintro e w' ⟨rfl, hg⟩
      exact ⟨_, rfl, fun d h => by cases h; show _ = _; rw [hhs], (H.s.grow hg).skip (by decide) (by decide)⟩
    · refine ask_v ⟨44, rfl, rfl, fun _ h => h⟩ rfl (fun l a W H => ⟨_, W, ?_, rfl, H.s.skip (by decide) (by decide)⟩)
      have e10 : a.eval (.tmp 10) = .bool false := (H.base 10 rfl).trans b10
      exact ex_move rfl e10
    · refine ask_v ⟨44, rfl, rfl, fun _ h => h⟩ rfl (fun l a W H => ⟨_, W, ?_, rfl, H.s.skip (by decide) (by decide)⟩)
      have e47 : a.eval (.tmp 47) = .bool false := H.facts 47 rfl
      have e48 : a.eval (.tmp 48) = .bool false := H.facts 48 rfl
      exact ex_eqb rfl e47 e48 (by simp)
    · refine ask_v rfl rfl (fun l a W H => ⟨_, W, ?_, rfl, H.s.skip (by decide) (by decide)⟩)
      have e44 : a.eval (.tmp 44) = .bool true := H.facts 44 rfl
      have e49 : a.eval (.tmp 49) = .bool true := H.facts 49 rfl
      exact ex_pick1 rfl e44 e49
    · refine ask_v rfl rfl (fun l a W H => ⟨_, W, ?_, rfl, H.s.skip (by decide) (by decide)⟩)
      have e50 : a.eval (.tmp 50) = .bool true := H.facts 50 rfl
      exact ex_move rfl e50
    · refine ask_v ⟨51, rfl, rfl, fun _ h => h⟩ rfl (fun l a W H => ⟨_, W, ?_, rfl, H.s.skip (by decide) (by decide)⟩)
      have e0 : a.eval (.tmp 0) = .int .i64 x := (H.base 0 rfl).trans b0
      exact ex_move rfl e0
    · refine ask_c ⟨51, rfl, rfl, fun _ h => h⟩ Tryd.func17 (by kernel_rfl) (by kernel_rfl) rfl (fun l a W H => ?_)
      have e5 : a.eval (.tmp 5) = .pointer (some ⟨b, 0, none⟩) := (H.base 5 rfl).trans b5
      have e52 : a.eval (.tmp 52) = .int .i64 x := H.facts 52 rfl
      have n13 : l 13 = false := H.new
      have n23 : l 23 = false := Bool.eq_false_iff.2 fun hs => absurd (H.new.symm.trans (H.closed 15 13 (by rfl) (H.closed 21 15 (by rfl) (H.closed 23 21 (by rfl) hs)))) (by decide)
      simp only [List.map_toArray, List.map_cons, List.map_nil, e5, e52]
      refine (put_any b x f0 W (H.s.s0 n13 n23)).mono ?_
      rintro e w' ⟨rfl, hS, hg⟩
      exact ⟨_, rfl, fun d h => by cases h; show _ = _; rw [hput], H.s.to1 H.new n23 h1 hS hg⟩
    · refine ask_v ⟨51, rfl, rfl, fun _ h => h⟩ rfl (fun l a W H => ⟨_, W, ?_, rfl, H.s.skip (by decide) (by decide)⟩)
      have e9 : a.eval (.tmp 9) = .bool false := (H.base 9 rfl).trans b9
      exact ex_move rfl e9
    · refine ask_v ⟨51, rfl, rfl, fun _ h => h⟩ rfl (fun l a W H => ⟨_, W, ?_, rfl, H.s.skip (by decide) (by decide)⟩)
      have e54 : a.eval (.tmp 54) = .bool false := H.facts 54 rfl
      exact ex_move rfl e54
    · refine ask_no ⟨55, rfl, rfl, fun _ h => h⟩ (fun d h => by cases h; exact rfl) (fun _ _ h => h.skip (by decide) (by decide))
    · refine ask_no ⟨55, rfl, rfl, fun _ h => h⟩ (fun d h => by cases h; exact rfl) (fun _ _ h => h.skip (by decide) (by decide))
    · refine ask_v ⟨51, rfl, rfl, fun _ h => h⟩ rfl (fun l a W H => ⟨_, W, ?_, rfl, H.s.skip (by decide) (by decide)⟩)
      have e55 : a.eval (.tmp 55) = .bool false := H.facts 55 rfl
      exact ex_pick0 rfl e55 rfl
    · refine ask_v ⟨51, rfl, rfl, fun _ h => h⟩ rfl (fun l a W H => ⟨_, W, ?_, rfl, H.s.skip (by decide) (by decide)⟩)
      have e53 : a.eval (.tmp 53) = .bool false := H.facts 53 rfl
      have e58 : a.eval (.tmp 58) = .bool false := H.facts 58 rfl
      exact ex_eqb rfl e53 e58 (by simp)
    · refine ask_v rfl rfl (fun l a W H => ⟨_, W, ?_, rfl, H.s.skip (by decide) (by decide)⟩)
      have e51 : a.eval (.tmp 51) = .bool true := H.facts 51 rfl
      have e59 : a.eval (.tmp 59) = .bool true := H.facts 59 rfl
      exact ex_pick1 rfl e51 e59
    · refine ask_v rfl rfl (fun l a W H => ⟨_, W, ?_, rfl, H.s.skip (by decide) (by decide)⟩)
      have e60 : a.eval (.tmp 60) = .bool true := H.facts 60 rfl
      exact ex_move rfl e60
    · refine ask_v ⟨61, rfl, rfl, fun _ h => h⟩ rfl (fun l a W H => ⟨_, W, ?_, rfl, H.s.skip (by decide) (by decide)⟩)
      have e0 : a.eval (.tmp 0) = .int .i64 x := (H.base 0 rfl).trans b0
      exact ex_move rfl e0
    · refine ask_c ⟨61, rfl, rfl, fun _ h => h⟩ Tryd.func12 (by kernel_rfl) (by kernel_rfl) rfl (fun l a W H => ?_)
      have e5 : a.eval (.tmp 5) = .pointer (some ⟨b, 0, none⟩) := (H.base 5 rfl).trans b5
      have e62 : a.eval (.tmp 62) = .int .i64 x := H.facts 62 rfl
      have y13 : l 13 = true := (H.closed 15 13 (by rfl) (H.closed 21 15 (by rfl) (H.deps ⟨21, .chain⟩ (by simp) rfl)))
      have n23 : l 23 = false := H.new
      simp only [List.map_toArray, List.map_cons, List.map_nil, e5, e62]
      refine (cut_any b x f1 W (H.s.s1 y13 n23)).mono ?_
      rintro e w' ⟨rfl, hS, hg⟩
      exact ⟨_, rfl, fun d h => by cases h; show _ = _; rw [hcut], H.s.to2 h2 hS hg⟩
    · refine ask_v ⟨61, rfl, rfl, fun _ h => h⟩ rfl (fun l a W H => ⟨_, W, ?_, rfl, H.s.skip (by decide) (by decide)⟩)
      have e9 : a.eval (.tmp 9) = .bool false := (H.base 9 rfl).trans b9
      exact ex_move rfl e9
    · refine ask_v ⟨61, rfl, rfl, fun _ h => h⟩ rfl (fun l a W H => ⟨_, W, ?_, rfl, H.s.skip (by decide) (by decide)⟩)
      have e63 : a.eval (.tmp 63) = .bool false := H.facts 63 rfl
      have e64 : a.eval (.tmp 64) = .bool false := H.facts 64 rfl
      exact ex_eqb rfl e63 e64 (by simp)
    · refine ask_v rfl rfl (fun l a W H => ⟨_, W, ?_, rfl, H.s.skip (by decide) (by decide)⟩)
      have e61 : a.eval (.tmp 61) = .bool true := H.facts 61 rfl
      have e65 : a.eval (.tmp 65) = .bool true := H.facts 65 rfl
      exact ex_pick1 rfl e61 e65
    · refine ask_v rfl rfl (fun l a W H => ⟨_, W, ?_, rfl, H.s.skip (by decide) (by decide)⟩)
      have e66 : a.eval (.tmp 66) = .bool true := H.facts 66 rfl
      exact ex_move rfl e66
    · refine ask_c ⟨67, rfl, rfl, fun _ h => h⟩ Tryd.func17 (by kernel_rfl) (by kernel_rfl) rfl (fun l a W H => ?_)
      have e5 : a.eval (.tmp 5) = .pointer (some ⟨b, 0, none⟩) := (H.base 5 rfl).trans b5
      have y23 : l 23 = true := (H.closed 27 23 (by rfl) (H.deps ⟨27, .chain⟩ (by simp) rfl))
      simp only [List.map_toArray, List.map_cons, List.map_nil, e5]
      refine (put_any b (-1) f2 W (H.s.s2 y23)).mono ?_
      rintro e w' ⟨rfl, hS, hg⟩
      exact ⟨_, rfl, fun d h => by cases h; show _ = _; rw [inS_no (by omega)]; rfl, (H.s.same2 y23 (hS.congr fun y _ => by simp [ins, inS_no (show ((-1) : Int) < 0 ∨ 4096 ≤ ((-1) : Int) by omega)]) hg).skip (by decide) (by decide)⟩
    · refine ask_v ⟨67, rfl, rfl, fun _ h => h⟩ rfl (fun l a W H => ⟨_, W, ?_, rfl, H.s.skip (by decide) (by decide)⟩)
      have e68 : a.eval (.tmp 68) = .bool false := H.facts 68 rfl
      exact ex_not rfl e68 rfl
    · refine ask_v rfl rfl (fun l a W H => ⟨_, W, ?_, rfl, H.s.skip (by decide) (by decide)⟩)
      have e67 : a.eval (.tmp 67) = .bool true := H.facts 67 rfl
      have e69 : a.eval (.tmp 69) = .bool true := H.facts 69 rfl
      exact ex_pick1 rfl e67 e69
    · refine ask_v rfl rfl (fun l a W H => ⟨_, W, ?_, rfl, H.s.skip (by decide) (by decide)⟩)
      have e70 : a.eval (.tmp 70) = .bool true := H.facts 70 rfl
      exact ex_move rfl e70
    · refine ask_c ⟨71, rfl, rfl, fun _ h => h⟩ Tryd.func17 (by kernel_rfl) (by kernel_rfl) rfl (fun l a W H => ?_)
      have e5 : a.eval (.tmp 5) = .pointer (some ⟨b, 0, none⟩) := (H.base 5 rfl).trans b5
      have y23 : l 23 = true := (H.closed 27 23 (by rfl) (H.closed 30 27 (by rfl) (H.closed 31 30 (by rfl) (H.deps ⟨31, .chain⟩ (by simp) rfl))))
      simp only [List.map_toArray, List.map_cons, List.map_nil, e5]
      refine (put_any b 4096 f2 W (H.s.s2 y23)).mono ?_
      rintro e w' ⟨rfl, hS, hg⟩
      exact ⟨_, rfl, fun d h => by cases h; show _ = _; rw [inS_no (by omega)]; rfl, (H.s.same2 y23 (hS.congr fun y _ => by simp [ins, inS_no (show (4096 : Int) < 0 ∨ 4096 ≤ (4096 : Int) by omega)]) hg).skip (by decide) (by decide)⟩
    · refine ask_v ⟨71, rfl, rfl, fun _ h => h⟩ rfl (fun l a W H => ⟨_, W, ?_, rfl, H.s.skip (by decide) (by decide)⟩)
      have e72 : a.eval (.tmp 72) = .bool false := H.facts 72 rfl
      exact ex_not rfl e72 rfl
    · refine ask_v rfl rfl (fun l a W H => ⟨_, W, ?_, rfl, H.s.skip (by decide) (by decide)⟩)
      have e71 : a.eval (.tmp 71) = .bool true := H.facts 71 rfl
      have e73 : a.eval (.tmp 73) = .bool true := H.facts 73 rfl
      exact ex_pick1 rfl e71 e73
    · refine ask_v rfl rfl (fun l a W H => ⟨_, W, ?_, rfl, H.s.skip (by decide) (by decide)⟩)
      have e74 : a.eval (.tmp 74) = .bool true := H.facts 74 rfl
      exact ex_move rfl e74
    · refine ask_c ⟨75, rfl, rfl, fun _ h => h⟩ Tryd.func12 (by kernel_rfl) (by kernel_rfl) rfl (fun l a W H => ?_)
      have e5 : a.eval (.tmp 5) = .pointer (some ⟨b, 0, none⟩) := (H.base 5 rfl).trans b5
      have y23 : l 23 = true := (H.closed 27 23 (by rfl) (H.closed 30 27 (by rfl) (H.closed 31 30 (by rfl) (H.closed 34 31 (by rfl) (H.closed 35 34 (by rfl) (H.deps ⟨35, .chain⟩ (by simp) rfl))))))
      simp only [List.map_toArray, List.map_cons, List.map_nil, e5]
      refine (cut_any b 4096 f2 W (H.s.s2 y23)).mono ?_
      rintro e w' ⟨rfl, hS, hg⟩
      exact ⟨_, rfl, fun d h => by cases h; show _ = _; rw [inS_no (by omega)]; rfl, (H.s.same2 y23 (hS.congr fun y _ => by simp [del, inS_no (show (4096 : Int) < 0 ∨ 4096 ≤ (4096 : Int) by omega)]) hg).skip (by decide) (by decide)⟩
    · refine ask_v ⟨75, rfl, rfl, fun _ h => h⟩ rfl (fun l a W H => ⟨_, W, ?_, rfl, H.s.skip (by decide) (by decide)⟩)
      have e76 : a.eval (.tmp 76) = .bool false := H.facts 76 rfl
      exact ex_not rfl e76 rfl
    · refine ask_v rfl rfl (fun l a W H => ⟨_, W, ?_, rfl, H.s.skip (by decide) (by decide)⟩)
      have e75 : a.eval (.tmp 75) = .bool true := H.facts 75 rfl
      have e77 : a.eval (.tmp 77) = .bool true := H.facts 77 rfl
      exact ex_pick1 rfl e75 e77
    · refine ask_v rfl rfl (fun l a W H => ⟨_, W, ?_, rfl, H.s.skip (by decide) (by decide)⟩)
      have e78 : a.eval (.tmp 78) = .bool true := H.facts 78 rfl
      exact ex_move rfl e78
    · refine ask_v ⟨79, rfl, rfl, fun _ h => h⟩ rfl (fun l a W H => ?_)
      have e5 : a.eval (.tmp 5) = .pointer (some ⟨b, 0, none⟩) := (H.base 5 rfl).trans b5
      have y23 : l 23 = true := (H.closed 27 23 (by rfl) (H.closed 30 27 (by rfl) (H.closed 31 30 (by rfl) (H.closed 34 31 (by rfl) (H.closed 35 34 (by rfl) (H.closed 38 35 (by rfl) (H.closed 39 38 (by rfl) (H.deps ⟨39, .guard⟩ (by simp) rfl))))))))
      obtain ⟨cs, t, hc, hC⟩ := H.s.s2 y23
      exact ⟨.agg cs, W, ex_load rfl e5 hc Tryd.underlying27 rfl (by rw [hC.1]; exact info27), ⟨cs, rfl, hC⟩, H.s.skip (by decide) (by decide)⟩
    · refine ask_c ⟨79, rfl, rfl, fun _ h => h⟩ Tryd.func20 (by kernel_rfl) (by kernel_rfl) rfl (fun l a W H => ?_)
      have e80 := H.facts 80 rfl
      simp only [List.map_toArray, List.map_cons, List.map_nil, ]
      refine (all_any _ f2 W e80 H.s.tab).mono ?_
      rintro e w' ⟨u, rfl, hu, hg⟩
      obtain ⟨ao, cap, rfl⟩ := hu.v.slice
      exact ⟨_, rfl, fun d h => by cases h; exact ⟨ao, cap, by rw [ci_len]⟩, (H.s.grow hg).skip (by decide) (by decide)⟩
    · refine ask_v ⟨79, rfl, rfl, fun _ h => h⟩ rfl (fun l a W H => ⟨_, W, ?_, rfl, H.s.skip (by decide) (by decide)⟩)
      have e81 := H.facts 81 rfl
      obtain ⟨ao, cap, e81⟩ := e81
      have ea : (#[.tmp 81] : Array Operand).map a.eval = #[.slice ao (mem f2 4096).length cap] := by simp [e81]
      exact ex_len rfl ea
    · refine ask_v ⟨79, rfl, rfl, fun _ h => h⟩ rfl (fun l a W H => ?_)
      have e5 : a.eval (.tmp 5) = .pointer (some ⟨b, 0, none⟩) := (H.base 5 rfl).trans b5
      have y23 : l 23 = true := (H.closed 27 23 (by rfl) (H.closed 30 27 (by rfl) (H.closed 31 30 (by rfl) (H.closed 34 31 (by rfl) (H.closed 35 34 (by rfl) (H.closed 38 35 (by rfl) (H.closed 39 38 (by rfl) (H.deps ⟨39, .guard⟩ (by simp) rfl))))))))
      obtain ⟨cs, t, hc, hC⟩ := H.s.s2 y23
      exact ⟨.agg cs, W, ex_load rfl e5 hc Tryd.underlying27 rfl (by rw [hC.1]; exact info27), ⟨cs, rfl, hC⟩, H.s.skip (by decide) (by decide)⟩
    · refine ask_c ⟨79, rfl, rfl, fun _ h => h⟩ Tryd.func21 (by kernel_rfl) (by kernel_rfl) rfl (fun l a W H => ?_)
      have e83 := H.facts 83 rfl
      simp only [List.map_toArray, List.map_cons, List.map_nil, ]
      refine (len_any _ f2 W e83).mono ?_
      rintro e w' ⟨rfl, hg⟩
      exact ⟨_, rfl, fun d h => by cases h; rfl, (H.s.grow hg).skip (by decide) (by decide)⟩
    · refine ask_v ⟨79, rfl, rfl, fun _ h => h⟩ rfl (fun l a W H => ⟨_, W, ?_, rfl, H.s.skip (by decide) (by decide)⟩)
      have e82 : a.eval (.tmp 82) = .int .i64 ((mem f2 4096).length : Nat) := H.facts 82 rfl
      have e84 : a.eval (.tmp 84) = .int .i64 ((mem f2 4096).length : Nat) := H.facts 84 rfl
      exact ex_eqi rfl e82 e84 (by simp)
    · refine ask_v rfl rfl (fun l a W H => ⟨_, W, ?_, rfl, H.s.skip (by decide) (by decide)⟩)
      have e79 : a.eval (.tmp 79) = .bool true := H.facts 79 rfl
      have e85 : a.eval (.tmp 85) = .bool true := H.facts 85 rfl
      exact ex_pick1 rfl e79 e85
    · refine ask_v rfl rfl (fun l a W H => ⟨_, W, ?_, rfl, H.s.skip (by decide) (by decide)⟩)
      have e86 : a.eval (.tmp 86) = .bool true := H.facts 86 rfl
      exact ex_assign rfl e86
  · intro l s W hall hS hs
    exact hend s W (hs 4 rfl) hS.gb
end Go.Proofs.YtdeebmpmfedjbaaDoor
