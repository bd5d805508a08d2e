/- BagSets: what it says of a set and its model: fifty-three operations that draw their order. -/
import Derived.Test.YtdeebmpmfedjbaaDoorRw
import Derived.Test.YtdeebmpmfedjbaaDoorM4
import Derived.Test.YtdeebmpmfedjbaaDoorMo
import Derived.Test.YtdeebmpmfedjbaaDoorBz
namespace Go.Proofs.YtdeebmpmfedjbaaDoor
open Go Go.RowKit Bag
set_option linter.unusedVariables false
theorem info30 : (Tryd.prog.info? 30).map (·.size) = some 4096 := by kernel_rfl
theorem ci_small (f : Nat → Bool) : (ci (mem f 4096)).length ≤ 1000000000 := by
  rw [ci_len]
  have := mem_len f 4096
  omega
section
variable {ρ : Operand → Value} {o : Oper} {w : World}
theorem ex_neb {x y : Operand} {t : TypeId} {p q r : Bool} (ho : o.op = .binOp .neq 4 x y t) (hx : ρ x = .bool p) (hy : ρ y = .bool q) (h : (p != q) = r) : (execOp ρ o).run Tryd.prog w = .ok (.value (.bool r)) w := by
  subst h
  unfold execOp
  simp only [ho, hx, hy]
  cases p <;> cases q <;> go_simp
theorem ex_nei {x y : Operand} {t : TypeId} {p q : Int} {r : Bool} (ho : o.op = .binOp .neq 3 x y t) (hx : ρ x = .int .i64 p) (hy : ρ y = .int .i64 q) (h : decide (p ≠ q) = r) : (execOp ρ o).run Tryd.prog w = .ok (.value (.bool r)) w := by
  subst h
  unfold execOp
  simp only [ho, hx, hy]
  go_simp
  rw [Bool.eq_iff_iff]
  simp
theorem ex_eq30 {x y : Operand} {t : TypeId} {cs ds : Array Value} {r : Bool} (ho : o.op = .binOp .eql 30 x y t) (hx : ρ x = .agg cs) (hy : ρ y = .agg ds) (h : (Op.equalIn 10000 30 (.agg cs) (.agg ds)).run Tryd.prog w = .ok r w) : (execOp ρ o).run Tryd.prog w = .ok (.value (.bool r)) w := by
  have h : (binOp .eql 30 (.agg cs) (.agg ds)).run Tryd.prog w = .ok (.bool r) w := by
    simp [binOp, Op.equal, Op.maxDepth, h]
  have hg : (eqGuard .eql 30 x y (.agg cs) (.agg ds)).run Tryd.prog w = .ok () w := by
    simp [eqGuard]
  unfold execOp
  simp only [ho, hx, hy, Sem.run_bind, hg, h, Result.andThen_ok, Sem.run_pure]
theorem ex_min {xs : Array Operand} {x : Nat} (ho : o.op = .call { callee := .builtin .min, args := xs, argTypes := #[3, 3] }) (ht : o.type = 3) (hx : xs.map ρ = #[.int .i64 (x : Nat), .int .i64 4095]) (h : x < 4096) : (execOp ρ o).run Tryd.prog w = .ok (.value (.int .i64 (x : Nat))) w := by
  have h1 : (x : Int) ≤ 4095 := by omega
  unfold execOp
  simp only [ho, ht]
  go_simp
  omega
theorem ex_max {xs : Array Operand} {x : Nat} (ho : o.op = .call { callee := .builtin .max, args := xs, argTypes := #[3, 3] }) (ht : o.type = 3) (hx : xs.map ρ = #[.int .i64 0, .int .i64 (x : Nat)]) (h : x < 4096) : (execOp ρ o).run Tryd.prog w = .ok (.value (.int .i64 (x : Nat))) w := by
  have h1 : (0 : Int) ≤ (x : Int) := by omega
  unfold execOp
  simp only [ho, ht]
  go_simp
  omega
end
def ops_r50_in : Array Oper := #[⟨some 186, .move (.tmp 12), 4, "law.go:115", #[], none⟩, ⟨some 187, .unOp .not 4 (.tmp 186), 4, "law.go:115", #[⟨0, .data⟩], none⟩, ⟨some 188, .move (.tmp 187), 4, "law.go:115", #[⟨1, .data⟩], none⟩, ⟨some 189, .load 27 (.tmp 3), 27, "law.go:115", #[⟨2, .guard⟩], some (2, false)⟩, ⟨some 190, .call { callee := Callee.value (Operand.func 20), args := #[.tmp 189], argTypes := #[27] }, 31, "law.go:115", #[⟨3, .data⟩, ⟨2, .chain⟩, ⟨2, .guard⟩], some (2, false)⟩, ⟨some 191, .move (.tmp 18), 31, "law.go:115", #[⟨2, .guard⟩], some (2, false)⟩, ⟨some 192, .call { callee := Callee.value (Operand.func 19), args := #[.tmp 190, .tmp 191], argTypes := #[31, 31] }, 4, "law.go:115", #[⟨4, .data⟩, ⟨5, .data⟩, ⟨4, .chain⟩, ⟨2, .guard⟩], some (2, false)⟩, ⟨some 193, .unOp .not 4 (.tmp 192), 4, "law.go:115", #[⟨6, .data⟩, ⟨2, .guard⟩], some (2, false)⟩, ⟨some 194, .pick (.tmp 188) (.const (.bool true)) (.tmp 193), 4, "law.go:115", #[⟨2, .data⟩, ⟨7, .data⟩], none⟩, ⟨some 195, .move (.tmp 194), 4, "law.go:115", #[⟨8, .data⟩, ⟨6, .chain⟩], none⟩, ⟨some 196, .load 27 (.tmp 3), 27, "law.go:115", #[⟨9, .guard⟩], some (9, false)⟩, ⟨some 197, .call { callee := Callee.value (Operand.func 21), args := #[.tmp 196], argTypes := #[27] }, 3, "law.go:115", #[⟨10, .data⟩, ⟨9, .chain⟩, ⟨9, .guard⟩], some (9, false)⟩, ⟨some 198, .move (.tmp 18), 31, "law.go:115", #[⟨9, .guard⟩], some (9, false)⟩, ⟨some 199, .call { callee := Callee.builtin Builtin.len, args := #[.tmp 198], argTypes := #[31] }, 3, "law.go:115", #[⟨12, .data⟩, ⟨9, .guard⟩], some (9, false)⟩, ⟨some 200, .binOp .neq 3 (.tmp 197) (.tmp 199) 3, 4, "law.go:115", #[⟨11, .data⟩, ⟨13, .data⟩, ⟨9, .guard⟩], some (9, false)⟩, ⟨some 201, .pick (.tmp 195) (.const (.bool true)) (.tmp 200), 4, "law.go:115", #[⟨9, .data⟩, ⟨14, .data⟩], none⟩, ⟨some 202, .move (.tmp 201), 4, "law.go:115", #[⟨15, .data⟩, ⟨11, .chain⟩], none⟩, ⟨some 203, .load 27 (.tmp 3), 27, "law.go:115", #[⟨16, .guard⟩], some (16, false)⟩, ⟨some 204, .move (.tmp 7), 3, "law.go:115", #[⟨16, .guard⟩], some (16, false)⟩, ⟨some 205, .call { callee := Callee.value (Operand.func 22), args := #[.tmp 203, .tmp 204], argTypes := #[27, 3] }, 4, "law.go:115", #[⟨17, .data⟩, ⟨18, .data⟩, ⟨16, .chain⟩, ⟨16, .guard⟩], some (16, false)⟩, ⟨some 206, .move (.tmp 8), 4, "law.go:115", #[⟨16, .guard⟩], some (16, false)⟩, ⟨some 207, .move (.tmp 206), 4, "law.go:115", #[⟨20, .data⟩, ⟨19, .chain⟩, ⟨16, .guard⟩], some (16, false)⟩, ⟨some 208, .move (.tmp 4), 28, "law.go:115", #[⟨21, .guard⟩], some (21, true)⟩, ⟨some 209, .move (.tmp 7), 3, "law.go:115", #[⟨21, .guard⟩], some (21, true)⟩, ⟨some 210, .call { callee := Callee.builtin Builtin.min, args := #[.tmp 209, .const (.int .i64 4095)], argTypes := #[3, 3] }, 3, "law.go:115", #[⟨23, .data⟩, ⟨21, .guard⟩], some (21, true)⟩, ⟨some 211, .call { callee := Callee.builtin Builtin.max, args := #[.const (.int .i64 0), .tmp 210], argTypes := #[3, 3] }, 3, "law.go:115", #[⟨24, .data⟩, ⟨21, .guard⟩], some (21, true)⟩, ⟨some 212, .nilCheck (.tmp 208), 0, "law.go:115", #[⟨22, .data⟩, ⟨21, .guard⟩], some (21, true)⟩, ⟨some 213, .indexAddr 30 (.tmp 212) (.tmp 211), 0, "law.go:115", #[⟨26, .data⟩, ⟨25, .data⟩, ⟨21, .guard⟩], some (21, true)⟩, ⟨some 214, .load 4 (.tmp 213), 4, "law.go:115", #[⟨27, .data⟩, ⟨21, .guard⟩], some (21, true)⟩, ⟨some 215, .pick (.tmp 207) (.tmp 214) (.const (.bool false)), 4, "law.go:115", #[⟨21, .data⟩, ⟨28, .data⟩, ⟨16, .guard⟩], some (16, false)⟩, ⟨some 216, .binOp .neq 4 (.tmp 205) (.tmp 215) 4, 4, "law.go:115", #[⟨19, .data⟩, ⟨29, .data⟩, ⟨16, .guard⟩], some (16, false)⟩, ⟨some 217, .pick (.tmp 202) (.const (.bool true)) (.tmp 216), 4, "law.go:115", #[⟨16, .data⟩, ⟨30, .data⟩], none⟩, ⟨some 218, .move (.tmp 217), 4, "law.go:115", #[⟨31, .data⟩, ⟨21, .chain⟩], none⟩, ⟨some 219, .load 27 (.tmp 3), 27, "law.go:115", #[⟨32, .guard⟩], some (32, false)⟩, ⟨some 220, .load 27 (.tmp 10), 27, "law.go:115", #[⟨32, .guard⟩], some (32, false)⟩, ⟨some 221, .call { callee := Callee.value (Operand.func 23), args := #[.tmp 219, .tmp 220], argTypes := #[27, 27] }, 4, "law.go:115", #[⟨33, .data⟩, ⟨34, .data⟩, ⟨32, .chain⟩, ⟨32, .guard⟩], some (32, false)⟩, ⟨some 222, .move (.tmp 4), 28, "law.go:115", #[⟨32, .guard⟩], some (32, false)⟩, ⟨some 223, .nilCheck (.tmp 222), 0, "law.go:115", #[⟨36, .data⟩, ⟨32, .guard⟩], some (32, false)⟩, ⟨some 224, .load 30 (.tmp 223), 30, "law.go:115", #[⟨37, .data⟩, ⟨32, .guard⟩], some (32, false)⟩, ⟨some 225, .move (.tmp 11), 28, "law.go:115", #[⟨32, .guard⟩], some (32, false)⟩, ⟨some 226, .nilCheck (.tmp 225), 0, "law.go:115", #[⟨39, .data⟩, ⟨32, .guard⟩], some (32, false)⟩, ⟨some 227, .load 30 (.tmp 226), 30, "law.go:115", #[⟨40, .data⟩, ⟨32, .guard⟩], some (32, false)⟩, ⟨some 228, .binOp .eql 30 (.tmp 224) (.tmp 227) 30, 4, "law.go:115", #[⟨38, .data⟩, ⟨41, .data⟩, ⟨32, .guard⟩], some (32, false)⟩, ⟨some 229, .binOp .neq 4 (.tmp 221) (.tmp 228) 4, 4, "law.go:115", #[⟨35, .data⟩, ⟨42, .data⟩, ⟨32, .guard⟩], some (32, false)⟩, ⟨some 230, .pick (.tmp 218) (.const (.bool true)) (.tmp 229), 4, "law.go:115", #[⟨32, .data⟩, ⟨43, .data⟩], none⟩, ⟨some 231, .move (.tmp 230), 4, "law.go:115", #[⟨44, .data⟩, ⟨35, .chain⟩], none⟩, ⟨some 232, .load 27 (.tmp 10), 27, "law.go:115", #[⟨45, .guard⟩], some (45, false)⟩, ⟨some 233, .call { callee := Callee.value (Operand.func 20), args := #[.tmp 232], argTypes := #[27] }, 31, "law.go:115", #[⟨46, .data⟩, ⟨45, .chain⟩, ⟨45, .guard⟩], some (45, false)⟩, ⟨some 234, .move (.tmp 11), 28, "law.go:115", #[⟨45, .guard⟩], some (45, false)⟩, ⟨some 235, .call { callee := Callee.value (Operand.func 18), args := #[.tmp 234], argTypes := #[28] }, 31, "law.go:115", #[⟨48, .data⟩, ⟨47, .chain⟩, ⟨45, .guard⟩], some (45, false)⟩, ⟨some 236, .call { callee := Callee.value (Operand.func 19), args := #[.tmp 233, .tmp 235], argTypes := #[31, 31] }, 4, "law.go:115", #[⟨47, .data⟩, ⟨49, .data⟩, ⟨49, .chain⟩, ⟨45, .guard⟩], some (45, false)⟩, ⟨some 237, .unOp .not 4 (.tmp 236), 4, "law.go:115", #[⟨50, .data⟩, ⟨45, .guard⟩], some (45, false)⟩, ⟨some 238, .pick (.tmp 231) (.const (.bool true)) (.tmp 237), 4, "law.go:115", #[⟨45, .data⟩, ⟨51, .data⟩], none⟩]
def G_r50_in (gs gm go gw : Nat) (x : Nat) (sa : Option Addr) (sc : Nat) (f g : Nat → Bool) : Tmp → Value → World → Prop
  | 186, xx, _ => xx = .bool true
  | 187, xx, _ => xx = .bool false
  | 188, xx, _ => xx = .bool false
  | 189, xx, ww => SetV xx f
  | 190, xx, ww => IntsV ww xx (ci (mem f 4096))
  | 191, xx, _ => xx = .slice sa (mem f 4096).length sc
  | 192, xx, _ => xx = .bool true
  | 193, xx, _ => xx = .bool false
  | 194, xx, _ => xx = .bool false
  | 195, xx, _ => xx = .bool false
  | 196, xx, ww => SetV xx f
  | 197, xx, _ => xx = .int .i64 ((mem f 4096).length : Nat)
  | 198, xx, _ => xx = .slice sa (mem f 4096).length sc
  | 199, xx, _ => xx = .int .i64 ((mem f 4096).length : Nat)
  | 200, xx, _ => xx = .bool false
  | 201, xx, _ => xx = .bool false
  | 202, xx, _ => xx = .bool false
  | 203, xx, ww => SetV xx f
  | 204, xx, _ => xx = .int .i64 (x : Nat)
  | 205, xx, _ => xx = .bool (f x)
  | 206, xx, _ => xx = .bool true
  | 207, xx, _ => xx = .bool true
  | 208, xx, _ => xx = .pointer (some ⟨gm, 0, none⟩)
  | 209, xx, _ => xx = .int .i64 (x : Nat)
  | 210, xx, _ => xx = .int .i64 (x : Nat)
  | 211, xx, _ => xx = .int .i64 (x : Nat)
  | 212, xx, _ => xx = .pointer (some ⟨gm, 0, none⟩)
  | 213, xx, _ => xx = .pointer (some ⟨gm, x, none⟩)
  | 214, xx, _ => xx = .bool (f x)
  | 215, xx, _ => xx = .bool (f x)
  | 216, xx, _ => xx = .bool false
  | 217, xx, _ => xx = .bool false
  | 218, xx, _ => xx = .bool false
  | 219, xx, ww => SetV xx f
  | 220, xx, ww => SetV xx g
  | 221, xx, _ => xx = .bool (same f g 4096)
  | 222, xx, _ => xx = .pointer (some ⟨gm, 0, none⟩)
  | 223, xx, _ => xx = .pointer (some ⟨gm, 0, none⟩)
  | 224, xx, ww => ∃ cs, xx = .agg cs ∧ ModC cs f
  | 225, xx, _ => xx = .pointer (some ⟨gw, 0, none⟩)
  | 226, xx, _ => xx = .pointer (some ⟨gw, 0, none⟩)
  | 227, xx, ww => ∃ cs, xx = .agg cs ∧ ModC cs g
  | 228, xx, _ => xx = .bool (same f g 4096)
  | 229, xx, _ => xx = .bool false
  | 230, xx, _ => xx = .bool false
  | 231, xx, _ => xx = .bool false
  | 232, xx, ww => SetV xx g
  | 233, xx, ww => IntsV ww xx (ci (mem g 4096))
  | 234, xx, _ => xx = .pointer (some ⟨gw, 0, none⟩)
  | 235, xx, ww => IntsV ww xx (ci (mem g 4096))
  | 236, xx, _ => xx = .bool true
  | 237, xx, _ => xx = .bool false
  | 238, xx, _ => xx = .bool false
  | _, _, _ => True
theorem hm_r50_in (gs gm go gw : Nat) (x : Nat) (sa : Option Addr) (sc : Nat) (f g : Nat → Bool) : ∀ d u w w', World.grownBy w w' none → G_r50_in gs gm go gw x sa sc f g d u w → G_r50_in gs gm go gw x sa sc f g d u w' := by
  intro d u w w' hg h
  unfold G_r50_in at h ⊢
  split at h
  all_goals first | exact h | exact IntsV.below h (gb_to hg)
set_option maxHeartbeats 4000000 in
set_option maxRecDepth 100000 in
theorem r50_in {Q : Exit → Act → World → Prop} {a0 : Act} {wa : World} (gs gm go gw : Nat) (x : Nat) (sa : Option Addr) (sc : Nat) (f g : Nat → Bool) (hz : a0.tmps.size = 240) (b3 : a0.eval (.tmp 3) = .pointer (some ⟨gs, 0, none⟩)) (b4 : a0.eval (.tmp 4) = .pointer (some ⟨gm, 0, none⟩)) (b7 : a0.eval (.tmp 7) = .int .i64 (x : Nat)) (b8 : a0.eval (.tmp 8) = .bool true) (b10 : a0.eval (.tmp 10) = .pointer (some ⟨go, 0, none⟩)) (b11 : a0.eval (.tmp 11) = .pointer (some ⟨gw, 0, none⟩)) (b12 : a0.eval (.tmp 12) = .bool true) (b18 : a0.eval (.tmp 18) = .slice sa (mem f 4096).length sc) (hT : Tab wa) (hs : SetAt wa gs f) (ho : SetAt wa go g) (hm0 : ModAt wa.drew gm f) (hw0 : ModAt wa.drew gw g) (hv18 : IntsV wa.drew (.slice sa (mem f 4096).length sc) (ci (mem f 4096))) (hhas : isIn f x = f x) (hx : x < 4096)
    (hend : ∀ (s : Tmp → Value) (W : World), s 238 = .bool false → wa.grownBy W none → Q .normal (overlay a0 (dstsOf ops_r50_in) s) W) : (Code.region 50 ops_r50_in true).wp Tryd.prog Q a0 wa := by
  have hm := hm_r50_in gs gm go gw x sa sc f g
  refine L.wp_region_eachL (by kernel_rfl) (fun _ t v w => G_r50_in gs gm go gw x sa sc f g t v w) (fun _ W => wa.drew.grownBy W none) (by rw [hz]; kernel_rfl) (gb_refl _ _) ?_ ?_
  · refine And.intro ?_ (And.intro ?_ (And.intro ?_ (And.intro ?_ (And.intro ?_ (And.intro ?_ (And.intro ?_ (And.intro ?_ (And.intro ?_ (And.intro ?_ (And.intro ?_ (And.intro ?_ (And.intro ?_ (And.intro ?_ (And.intro ?_ (And.intro ?_ (And.intro ?_ (And.intro ?_ (And.intro ?_ (And.intro ?_ (And.intro ?_ (And.intro ?_ (And.intro ?_ (And.intro ?_ (And.intro ?_ (And.intro ?_ (And.intro ?_ (And.intro ?_ (And.intro ?_ (And.intro ?_ (And.intro ?_ (And.intro ?_ (And.intro ?_ (And.intro ?_ (And.intro ?_ (And.intro ?_ (And.intro ?_ (And.intro ?_ (And.intro ?_ (And.intro ?_ (And.intro ?_ (And.intro ?_ (And.intro ?_ (And.intro ?_ (And.intro ?_ (And.intro ?_ (And.intro ?_ (And.intro ?_ (And.intro ?_ (And.intro ?_ (And.intro ?_ (And.intro ?_ (And.intro ?_ trivial))))))))))))))))))))))))))))))))))))))))))))))))))))
    · refine ask_vw hm rfl rfl (fun l a W H => ⟨_, W, ?_, rfl, H.s, gb_refl _ _⟩)
      have e12 : a.eval (.tmp 12) = .bool true := (H.base 12 rfl).trans b12
      exact ex_move rfl e12
    · refine ask_vw hm rfl rfl (fun l a W H => ⟨_, W, ?_, rfl, H.s, gb_refl _ _⟩)
      have e186 : a.eval (.tmp 186) = .bool true := H.facts 186 rfl
      exact ex_not rfl e186 rfl
    · refine ask_vw hm rfl rfl (fun l a W H => ⟨_, W, ?_, rfl, H.s, gb_refl _ _⟩)
      have e187 : a.eval (.tmp 187) = .bool false := H.facts 187 rfl
      exact ex_move rfl e187
    · refine ask_vw hm ⟨188, rfl, rfl, fun _ _ h => h⟩ rfl (fun l a W H => ?_)
      have e3 : a.eval (.tmp 3) = .pointer (some ⟨gs, 0, none⟩) := (H.base 3 rfl).trans b3
      obtain ⟨cs, t, hc, hC⟩ := hs.drew.kept H.s (by simp)
      exact ⟨.agg cs, W, ex_load rfl e3 hc Tryd.underlying27 rfl (by rw [hC.1]; exact info27), ⟨cs, rfl, hC⟩, H.s, gb_refl _ _⟩
    · refine ask_cw hm ⟨188, rfl, rfl, fun _ _ h => h⟩ Tryd.func20 (by kernel_rfl) (by kernel_rfl) rfl (fun l a W H => ?_)
      have e189 := H.facts 189 rfl
      simp only [List.map_toArray, List.map_cons, List.map_nil, ]
      refine (all_any _ f W e189 (Tab.gb (W := wa.drew) hT H.s (by simp))).mono ?_
      rintro e w' ⟨u, rfl, hu, hg⟩
      exact ⟨_, rfl, fun d h => by cases h; exact hu.v, H.s.trans hg, hg⟩
    · refine ask_vw hm ⟨188, rfl, rfl, fun _ _ h => h⟩ rfl (fun l a W H => ⟨_, W, ?_, rfl, H.s, gb_refl _ _⟩)
      have e18 : a.eval (.tmp 18) = .slice sa (mem f 4096).length sc := (H.base 18 rfl).trans b18
      exact ex_move rfl e18
    · refine ask_cw hm ⟨188, rfl, rfl, fun _ _ h => h⟩ Tryd.func19 (by kernel_rfl) (by kernel_rfl) rfl (fun l a W H => ?_)
      have e190 := H.facts 190 rfl
      have e191 : a.eval (.tmp 191) = .slice sa (mem f 4096).length sc := H.facts 191 rfl
      simp only [List.map_toArray, List.map_cons, List.map_nil, e191]
      refine (sameInts_any _ _ (ci (mem f 4096)) W e190 (hv18.below (gb_to H.s)) (ci_small f)).mono ?_
      rintro e w' ⟨rfl, hg⟩
      exact ⟨_, rfl, fun d h => by cases h; rfl, H.s.trans hg, hg⟩
    · refine ask_vw hm ⟨188, rfl, rfl, fun _ _ h => h⟩ rfl (fun l a W H => ⟨_, W, ?_, rfl, H.s, gb_refl _ _⟩)
      have e192 : a.eval (.tmp 192) = .bool true := H.facts 192 rfl
      exact ex_not rfl e192 rfl
    · refine ask_vw hm rfl rfl (fun l a W H => ⟨_, W, ?_, rfl, H.s, gb_refl _ _⟩)
      have e188 : a.eval (.tmp 188) = .bool false := H.facts 188 rfl
      have e193 : a.eval (.tmp 193) = .bool false := H.facts 193 rfl
      exact ex_pick0 rfl e188 e193
    · refine ask_vw hm rfl rfl (fun l a W H => ⟨_, W, ?_, rfl, H.s, gb_refl _ _⟩)
      have e194 : a.eval (.tmp 194) = .bool false := H.facts 194 rfl
      exact ex_move rfl e194
    · refine ask_vw hm ⟨195, rfl, rfl, fun _ _ h => h⟩ rfl (fun l a W H => ?_)
      have e3 : a.eval (.tmp 3) = .pointer (some ⟨gs, 0, none⟩) := (H.base 3 rfl).trans b3
      obtain ⟨cs, t, hc, hC⟩ := hs.drew.kept H.s (by simp)
      exact ⟨.agg cs, W, ex_load rfl e3 hc Tryd.underlying27 rfl (by rw [hC.1]; exact info27), ⟨cs, rfl, hC⟩, H.s, gb_refl _ _⟩
    · refine ask_cw hm ⟨195, rfl, rfl, fun _ _ h => h⟩ Tryd.func21 (by kernel_rfl) (by kernel_rfl) rfl (fun l a W H => ?_)
      have e196 := H.facts 196 rfl
      simp only [List.map_toArray, List.map_cons, List.map_nil, ]
      refine (len_any _ f W e196).mono ?_
      rintro e w' ⟨rfl, hg⟩
      exact ⟨_, rfl, fun d h => by cases h; rfl, H.s.trans hg, hg⟩
    · refine ask_vw hm ⟨195, rfl, rfl, fun _ _ h => h⟩ rfl (fun l a W H => ⟨_, W, ?_, rfl, H.s, gb_refl _ _⟩)
      have e18 : a.eval (.tmp 18) = .slice sa (mem f 4096).length sc := (H.base 18 rfl).trans b18
      exact ex_move rfl e18
    · refine ask_vw hm ⟨195, rfl, rfl, fun _ _ h => h⟩ rfl (fun l a W H => ⟨_, W, ?_, rfl, H.s, gb_refl _ _⟩)
      have e198 : a.eval (.tmp 198) = .slice sa (mem f 4096).length sc := H.facts 198 rfl
      have ea : (#[.tmp 198] : Array Operand).map a.eval = #[.slice sa (mem f 4096).length sc] := by simp [e198]
      exact ex_len rfl ea
    · refine ask_vw hm ⟨195, rfl, rfl, fun _ _ h => h⟩ rfl (fun l a W H => ⟨_, W, ?_, rfl, H.s, gb_refl _ _⟩)
      have e197 : a.eval (.tmp 197) = .int .i64 ((mem f 4096).length : Nat) := H.facts 197 rfl
      have e199 : a.eval (.tmp 199) = .int .i64 ((mem f 4096).length : Nat) := H.facts 199 rfl
      exact ex_nei rfl e197 e199 (by simp)
    · refine ask_vw hm rfl rfl (fun l a W H => ⟨_, W, ?_, rfl, H.s, gb_refl _ _⟩)
      have e195 : a.eval (.tmp 195) = .bool false := H.facts 195 rfl
      have e200 : a.eval (.tmp 200) = .bool false := H.facts 200 rfl
      exact ex_pick0 rfl e195 e200
    · refine ask_vw hm rfl rfl (fun l a W H => ⟨_, W, ?_, rfl, H.s, gb_refl _ _⟩)
      have e201 : a.eval (.tmp 201) = .bool false := H.facts 201 rfl
      exact ex_move rfl e201
    · refine ask_vw hm ⟨202, rfl, rfl, fun _ _ h => h⟩ rfl (fun l a W H => ?_)
      have e3 : a.eval (.tmp 3) = .pointer (some ⟨gs, 0, none⟩) := (H.base 3 rfl).trans b3
      obtain ⟨cs, t, hc, hC⟩ := hs.drew.kept H.s (by simp)
      exact ⟨.agg cs, W, ex_load rfl e3 hc Tryd.underlying27 rfl (by rw [hC.1]; exact info27), ⟨cs, rfl, hC⟩, H.s, gb_refl _ _⟩
    · refine ask_vw hm ⟨202, rfl, rfl, fun _ _ h => h⟩ rfl (fun l a W H => ⟨_, W, ?_, rfl, H.s, gb_refl _ _⟩)
      have e7 : a.eval (.tmp 7) = .int .i64 (x : Nat) := (H.base 7 rfl).trans b7
      exact ex_move rfl e7
    · refine ask_cw hm ⟨202, rfl, rfl, fun _ _ h => h⟩ Tryd.func22 (by kernel_rfl) (by kernel_rfl) rfl (fun l a W H => ?_)
      have e203 := H.facts 203 rfl
      have e204 : a.eval (.tmp 204) = .int .i64 (x : Nat) := H.facts 204 rfl
      simp only [List.map_toArray, List.map_cons, List.map_nil, e204]
      refine (has_any _ (x : Nat) f W e203).mono ?_
      rintro e w' ⟨rfl, hg⟩
      exact ⟨_, rfl, fun d h => by cases h; show _ = _; rw [hhas], H.s.trans hg, hg⟩
    · refine ask_vw hm ⟨202, rfl, rfl, fun _ _ h => h⟩ rfl (fun l a W H => ⟨_, W, ?_, rfl, H.s, gb_refl _ _⟩)
      have e8 : a.eval (.tmp 8) = .bool true := (H.base 8 rfl).trans b8
      exact ex_move rfl e8
    · refine ask_vw hm ⟨202, rfl, rfl, fun _ _ h => h⟩ rfl (fun l a W H => ⟨_, W, ?_, rfl, H.s, gb_refl _ _⟩)
      have e206 : a.eval (.tmp 206) = .bool true := H.facts 206 rfl
      exact ex_move rfl e206
    · refine ask_vw hm ⟨207, rfl, rfl, fun _ _ h => h⟩ rfl (fun l a W H => ⟨_, W, ?_, rfl, H.s, gb_refl _ _⟩)
      have e4 : a.eval (.tmp 4) = .pointer (some ⟨gm, 0, none⟩) := (H.base 4 rfl).trans b4
      exact ex_move rfl e4
    · refine ask_vw hm ⟨207, rfl, rfl, fun _ _ h => h⟩ rfl (fun l a W H => ⟨_, W, ?_, rfl, H.s, gb_refl _ _⟩)
      have e7 : a.eval (.tmp 7) = .int .i64 (x : Nat) := (H.base 7 rfl).trans b7
      exact ex_move rfl e7
    · refine ask_vw hm ⟨207, rfl, rfl, fun _ _ h => h⟩ rfl (fun l a W H => ⟨_, W, ?_, rfl, H.s, gb_refl _ _⟩)
      have e209 : a.eval (.tmp 209) = .int .i64 (x : Nat) := H.facts 209 rfl
      have ea : (#[.tmp 209, .const (.int .i64 4095)] : Array Operand).map a.eval = #[.int .i64 (x : Nat), .int .i64 4095] := by simp [e209]; rfl
      exact ex_min rfl rfl ea (by omega)
    · refine ask_vw hm ⟨207, rfl, rfl, fun _ _ h => h⟩ rfl (fun l a W H => ⟨_, W, ?_, rfl, H.s, gb_refl _ _⟩)
      have e210 : a.eval (.tmp 210) = .int .i64 (x : Nat) := H.facts 210 rfl
      have ea : (#[.const (.int .i64 0), .tmp 210] : Array Operand).map a.eval = #[.int .i64 0, .int .i64 (x : Nat)] := by simp [e210]; rfl
      exact ex_max rfl rfl ea (by omega)
    · refine ask_vw hm ⟨207, rfl, rfl, fun _ _ h => h⟩ rfl (fun l a W H => ⟨_, W, ?_, rfl, H.s, gb_refl _ _⟩)
      have e208 : a.eval (.tmp 208) = .pointer (some ⟨gm, 0, none⟩) := H.facts 208 rfl
      (simp only [execOp]; try simp only [Option.map]); (try simp only [List.map_toArray, List.map_cons, List.map_nil]); (simp only [e208]; go_simp)
    · refine ask_vw hm ⟨207, rfl, rfl, fun _ _ h => h⟩ rfl (fun l a W H => ⟨_, W, ?_, rfl, H.s, gb_refl _ _⟩)
      have e212 : a.eval (.tmp 212) = .pointer (some ⟨gm, 0, none⟩) := H.facts 212 rfl
      have e211 : a.eval (.tmp 211) = .int .i64 (x : Nat) := H.facts 211 rfl
      have hx' : (x : Int) < 4096 := by omega
      (simp only [execOp]; try simp only [Option.map]); (try simp only [List.map_toArray, List.map_cons, List.map_nil]); (simp only [e212, e211]; go_simp)
    · refine ask_vw hm ⟨207, rfl, rfl, fun _ _ h => h⟩ rfl (fun l a W H => ⟨_, W, ?_, rfl, H.s, gb_refl _ _⟩)
      have e213 : a.eval (.tmp 213) = .pointer (some ⟨gm, x, none⟩) := H.facts 213 rfl
      have hcm := ((hm0.kept H.s (by simp)).cell x hx).1
      (simp only [execOp]; try simp only [Option.map]); (try simp only [List.map_toArray, List.map_cons, List.map_nil]); (simp only [e213]; go_simp)
    · refine ask_vw hm ⟨202, rfl, rfl, fun _ _ h => h⟩ rfl (fun l a W H => ⟨_, W, ?_, rfl, H.s, gb_refl _ _⟩)
      have e207 : a.eval (.tmp 207) = .bool true := H.facts 207 rfl
      have e214 : a.eval (.tmp 214) = .bool (f x) := H.facts 214 rfl
      exact ex_pick1 rfl e207 e214
    · refine ask_vw hm ⟨202, rfl, rfl, fun _ _ h => h⟩ rfl (fun l a W H => ⟨_, W, ?_, rfl, H.s, gb_refl _ _⟩)
      have e205 : a.eval (.tmp 205) = .bool (f x) := H.facts 205 rfl
      have e215 : a.eval (.tmp 215) = .bool (f x) := H.facts 215 rfl
      exact ex_neb rfl e205 e215 (by simp)
    · refine ask_vw hm rfl rfl (fun l a W H => ⟨_, W, ?_, rfl, H.s, gb_refl _ _⟩)
      have e202 : a.eval (.tmp 202) = .bool false := H.facts 202 rfl
      have e216 : a.eval (.tmp 216) = .bool false := H.facts 216 rfl
      exact ex_pick0 rfl e202 e216
    · refine ask_vw hm rfl rfl (fun l a W H => ⟨_, W, ?_, rfl, H.s, gb_refl _ _⟩)
      have e217 : a.eval (.tmp 217) = .bool false := H.facts 217 rfl
      exact ex_move rfl e217
    · refine ask_vw hm ⟨218, rfl, rfl, fun _ _ h => h⟩ rfl (fun l a W H => ?_)
      have e3 : a.eval (.tmp 3) = .pointer (some ⟨gs, 0, none⟩) := (H.base 3 rfl).trans b3
      obtain ⟨cs, t, hc, hC⟩ := hs.drew.kept H.s (by simp)
      exact ⟨.agg cs, W, ex_load rfl e3 hc Tryd.underlying27 rfl (by rw [hC.1]; exact info27), ⟨cs, rfl, hC⟩, H.s, gb_refl _ _⟩
    · refine ask_vw hm ⟨218, rfl, rfl, fun _ _ h => h⟩ rfl (fun l a W H => ?_)
      have e10 : a.eval (.tmp 10) = .pointer (some ⟨go, 0, none⟩) := (H.base 10 rfl).trans b10
      obtain ⟨cs, t, hc, hC⟩ := ho.drew.kept H.s (by simp)
      exact ⟨.agg cs, W, ex_load rfl e10 hc Tryd.underlying27 rfl (by rw [hC.1]; exact info27), ⟨cs, rfl, hC⟩, H.s, gb_refl _ _⟩
    · refine ask_cw hm ⟨218, rfl, rfl, fun _ _ h => h⟩ Tryd.func23 (by kernel_rfl) (by kernel_rfl) rfl (fun l a W H => ?_)
      have e219 := H.facts 219 rfl
      have e220 := H.facts 220 rfl
      simp only [List.map_toArray, List.map_cons, List.map_nil, ]
      refine (same_any _ _ f g W e219 e220).mono ?_
      rintro e w' ⟨rfl, hg⟩
      exact ⟨_, rfl, fun d h => by cases h; rfl, H.s.trans hg, hg⟩
    · refine ask_vw hm ⟨218, rfl, rfl, fun _ _ h => h⟩ rfl (fun l a W H => ⟨_, W, ?_, rfl, H.s, gb_refl _ _⟩)
      have e4 : a.eval (.tmp 4) = .pointer (some ⟨gm, 0, none⟩) := (H.base 4 rfl).trans b4
      exact ex_move rfl e4
    · refine ask_vw hm ⟨218, rfl, rfl, fun _ _ h => h⟩ rfl (fun l a W H => ⟨_, W, ?_, rfl, H.s, gb_refl _ _⟩)
      have e222 : a.eval (.tmp 222) = .pointer (some ⟨gm, 0, none⟩) := H.facts 222 rfl
      (simp only [execOp]; try simp only [Option.map]); (try simp only [List.map_toArray, List.map_cons, List.map_nil]); (simp only [e222]; go_simp)
    · refine ask_vw hm ⟨218, rfl, rfl, fun _ _ h => h⟩ rfl (fun l a W H => ?_)
      have e223 : a.eval (.tmp 223) = .pointer (some ⟨gm, 0, none⟩) := H.facts 223 rfl
      obtain ⟨cs, t, hc, hC⟩ := hm0.kept H.s (by simp)
      exact ⟨.agg cs, W, ex_load rfl e223 hc Tryd.underlying30 rfl (by rw [hC.1]; exact info30), ⟨cs, rfl, hC⟩, H.s, gb_refl _ _⟩
    · refine ask_vw hm ⟨218, rfl, rfl, fun _ _ h => h⟩ rfl (fun l a W H => ⟨_, W, ?_, rfl, H.s, gb_refl _ _⟩)
      have e11 : a.eval (.tmp 11) = .pointer (some ⟨gw, 0, none⟩) := (H.base 11 rfl).trans b11
      exact ex_move rfl e11
    · refine ask_vw hm ⟨218, rfl, rfl, fun _ _ h => h⟩ rfl (fun l a W H => ⟨_, W, ?_, rfl, H.s, gb_refl _ _⟩)
      have e225 : a.eval (.tmp 225) = .pointer (some ⟨gw, 0, none⟩) := H.facts 225 rfl
      (simp only [execOp]; try simp only [Option.map]); (try simp only [List.map_toArray, List.map_cons, List.map_nil]); (simp only [e225]; go_simp)
    · refine ask_vw hm ⟨218, rfl, rfl, fun _ _ h => h⟩ rfl (fun l a W H => ?_)
      have e226 : a.eval (.tmp 226) = .pointer (some ⟨gw, 0, none⟩) := H.facts 226 rfl
      obtain ⟨cs, t, hc, hC⟩ := hw0.kept H.s (by simp)
      exact ⟨.agg cs, W, ex_load rfl e226 hc Tryd.underlying30 rfl (by rw [hC.1]; exact info30), ⟨cs, rfl, hC⟩, H.s, gb_refl _ _⟩
    · refine ask_vw hm ⟨218, rfl, rfl, fun _ _ h => h⟩ rfl (fun l a W H => ⟨_, W, ?_, rfl, H.s, gb_refl _ _⟩)
      have e224 := H.facts 224 rfl
      have e227 := H.facts 227 rfl
      obtain ⟨cs, e224, hC⟩ := e224
      obtain ⟨ds, e227, hD⟩ := e227
      exact ex_eq30 rfl e224 e227 (eq30 cs ds f g hC hD W)
    · refine ask_vw hm ⟨218, rfl, rfl, fun _ _ h => h⟩ rfl (fun l a W H => ⟨_, W, ?_, rfl, H.s, gb_refl _ _⟩)
      have e221 : a.eval (.tmp 221) = .bool (same f g 4096) := H.facts 221 rfl
      have e228 : a.eval (.tmp 228) = .bool (same f g 4096) := H.facts 228 rfl
      exact ex_neb rfl e221 e228 (by simp)
    · refine ask_vw hm rfl rfl (fun l a W H => ⟨_, W, ?_, rfl, H.s, gb_refl _ _⟩)
      have e218 : a.eval (.tmp 218) = .bool false := H.facts 218 rfl
      have e229 : a.eval (.tmp 229) = .bool false := H.facts 229 rfl
      exact ex_pick0 rfl e218 e229
    · refine ask_vw hm rfl rfl (fun l a W H => ⟨_, W, ?_, rfl, H.s, gb_refl _ _⟩)
      have e230 : a.eval (.tmp 230) = .bool false := H.facts 230 rfl
      exact ex_move rfl e230
    · refine ask_vw hm ⟨231, rfl, rfl, fun _ _ h => h⟩ rfl (fun l a W H => ?_)
      have e10 : a.eval (.tmp 10) = .pointer (some ⟨go, 0, none⟩) := (H.base 10 rfl).trans b10
      obtain ⟨cs, t, hc, hC⟩ := ho.drew.kept H.s (by simp)
      exact ⟨.agg cs, W, ex_load rfl e10 hc Tryd.underlying27 rfl (by rw [hC.1]; exact info27), ⟨cs, rfl, hC⟩, H.s, gb_refl _ _⟩
    · refine ask_cw hm ⟨231, rfl, rfl, fun _ _ h => h⟩ Tryd.func20 (by kernel_rfl) (by kernel_rfl) rfl (fun l a W H => ?_)
      have e232 := H.facts 232 rfl
      simp only [List.map_toArray, List.map_cons, List.map_nil, ]
      refine (all_any _ g W e232 (Tab.gb (W := wa.drew) hT H.s (by simp))).mono ?_
      rintro e w' ⟨u, rfl, hu, hg⟩
      exact ⟨_, rfl, fun d h => by cases h; exact hu.v, H.s.trans hg, hg⟩
    · refine ask_vw hm ⟨231, rfl, rfl, fun _ _ h => h⟩ rfl (fun l a W H => ⟨_, W, ?_, rfl, H.s, gb_refl _ _⟩)
      have e11 : a.eval (.tmp 11) = .pointer (some ⟨gw, 0, none⟩) := (H.base 11 rfl).trans b11
      exact ex_move rfl e11
    · refine ask_cw hm ⟨231, rfl, rfl, fun _ _ h => h⟩ Tryd.func18 (by kernel_rfl) (by kernel_rfl) rfl (fun l a W H => ?_)
      have e234 : a.eval (.tmp 234) = .pointer (some ⟨gw, 0, none⟩) := H.facts 234 rfl
      simp only [List.map_toArray, List.map_cons, List.map_nil, e234]
      refine (model_any gw g W (hw0.kept H.s (by simp))).mono ?_
      rintro e w' ⟨u, rfl, hu, hg⟩
      exact ⟨_, rfl, fun d h => by cases h; exact hu.v, H.s.trans hg, hg⟩
    · refine ask_cw hm ⟨231, rfl, rfl, fun _ _ h => h⟩ Tryd.func19 (by kernel_rfl) (by kernel_rfl) rfl (fun l a W H => ?_)
      have e233 := H.facts 233 rfl
      have e235 := H.facts 235 rfl
      simp only [List.map_toArray, List.map_cons, List.map_nil, ]
      refine (sameInts_any _ _ (ci (mem g 4096)) W e233 e235 (ci_small g)).mono ?_
      rintro e w' ⟨rfl, hg⟩
      exact ⟨_, rfl, fun d h => by cases h; rfl, H.s.trans hg, hg⟩
    · refine ask_vw hm ⟨231, rfl, rfl, fun _ _ h => h⟩ rfl (fun l a W H => ⟨_, W, ?_, rfl, H.s, gb_refl _ _⟩)
      have e236 : a.eval (.tmp 236) = .bool true := H.facts 236 rfl
      exact ex_not rfl e236 rfl
    · refine ask_vw hm rfl rfl (fun l a W H => ⟨_, W, ?_, rfl, H.s, gb_refl _ _⟩)
      have e231 : a.eval (.tmp 231) = .bool false := H.facts 231 rfl
      have e237 : a.eval (.tmp 237) = .bool false := H.facts 237 rfl
      exact ex_pick0 rfl e231 e237
  · intro l s W hall hS hs
    exact hend s W (hs 238 rfl) ((gb_drew wa none).trans hS)
def ops_r50_out : Array Oper := #[⟨some 186, .move (.tmp 12), 4, "law.go:115", #[], none⟩, ⟨some 187, .unOp .not 4 (.tmp 186), 4, "law.go:115", #[⟨0, .data⟩], none⟩, ⟨some 188, .move (.tmp 187), 4, "law.go:115", #[⟨1, .data⟩], none⟩, ⟨some 189, .load 27 (.tmp 3), 27, "law.go:115", #[⟨2, .guard⟩], some (2, false)⟩, ⟨some 190, .call { callee := Callee.value (Operand.func 20), args := #[.tmp 189], argTypes := #[27] }, 31, "law.go:115", #[⟨3, .data⟩, ⟨2, .chain⟩, ⟨2, .guard⟩], some (2, false)⟩, ⟨some 191, .move (.tmp 18), 31, "law.go:115", #[⟨2, .guard⟩], some (2, false)⟩, ⟨some 192, .call { callee := Callee.value (Operand.func 19), args := #[.tmp 190, .tmp 191], argTypes := #[31, 31] }, 4, "law.go:115", #[⟨4, .data⟩, ⟨5, .data⟩, ⟨4, .chain⟩, ⟨2, .guard⟩], some (2, false)⟩, ⟨some 193, .unOp .not 4 (.tmp 192), 4, "law.go:115", #[⟨6, .data⟩, ⟨2, .guard⟩], some (2, false)⟩, ⟨some 194, .pick (.tmp 188) (.const (.bool true)) (.tmp 193), 4, "law.go:115", #[⟨2, .data⟩, ⟨7, .data⟩], none⟩, ⟨some 195, .move (.tmp 194), 4, "law.go:115", #[⟨8, .data⟩, ⟨6, .chain⟩], none⟩, ⟨some 196, .load 27 (.tmp 3), 27, "law.go:115", #[⟨9, .guard⟩], some (9, false)⟩, ⟨some 197, .call { callee := Callee.value (Operand.func 21), args := #[.tmp 196], argTypes := #[27] }, 3, "law.go:115", #[⟨10, .data⟩, ⟨9, .chain⟩, ⟨9, .guard⟩], some (9, false)⟩, ⟨some 198, .move (.tmp 18), 31, "law.go:115", #[⟨9, .guard⟩], some (9, false)⟩, ⟨some 199, .call { callee := Callee.builtin Builtin.len, args := #[.tmp 198], argTypes := #[31] }, 3, "law.go:115", #[⟨12, .data⟩, ⟨9, .guard⟩], some (9, false)⟩, ⟨some 200, .binOp .neq 3 (.tmp 197) (.tmp 199) 3, 4, "law.go:115", #[⟨11, .data⟩, ⟨13, .data⟩, ⟨9, .guard⟩], some (9, false)⟩, ⟨some 201, .pick (.tmp 195) (.const (.bool true)) (.tmp 200), 4, "law.go:115", #[⟨9, .data⟩, ⟨14, .data⟩], none⟩, ⟨some 202, .move (.tmp 201), 4, "law.go:115", #[⟨15, .data⟩, ⟨11, .chain⟩], none⟩, ⟨some 203, .load 27 (.tmp 3), 27, "law.go:115", #[⟨16, .guard⟩], some (16, false)⟩, ⟨some 204, .move (.tmp 7), 3, "law.go:115", #[⟨16, .guard⟩], some (16, false)⟩, ⟨some 205, .call { callee := Callee.value (Operand.func 22), args := #[.tmp 203, .tmp 204], argTypes := #[27, 3] }, 4, "law.go:115", #[⟨17, .data⟩, ⟨18, .data⟩, ⟨16, .chain⟩, ⟨16, .guard⟩], some (16, false)⟩, ⟨some 206, .move (.tmp 8), 4, "law.go:115", #[⟨16, .guard⟩], some (16, false)⟩, ⟨some 207, .move (.tmp 206), 4, "law.go:115", #[⟨20, .data⟩, ⟨19, .chain⟩, ⟨16, .guard⟩], some (16, false)⟩, ⟨some 208, .move (.tmp 4), 28, "law.go:115", #[⟨21, .guard⟩], some (21, true)⟩, ⟨some 209, .move (.tmp 7), 3, "law.go:115", #[⟨21, .guard⟩], some (21, true)⟩, ⟨some 210, .call { callee := Callee.builtin Builtin.min, args := #[.tmp 209, .const (.int .i64 4095)], argTypes := #[3, 3] }, 3, "law.go:115", #[⟨23, .data⟩, ⟨21, .guard⟩], some (21, true)⟩, ⟨some 211, .call { callee := Callee.builtin Builtin.max, args := #[.const (.int .i64 0), .tmp 210], argTypes := #[3, 3] }, 3, "law.go:115", #[⟨24, .data⟩, ⟨21, .guard⟩], some (21, true)⟩, ⟨some 212, .nilCheck (.tmp 208), 0, "law.go:115", #[⟨22, .data⟩, ⟨21, .guard⟩], some (21, true)⟩, ⟨some 213, .indexAddr 30 (.tmp 212) (.tmp 211), 0, "law.go:115", #[⟨26, .data⟩, ⟨25, .data⟩, ⟨21, .guard⟩], some (21, true)⟩, ⟨some 214, .load 4 (.tmp 213), 4, "law.go:115", #[⟨27, .data⟩, ⟨21, .guard⟩], some (21, true)⟩, ⟨some 215, .pick (.tmp 207) (.tmp 214) (.const (.bool false)), 4, "law.go:115", #[⟨21, .data⟩, ⟨28, .data⟩, ⟨16, .guard⟩], some (16, false)⟩, ⟨some 216, .binOp .neq 4 (.tmp 205) (.tmp 215) 4, 4, "law.go:115", #[⟨19, .data⟩, ⟨29, .data⟩, ⟨16, .guard⟩], some (16, false)⟩, ⟨some 217, .pick (.tmp 202) (.const (.bool true)) (.tmp 216), 4, "law.go:115", #[⟨16, .data⟩, ⟨30, .data⟩], none⟩, ⟨some 218, .move (.tmp 217), 4, "law.go:115", #[⟨31, .data⟩, ⟨21, .chain⟩], none⟩, ⟨some 219, .load 27 (.tmp 3), 27, "law.go:115", #[⟨32, .guard⟩], some (32, false)⟩, ⟨some 220, .load 27 (.tmp 10), 27, "law.go:115", #[⟨32, .guard⟩], some (32, false)⟩, ⟨some 221, .call { callee := Callee.value (Operand.func 23), args := #[.tmp 219, .tmp 220], argTypes := #[27, 27] }, 4, "law.go:115", #[⟨33, .data⟩, ⟨34, .data⟩, ⟨32, .chain⟩, ⟨32, .guard⟩], some (32, false)⟩, ⟨some 222, .move (.tmp 4), 28, "law.go:115", #[⟨32, .guard⟩], some (32, false)⟩, ⟨some 223, .nilCheck (.tmp 222), 0, "law.go:115", #[⟨36, .data⟩, ⟨32, .guard⟩], some (32, false)⟩, ⟨some 224, .load 30 (.tmp 223), 30, "law.go:115", #[⟨37, .data⟩, ⟨32, .guard⟩], some (32, false)⟩, ⟨some 225, .move (.tmp 11), 28, "law.go:115", #[⟨32, .guard⟩], some (32, false)⟩, ⟨some 226, .nilCheck (.tmp 225), 0, "law.go:115", #[⟨39, .data⟩, ⟨32, .guard⟩], some (32, false)⟩, ⟨some 227, .load 30 (.tmp 226), 30, "law.go:115", #[⟨40, .data⟩, ⟨32, .guard⟩], some (32, false)⟩, ⟨some 228, .binOp .eql 30 (.tmp 224) (.tmp 227) 30, 4, "law.go:115", #[⟨38, .data⟩, ⟨41, .data⟩, ⟨32, .guard⟩], some (32, false)⟩, ⟨some 229, .binOp .neq 4 (.tmp 221) (.tmp 228) 4, 4, "law.go:115", #[⟨35, .data⟩, ⟨42, .data⟩, ⟨32, .guard⟩], some (32, false)⟩, ⟨some 230, .pick (.tmp 218) (.const (.bool true)) (.tmp 229), 4, "law.go:115", #[⟨32, .data⟩, ⟨43, .data⟩], none⟩, ⟨some 231, .move (.tmp 230), 4, "law.go:115", #[⟨44, .data⟩, ⟨35, .chain⟩], none⟩, ⟨some 232, .load 27 (.tmp 10), 27, "law.go:115", #[⟨45, .guard⟩], some (45, false)⟩, ⟨some 233, .call { callee := Callee.value (Operand.func 20), args := #[.tmp 232], argTypes := #[27] }, 31, "law.go:115", #[⟨46, .data⟩, ⟨45, .chain⟩, ⟨45, .guard⟩], some (45, false)⟩, ⟨some 234, .move (.tmp 11), 28, "law.go:115", #[⟨45, .guard⟩], some (45, false)⟩, ⟨some 235, .call { callee := Callee.value (Operand.func 18), args := #[.tmp 234], argTypes := #[28] }, 31, "law.go:115", #[⟨48, .data⟩, ⟨47, .chain⟩, ⟨45, .guard⟩], some (45, false)⟩, ⟨some 236, .call { callee := Callee.value (Operand.func 19), args := #[.tmp 233, .tmp 235], argTypes := #[31, 31] }, 4, "law.go:115", #[⟨47, .data⟩, ⟨49, .data⟩, ⟨49, .chain⟩, ⟨45, .guard⟩], some (45, false)⟩, ⟨some 237, .unOp .not 4 (.tmp 236), 4, "law.go:115", #[⟨50, .data⟩, ⟨45, .guard⟩], some (45, false)⟩, ⟨some 238, .pick (.tmp 231) (.const (.bool true)) (.tmp 237), 4, "law.go:115", #[⟨45, .data⟩, ⟨51, .data⟩], none⟩]
def G_r50_out (gs gm go gw : Nat) (x : Int) (sa : Option Addr) (sc : Nat) (f g : Nat → Bool) : Tmp → Value → World → Prop
  | 186, xx, _ => xx = .bool true
  | 187, xx, _ => xx = .bool false
  | 188, xx, _ => xx = .bool false
  | 189, xx, ww => SetV xx f
  | 190, xx, ww => IntsV ww xx (ci (mem f 4096))
  | 191, xx, _ => xx = .slice sa (mem f 4096).length sc
  | 192, xx, _ => xx = .bool true
  | 193, xx, _ => xx = .bool false
  | 194, xx, _ => xx = .bool false
  | 195, xx, _ => xx = .bool false
  | 196, xx, ww => SetV xx f
  | 197, xx, _ => xx = .int .i64 ((mem f 4096).length : Nat)
  | 198, xx, _ => xx = .slice sa (mem f 4096).length sc
  | 199, xx, _ => xx = .int .i64 ((mem f 4096).length : Nat)
  | 200, xx, _ => xx = .bool false
  | 201, xx, _ => xx = .bool false
  | 202, xx, _ => xx = .bool false
  | 203, xx, ww => SetV xx f
  | 204, xx, _ => xx = .int .i64 x
  | 205, xx, _ => xx = .bool false
  | 206, xx, _ => xx = .bool false
  | 207, xx, _ => xx = .bool false
  | 208, xx, _ => xx = undef
  | 209, xx, _ => xx = undef
  | 210, xx, _ => xx = undef
  | 211, xx, _ => xx = undef
  | 212, xx, _ => xx = undef
  | 213, xx, _ => xx = undef
  | 214, xx, _ => xx = undef
  | 215, xx, _ => xx = .bool false
  | 216, xx, _ => xx = .bool false
  | 217, xx, _ => xx = .bool false
  | 218, xx, _ => xx = .bool false
  | 219, xx, ww => SetV xx f
  | 220, xx, ww => SetV xx g
  | 221, xx, _ => xx = .bool (same f g 4096)
  | 222, xx, _ => xx = .pointer (some ⟨gm, 0, none⟩)
  | 223, xx, _ => xx = .pointer (some ⟨gm, 0, none⟩)
  | 224, xx, ww => ∃ cs, xx = .agg cs ∧ ModC cs f
  | 225, xx, _ => xx = .pointer (some ⟨gw, 0, none⟩)
  | 226, xx, _ => xx = .pointer (some ⟨gw, 0, none⟩)
  | 227, xx, ww => ∃ cs, xx = .agg cs ∧ ModC cs g
  | 228, xx, _ => xx = .bool (same f g 4096)
  | 229, xx, _ => xx = .bool false
  | 230, xx, _ => xx = .bool false
  | 231, xx, _ => xx = .bool false
  | 232, xx, ww => SetV xx g
  | 233, xx, ww => IntsV ww xx (ci (mem g 4096))
  | 234, xx, _ => xx = .pointer (some ⟨gw, 0, none⟩)
  | 235, xx, ww => IntsV ww xx (ci (mem g 4096))
  | 236, xx, _ => xx = .bool true
  | 237, xx, _ => xx = .bool false
  | 238, xx, _ => xx = .bool false
  | _, _, _ => True
theorem hm_r50_out (gs gm go gw : Nat) (x : Int) (sa : Option Addr) (sc : Nat) (f g : Nat → Bool) : ∀ d u w w', World.grownBy w w' none → G_r50_out gs gm go gw x sa sc f g d u w → G_r50_out gs gm go gw x sa sc f g d u w' := by
  intro d u w w' hg h
  unfold G_r50_out at h ⊢
  split at h
  all_goals first | exact h | exact IntsV.below h (gb_to hg)
set_option maxHeartbeats 4000000 in
set_option maxRecDepth 100000 in
theorem r50_out {Q : Exit → Act → World → Prop} {a0 : Act} {wa : World} (gs gm go gw : Nat) (x : Int) (sa : Option Addr) (sc : Nat) (f g : Nat → Bool) (hz : a0.tmps.size = 240) (b3 : a0.eval (.tmp 3) = .pointer (some ⟨gs, 0, none⟩)) (b4 : a0.eval (.tmp 4) = .pointer (some ⟨gm, 0, none⟩)) (b7 : a0.eval (.tmp 7) = .int .i64 x) (b8 : a0.eval (.tmp 8) = .bool false) (b10 : a0.eval (.tmp 10) = .pointer (some ⟨go, 0, none⟩)) (b11 : a0.eval (.tmp 11) = .pointer (some ⟨gw, 0, none⟩)) (b12 : a0.eval (.tmp 12) = .bool true) (b18 : a0.eval (.tmp 18) = .slice sa (mem f 4096).length sc) (hT : Tab wa) (hs : SetAt wa gs f) (ho : SetAt wa go g) (hm0 : ModAt wa.drew gm f) (hw0 : ModAt wa.drew gw g) (hv18 : IntsV wa.drew (.slice sa (mem f 4096).length sc) (ci (mem f 4096))) (hhas : isIn f x = false)
    (hend : ∀ (s : Tmp → Value) (W : World), s 238 = .bool false → wa.grownBy W none → Q .normal (overlay a0 (dstsOf ops_r50_out) s) W) : (Code.region 50 ops_r50_out true).wp Tryd.prog Q a0 wa := by
  have hm := hm_r50_out gs gm go gw x sa sc f g
  refine L.wp_region_eachL (by kernel_rfl) (fun _ t v w => G_r50_out gs gm go gw x sa sc f g t v w) (fun _ W => wa.drew.grownBy W none) (by rw [hz]; kernel_rfl) (gb_refl _ _) ?_ ?_
  · refine And.intro ?_ (And.intro ?_ (And.intro ?_ (And.intro ?_ (And.intro ?_ (And.intro ?_ (And.intro ?_ (And.intro ?_ (And.intro ?_ (And.intro ?_ (And.intro ?_ (And.intro ?_ (And.intro ?_ (And.intro ?_ (And.intro ?_ (And.intro ?_ (And.intro ?_ (And.intro ?_ (And.intro ?_ (And.intro ?_ (And.intro ?_ (And.intro ?_ (And.intro ?_ (And.intro ?_ (And.intro ?_ (And.intro ?_ (And.intro ?_ (And.intro ?_ (And.intro ?_ (And.intro ?_ (And.intro ?_ (And.intro ?_ (And.intro ?_ (And.intro ?_ (And.intro ?_ (And.intro ?_ (And.intro ?_ (And.intro ?_ (And.intro ?_ (And.intro ?_ (And.intro ?_ (And.intro ?_ (And.intro ?_ (And.intro ?_ (And.intro ?_ (And.intro ?_ (And.intro ?_ (And.intro ?_ (And.intro ?_ (And.intro ?_ (And.intro ?_ (And.intro ?_ (And.intro ?_ trivial))))))))))))))))))))))))))))))))))))))))))))))))))))
    · refine ask_vw hm rfl rfl (fun l a W H => ⟨_, W, ?_, rfl, H.s, gb_refl _ _⟩)
      have e12 : a.eval (.tmp 12) = .bool true := (H.base 12 rfl).trans b12
      exact ex_move rfl e12
    · refine ask_vw hm rfl rfl (fun l a W H => ⟨_, W, ?_, rfl, H.s, gb_refl _ _⟩)
      have e186 : a.eval (.tmp 186) = .bool true := H.facts 186 rfl
      exact ex_not rfl e186 rfl
    · refine ask_vw hm rfl rfl (fun l a W H => ⟨_, W, ?_, rfl, H.s, gb_refl _ _⟩)
      have e187 : a.eval (.tmp 187) = .bool false := H.facts 187 rfl
      exact ex_move rfl e187
    · refine ask_vw hm ⟨188, rfl, rfl, fun _ _ h => h⟩ rfl (fun l a W H => ?_)
      have e3 : a.eval (.tmp 3) = .pointer (some ⟨gs, 0, none⟩) := (H.base 3 rfl).trans b3
      obtain ⟨cs, t, hc, hC⟩ := hs.drew.kept H.s (by simp)
      exact ⟨.agg cs, W, ex_load rfl e3 hc Tryd.underlying27 rfl (by rw [hC.1]; exact info27), ⟨cs, rfl, hC⟩, H.s, gb_refl _ _⟩
    · refine ask_cw hm ⟨188, rfl, rfl, fun _ _ h => h⟩ Tryd.func20 (by kernel_rfl) (by kernel_rfl) rfl (fun l a W H => ?_)
      have e189 := H.facts 189 rfl
      simp only [List.map_toArray, List.map_cons, List.map_nil, ]
      refine (all_any _ f W e189 (Tab.gb (W := wa.drew) hT H.s (by simp))).mono ?_
      rintro e w' ⟨u, rfl, hu, hg⟩
      exact ⟨_, rfl, fun d h => by cases h; exact hu.v, H.s.trans hg, hg⟩
    · refine ask_vw hm ⟨188, rfl, rfl, fun _ _ h => h⟩ rfl (fun l a W H => ⟨_, W, ?_, rfl, H.s, gb_refl _ _⟩)
      have e18 : a.eval (.tmp 18) = .slice sa (mem f 4096).length sc := (H.base 18 rfl).trans b18
      exact ex_move rfl e18
    · refine ask_cw hm ⟨188, rfl, rfl, fun _ _ h => h⟩ Tryd.func19 (by kernel_rfl) (by kernel_rfl) rfl (fun l a W H => ?_)
      have e190 := H.facts 190 rfl
      have e191 : a.eval (.tmp 191) = .slice sa (mem f 4096).length sc := H.facts 191 rfl
      simp only [List.map_toArray, List.map_cons, List.map_nil, e191]
      refine (sameInts_any _ _ (ci (mem f 4096)) W e190 (hv18.below (gb_to H.s)) (ci_small f)).mono ?_
      rintro e w' ⟨rfl, hg⟩
      exact ⟨_, rfl, fun d h => by cases h; rfl, H.s.trans hg, hg⟩
    · refine ask_vw hm ⟨188, rfl, rfl, fun _ _ h => h⟩ rfl (fun l a W H => ⟨_, W, ?_, rfl, H.s, gb_refl _ _⟩)
      have e192 : a.eval (.tmp 192) = .bool true := H.facts 192 rfl
      exact ex_not rfl e192 rfl
    · refine ask_vw hm rfl rfl (fun l a W H => ⟨_, W, ?_, rfl, H.s, gb_refl _ _⟩)
      have e188 : a.eval (.tmp 188) = .bool false := H.facts 188 rfl
      have e193 : a.eval (.tmp 193) = .bool false := H.facts 193 rfl
      exact ex_pick0 rfl e188 e193
    · refine ask_vw hm rfl rfl (fun l a W H => ⟨_, W, ?_, rfl, H.s, gb_refl _ _⟩)
      have e194 : a.eval (.tmp 194) = .bool false := H.facts 194 rfl
      exact ex_move rfl e194
    · refine ask_vw hm ⟨195, rfl, rfl, fun _ _ h => h⟩ rfl (fun l a W H => ?_)
      have e3 : a.eval (.tmp 3) = .pointer (some ⟨gs, 0, none⟩) := (H.base 3 rfl).trans b3
      obtain ⟨cs, t, hc, hC⟩ := hs.drew.kept H.s (by simp)
      exact ⟨.agg cs, W, ex_load rfl e3 hc Tryd.underlying27 rfl (by rw [hC.1]; exact info27), ⟨cs, rfl, hC⟩, H.s, gb_refl _ _⟩
    · refine ask_cw hm ⟨195, rfl, rfl, fun _ _ h => h⟩ Tryd.func21 (by kernel_rfl) (by kernel_rfl) rfl (fun l a W H => ?_)
      have e196 := H.facts 196 rfl
      simp only [List.map_toArray, List.map_cons, List.map_nil, ]
      refine (len_any _ f W e196).mono ?_
      rintro e w' ⟨rfl, hg⟩
      exact ⟨_, rfl, fun d h => by cases h; rfl, H.s.trans hg, hg⟩
    · refine ask_vw hm ⟨195, rfl, rfl, fun _ _ h => h⟩ rfl (fun l a W H => ⟨_, W, ?_, rfl, H.s, gb_refl _ _⟩)
      have e18 : a.eval (.tmp 18) = .slice sa (mem f 4096).length sc := (H.base 18 rfl).trans b18
      exact ex_move rfl e18
    · refine ask_vw hm ⟨195, rfl, rfl, fun _ _ h => h⟩ rfl (fun l a W H => ⟨_, W, ?_, rfl, H.s, gb_refl _ _⟩)
      have e198 : a.eval (.tmp 198) = .slice sa (mem f 4096).length sc := H.facts 198 rfl
      have ea : (#[.tmp 198] : Array Operand).map a.eval = #[.slice sa (mem f 4096).length sc] := by simp [e198]
      exact ex_len rfl ea
    · refine ask_vw hm ⟨195, rfl, rfl, fun _ _ h => h⟩ rfl (fun l a W H => ⟨_, W, ?_, rfl, H.s, gb_refl _ _⟩)
      have e197 : a.eval (.tmp 197) = .int .i64 ((mem f 4096).length : Nat) := H.facts 197 rfl
      have e199 : a.eval (.tmp 199) = .int .i64 ((mem f 4096).length : Nat) := H.facts 199 rfl
      exact ex_nei rfl e197 e199 (by simp)
    · refine ask_vw hm rfl rfl (fun l a W H => ⟨_, W, ?_, rfl, H.s, gb_refl _ _⟩)
      have e195 : a.eval (.tmp 195) = .bool false := H.facts 195 rfl
      have e200 : a.eval (.tmp 200) = .bool false := H.facts 200 rfl
      exact ex_pick0 rfl e195 e200
    · refine ask_vw hm rfl rfl (fun l a W H => ⟨_, W, ?_, rfl, H.s, gb_refl _ _⟩)
      have e201 : a.eval (.tmp 201) = .bool false := H.facts 201 rfl
      exact ex_move rfl e201
    · refine ask_vw hm ⟨202, rfl, rfl, fun _ _ h => h⟩ rfl (fun l a W H => ?_)
      have e3 : a.eval (.tmp 3) = .pointer (some ⟨gs, 0, none⟩) := (H.base 3 rfl).trans b3
      obtain ⟨cs, t, hc, hC⟩ := hs.drew.kept H.s (by simp)
      exact ⟨.agg cs, W, ex_load rfl e3 hc Tryd.underlying27 rfl (by rw [hC.1]; exact info27), ⟨cs, rfl, hC⟩, H.s, gb_refl _ _⟩
    · refine ask_vw hm ⟨202, rfl, rfl, fun _ _ h => h⟩ rfl (fun l a W H => ⟨_, W, ?_, rfl, H.s, gb_refl _ _⟩)
      have e7 : a.eval (.tmp 7) = .int .i64 x := (H.base 7 rfl).trans b7
      exact ex_move rfl e7
    · refine ask_cw hm ⟨202, rfl, rfl, fun _ _ h => h⟩ Tryd.func22 (by kernel_rfl) (by kernel_rfl) rfl (fun l a W H => ?_)
      have e203 := H.facts 203 rfl
      have e204 : a.eval (.tmp 204) = .int .i64 x := H.facts 204 rfl
      simp only [List.map_toArray, List.map_cons, List.map_nil, e204]
      refine (has_any _ x f W e203).mono ?_
      rintro e w' ⟨rfl, hg⟩
      exact ⟨_, rfl, fun d h => by cases h; show _ = _; rw [hhas], H.s.trans hg, hg⟩
    · refine ask_vw hm ⟨202, rfl, rfl, fun _ _ h => h⟩ rfl (fun l a W H => ⟨_, W, ?_, rfl, H.s, gb_refl _ _⟩)
      have e8 : a.eval (.tmp 8) = .bool false := (H.base 8 rfl).trans b8
      exact ex_move rfl e8
    · refine ask_vw hm ⟨202, rfl, rfl, fun _ _ h => h⟩ rfl (fun l a W H => ⟨_, W, ?_, rfl, H.s, gb_refl _ _⟩)
      have e206 : a.eval (.tmp 206) = .bool false := H.facts 206 rfl
      exact ex_move rfl e206
    · refine ask_now ⟨207, rfl, rfl, fun _ _ h => h⟩ (fun d w h => by cases h; exact rfl) (fun _ _ h => h)
    · refine ask_now ⟨207, rfl, rfl, fun _ _ h => h⟩ (fun d w h => by cases h; exact rfl) (fun _ _ h => h)
    · refine ask_now ⟨207, rfl, rfl, fun _ _ h => h⟩ (fun d w h => by cases h; exact rfl) (fun _ _ h => h)
    · refine ask_now ⟨207, rfl, rfl, fun _ _ h => h⟩ (fun d w h => by cases h; exact rfl) (fun _ _ h => h)
    · refine ask_now ⟨207, rfl, rfl, fun _ _ h => h⟩ (fun d w h => by cases h; exact rfl) (fun _ _ h => h)
    · refine ask_now ⟨207, rfl, rfl, fun _ _ h => h⟩ (fun d w h => by cases h; exact rfl) (fun _ _ h => h)
    · refine ask_now ⟨207, rfl, rfl, fun _ _ h => h⟩ (fun d w h => by cases h; exact rfl) (fun _ _ h => h)
    · refine ask_vw hm ⟨202, rfl, rfl, fun _ _ h => h⟩ rfl (fun l a W H => ⟨_, W, ?_, rfl, H.s, gb_refl _ _⟩)
      have e207 : a.eval (.tmp 207) = .bool false := H.facts 207 rfl
      exact ex_pick0 rfl e207 rfl
    · refine ask_vw hm ⟨202, rfl, rfl, fun _ _ h => h⟩ rfl (fun l a W H => ⟨_, W, ?_, rfl, H.s, gb_refl _ _⟩)
      have e205 : a.eval (.tmp 205) = .bool false := H.facts 205 rfl
      have e215 : a.eval (.tmp 215) = .bool false := H.facts 215 rfl
      exact ex_neb rfl e205 e215 (by simp)
    · refine ask_vw hm rfl rfl (fun l a W H => ⟨_, W, ?_, rfl, H.s, gb_refl _ _⟩)
      have e202 : a.eval (.tmp 202) = .bool false := H.facts 202 rfl
      have e216 : a.eval (.tmp 216) = .bool false := H.facts 216 rfl
      exact ex_pick0 rfl e202 e216
    · refine ask_vw hm rfl rfl (fun l a W H => ⟨_, W, ?_, rfl, H.s, gb_refl _ _⟩)
      have e217 : a.eval (.tmp 217) = .bool false := H.facts 217 rfl
      exact ex_move rfl e217
    · refine ask_vw hm ⟨218, rfl, rfl, fun _ _ h => h⟩ rfl (fun l a W H => ?_)
      have e3 : a.eval (.tmp 3) = .pointer (some ⟨gs, 0, none⟩) := (H.base 3 rfl).trans b3
      obtain ⟨cs, t, hc, hC⟩ := hs.drew.kept H.s (by simp)
      exact ⟨.agg cs, W, ex_load rfl e3 hc Tryd.underlying27 rfl (by rw [hC.1]; exact info27), ⟨cs, rfl, hC⟩, H.s, gb_refl _ _⟩
    · refine ask_vw hm ⟨218, rfl, rfl, fun _ _ h => h⟩ rfl (fun l a W H => ?_)
      have e10 : a.eval (.tmp 10) = .pointer (some ⟨go, 0, none⟩) := (H.base 10 rfl).trans b10
      obtain ⟨cs, t, hc, hC⟩ := ho.drew.kept H.s (by simp)
      exact ⟨.agg cs, W, ex_load rfl e10 hc Tryd.underlying27 rfl (by rw [hC.1]; exact info27), ⟨cs, rfl, hC⟩, H.s, gb_refl _ _⟩
    · refine ask_cw hm ⟨218, rfl, rfl, fun _ _ h => h⟩ Tryd.func23 (by kernel_rfl) (by kernel_rfl) rfl (fun l a W H => ?_)
      have e219 := H.facts 219 rfl
      have e220 := H.facts 220 rfl
      simp only [List.map_toArray, List.map_cons, List.map_nil, ]
      refine (same_any _ _ f g W e219 e220).mono ?_
      rintro e w' ⟨rfl, hg⟩
      exact ⟨_, rfl, fun d h => by cases h; rfl, H.s.trans hg, hg⟩
    · refine ask_vw hm ⟨218, rfl, rfl, fun _ _ h => h⟩ rfl (fun l a W H => ⟨_, W, ?_, rfl, H.s, gb_refl _ _⟩)
      have e4 : a.eval (.tmp 4) = .pointer (some ⟨gm, 0, none⟩) := (H.base 4 rfl).trans b4
      exact ex_move rfl e4
    · refine ask_vw hm ⟨218, rfl, rfl, fun _ _ h => h⟩ rfl (fun l a W H => ⟨_, W, ?_, rfl, H.s, gb_refl _ _⟩)
      have e222 : a.eval (.tmp 222) = .pointer (some ⟨gm, 0, none⟩) := H.facts 222 rfl
      (simp only [execOp]; try simp only [Option.map]); (try simp only [List.map_toArray, List.map_cons, List.map_nil]); (simp only [e222]; go_simp)
    · refine ask_vw hm ⟨218, rfl, rfl, fun _ _ h => h⟩ rfl (fun l a W H => ?_)
      have e223 : a.eval (.tmp 223) = .pointer (some ⟨gm, 0, none⟩) := H.facts 223 rfl
      obtain ⟨cs, t, hc, hC⟩ := hm0.kept H.s (by simp)
      exact ⟨.agg cs, W, ex_load rfl e223 hc Tryd.underlying30 rfl (by rw [hC.1]; exact info30), ⟨cs, rfl, hC⟩, H.s, gb_refl _ _⟩
    · refine ask_vw hm ⟨218, rfl, rfl, fun _ _ h => h⟩ rfl (fun l a W H => ⟨_, W, ?_, rfl, H.s, gb_refl _ _⟩)
      have e11 : a.eval (.tmp 11) = .pointer (some ⟨gw, 0, none⟩) := (H.base 11 rfl).trans b11
      exact ex_move rfl e11
    · refine ask_vw hm ⟨218, rfl, rfl, fun _ _ h => h⟩ rfl (fun l a W H => ⟨_, W, ?_, rfl, H.s, gb_refl _ _⟩)
      have e225 : a.eval (.tmp 225) = .pointer (some ⟨gw, 0, none⟩) := H.facts 225 rfl
      (simp only [execOp]; try simp only [Option.map]); (try simp only [List.map_toArray, List.map_cons, List.map_nil]); (simp only [e225]; go_simp)
    · refine ask_vw hm ⟨218, rfl, rfl, fun _ _ h => h⟩ rfl (fun l a W H => ?_)
      have e226 : a.eval (.tmp 226) = .pointer (some ⟨gw, 0, none⟩) := H.facts 226 rfl
      obtain ⟨cs, t, hc, hC⟩ := hw0.kept H.s (by simp)
      exact ⟨.agg cs, W, ex_load rfl e226 hc Tryd.underlying30 rfl (by rw [hC.1]; exact info30), ⟨cs, rfl, hC⟩, H.s, gb_refl _ _⟩
    · refine ask_vw hm ⟨218, rfl, rfl, fun _ _ h => h⟩ rfl (fun l a W H => ⟨_, W, ?_, rfl, H.s, gb_refl _ _⟩)
      have e224 := H.facts 224 rfl
      have e227 := H.facts 227 rfl
      obtain ⟨cs, e224, hC⟩ := e224
      obtain ⟨ds, e227, hD⟩ := e227
      exact ex_eq30 rfl e224 e227 (eq30 cs ds f g hC hD W)
    · refine ask_vw hm ⟨218, rfl, rfl, fun _ _ h => h⟩ rfl (fun l a W H => ⟨_, W, ?_, rfl, H.s, gb_refl _ _⟩)
      have e221 : a.eval (.tmp 221) = .bool (same f g 4096) := H.facts 221 rfl
      have e228 : a.eval (.tmp 228) = .bool (same f g 4096) := H.facts 228 rfl
      exact ex_neb rfl e221 e228 (by simp)
    · refine ask_vw hm rfl rfl (fun l a W H => ⟨_, W, ?_, rfl, H.s, gb_refl _ _⟩)
      have e218 : a.eval (.tmp 218) = .bool false := H.facts 218 rfl
      have e229 : a.eval (.tmp 229) = .bool false := H.facts 229 rfl
      exact ex_pick0 rfl e218 e229
    · refine ask_vw hm rfl rfl (fun l a W H => ⟨_, W, ?_, rfl, H.s, gb_refl _ _⟩)
      have e230 : a.eval (.tmp 230) = .bool false := H.facts 230 rfl
      exact ex_move rfl e230
    · refine ask_vw hm ⟨231, rfl, rfl, fun _ _ h => h⟩ rfl (fun l a W H => ?_)
      have e10 : a.eval (.tmp 10) = .pointer (some ⟨go, 0, none⟩) := (H.base 10 rfl).trans b10
      obtain ⟨cs, t, hc, hC⟩ := ho.drew.kept H.s (by simp)
      exact ⟨.agg cs, W, ex_load rfl e10 hc Tryd.underlying27 rfl (by rw [hC.1]; exact info27), ⟨cs, rfl, hC⟩, H.s, gb_refl _ _⟩
    · refine ask_cw hm ⟨231, rfl, rfl, fun _ _ h => h⟩ Tryd.func20 (by kernel_rfl) (by kernel_rfl) rfl (fun l a W H => ?_)
      have e232 := H.facts 232 rfl
      simp only [List.map_toArray, List.map_cons, List.map_nil, ]
      refine (all_any _ g W e232 (Tab.gb (W := wa.drew) hT H.s (by simp))).mono ?_
      rintro e w' ⟨u, rfl, hu, hg⟩
      exact ⟨_, rfl, fun d h => by cases h; exact hu.v, H.s.trans hg, hg⟩
    · refine ask_vw hm ⟨231, rfl, rfl, fun _ _ h => h⟩ rfl (fun l a W H => ⟨_, W, ?_, rfl, H.s, gb_refl _ _⟩)
      have e11 : a.eval (.tmp 11) = .pointer (some ⟨gw, 0, none⟩) := (H.base 11 rfl).trans b11
      exact ex_move rfl e11
    · refine ask_cw hm ⟨231, rfl, rfl, fun _ _ h => h⟩ Tryd.func18 (by kernel_rfl) (by kernel_rfl) rfl (fun l a W H => ?_)
      have e234 : a.eval (.tmp 234) = .pointer (some ⟨gw, 0, none⟩) := H.facts 234 rfl
      simp only [List.map_toArray, List.map_cons, List.map_nil, e234]
      refine (model_any gw g W (hw0.kept H.s (by simp))).mono ?_
      rintro e w' ⟨u, rfl, hu, hg⟩
      exact ⟨_, rfl, fun d h => by cases h; exact hu.v, H.s.trans hg, hg⟩
    · refine ask_cw hm ⟨231, rfl, rfl, fun _ _ h => h⟩ Tryd.func19 (by kernel_rfl) (by kernel_rfl) rfl (fun l a W H => ?_)
      have e233 := H.facts 233 rfl
      have e235 := H.facts 235 rfl
      simp only [List.map_toArray, List.map_cons, List.map_nil, ]
      refine (sameInts_any _ _ (ci (mem g 4096)) W e233 e235 (ci_small g)).mono ?_
      rintro e w' ⟨rfl, hg⟩
      exact ⟨_, rfl, fun d h => by cases h; rfl, H.s.trans hg, hg⟩
    · refine ask_vw hm ⟨231, rfl, rfl, fun _ _ h => h⟩ rfl (fun l a W H => ⟨_, W, ?_, rfl, H.s, gb_refl _ _⟩)
      have e236 : a.eval (.tmp 236) = .bool true := H.facts 236 rfl
      exact ex_not rfl e236 rfl
    · refine ask_vw hm rfl rfl (fun l a W H => ⟨_, W, ?_, rfl, H.s, gb_refl _ _⟩)
      have e231 : a.eval (.tmp 231) = .bool false := H.facts 231 rfl
      have e237 : a.eval (.tmp 237) = .bool false := H.facts 237 rfl
      exact ex_pick0 rfl e231 e237
  · intro l s W hall hS hs
    exact hend s W (hs 238 rfl) ((gb_drew wa none).trans hS)
end Go.Proofs.YtdeebmpmfedjbaaDoor
