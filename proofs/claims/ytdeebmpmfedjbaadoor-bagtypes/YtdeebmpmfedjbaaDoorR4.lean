/- BagTypes: its regions that draw their order. -/
import Derived.Test.YtdeebmpmfedjbaaDoorRw
import Derived.Test.YtdeebmpmfedjbaaDoorM4
import Derived.Test.YtdeebmpmfedjbaaDoorBx
namespace Go.Proofs.YtdeebmpmfedjbaaDoor
open Go Go.RowKit Bag
set_option linter.unusedVariables false
theorem ArgsS.v {B : Nat} {w : World} {v : Value} {xs : List Int} (h : ArgsS B w v xs) : IntsV w v xs := by
  rcases h.2 with ⟨rfl, h0⟩ | ⟨g, cap, cur, rfl, _, hg, hnc, hcm, _, ht⟩
  · have : xs = [] := List.eq_nil_of_length_eq_zero h0
    subst this
    exact SlV.nil
  · refine ⟨_, cap, rfl, hnc, hcm, fun e => by simp at e, fun _ => ⟨g, 0, rfl, fun j hj => ?_⟩⟩
    show w.cell? _ = _
    rw [Nat.zero_add, Nat.mul_one, cell_of_row w g j cur _ _ hg]
    have h1 : (cur.toList.take (xs.length * 1))[j]? = some (Value.int .i64 (xs.getD j 0)) := by
      rw [ht]
      simp [List.getElem?_eq_getElem hj]
    rw [List.getElem?_take, if_pos (by omega)] at h1
    simpa using h1

/-- Two calls turn the world, one behind the other. -/
structure S2 (W0 : World) (PQ PU : World → Prop) (l : Nat → Bool) (W : World) : Prop where
  p0 : l 2 = false → l 15 = false → W = W0
  p1 : l 2 = true → l 15 = false → PQ W
  p2 : l 15 = true → PU W
section
variable {W0 W W' : World} {PQ PU : World → Prop} {l : Nat → Bool} {j : Nat}
theorem S2.skip (h : S2 W0 PQ PU l W) (h2 : 2 ≠ j) (h15 : 15 ≠ j) : S2 W0 PQ PU (upd l j) W :=
  ⟨by rw [upd_ne h2, upd_ne h15]; exact h.p0, by rw [upd_ne h2, upd_ne h15]; exact h.p1, by rw [upd_ne h15]; exact h.p2⟩
theorem S2.next2 (h : S2 W0 PQ PU l W) (n15 : l 15 = false) (q : PQ W') : S2 W0 PQ PU (upd l 2) W' :=
  ⟨fun k => absurd (upd_eq.symm.trans k) (by decide), fun _ _ => q, fun k => absurd (n15.symm.trans ((upd_ne (by decide)).symm.trans k)) (by decide)⟩
theorem S2.next15 (h : S2 W0 PQ PU l W) (q : PU W') : S2 W0 PQ PU (upd l 15) W' :=
  ⟨fun _ k => absurd (upd_eq.symm.trans k) (by decide), fun _ k => absurd (upd_eq.symm.trans k) (by decide), fun _ => q⟩
theorem S2.init : S2 W0 PQ PU (fun _ => false) W0 := ⟨fun _ _ => rfl, fun k => absurd k (by decide), fun k => absurd k (by decide)⟩
theorem S2.any (h : S2 W0 PQ PU l W) : W = W0 ∨ PQ W ∨ PU W := by
  cases e : l 15
  · cases e2 : l 2
    · exact .inl (h.p0 e2 e)
    · exact .inr (.inl (h.p1 e2 e))
  · exact .inr (.inr (h.p2 e))
end
section
variable {ρ : Operand → Value} {o : Oper} {w w' : World}
theorem ex_build60 {x : Operand} {k : ByteArray} (ho : o.op = .build 60 #[(0, x), (1, .const (.string ⟨#[120]⟩))]) (hx : ρ x = .string k) (hc : ρ (.const (.string ⟨#[120]⟩)) = .string ⟨#[120]⟩) : (execOp ρ o).run Tryd.prog w = .ok (.value (.agg #[.string k, .string pv.kx2])) w := by
  unfold execOp
  simp only [ho, List.map_toArray, List.map_cons, List.map_nil, hx, hc]
  go_simp
  rfl
theorem ex_len45 {xs : Array Operand} {ao : Option Addr} {n c : Nat} (ho : o.op = .call { callee := .builtin .len, args := xs, argTypes := #[45] }) (hx : xs.map ρ = #[.slice ao n c]) : (execOp ρ o).run Tryd.prog w = .ok (.value (.int .i64 (n : Nat))) w := by
  unfold execOp
  simp only [ho]
  go_simp
theorem ex_minj {xs : Array Operand} {i n j : Nat} (ho : o.op = .call { callee := .builtin .min, args := xs, argTypes := #[3, 3] }) (ht : o.type = 3) (hx : xs.map ρ = #[.int .i64 (i : Nat), .int .i64 (n : Nat)]) (h : (j : Int) = if (i : Int) ≤ (n : Int) then (i : Int) else (n : Int)) : (execOp ρ o).run Tryd.prog w = .ok (.value (.int .i64 (j : Nat))) w := by
  rw [h]
  unfold execOp
  simp only [ho, ht]
  by_cases hle : (i : Int) ≤ (n : Int)
  · rw [if_pos hle]
    go_simp
    omega
  · rw [if_neg hle]
    go_simp
    omega
theorem ex_slice {t : TypeId} {x y : Operand} {vx vy v : Value} (ho : o.op = .slice t x none (some y) none) (hx : ρ x = vx) (hy : ρ y = vy) (h : (Instr.sliceAt t vx none (some vy) none).run Tryd.prog w = .ok v w) : (execOp ρ o).run Tryd.prog w = .ok (.value v) w := by
  unfold execOp
  simp only [ho, hx, hy, Option.map, Sem.run_bind, h, Result.andThen_ok, Sem.run_pure]
end
def ops_t21 : Array Oper := #[⟨some 52, .move (.tmp 13), 9, "law.go:147", #[], none⟩, ⟨some 53, .build 60 #[(0, .tmp 52), (1, .const (Value.string { data := #[120] }))], 60, "law.go:147", #[⟨0, .data⟩], none⟩, ⟨some 54, .call { callee := Callee.value (Operand.func 25), args := #[.tmp 7, .tmp 53], argTypes := #[51, 60] }, 4, "law.go:147", #[⟨1, .data⟩], none⟩, ⟨some 55, .move (.tmp 11), 58, "law.go:147", #[], none⟩, ⟨some 56, .move (.tmp 13), 9, "law.go:147", #[], none⟩, ⟨some 57, .lookup 58 (.tmp 55) (.tmp 56) false, 4, "law.go:147", #[⟨3, .data⟩, ⟨4, .data⟩], none⟩, ⟨some 58, .binOp .eql 4 (.tmp 54) (.tmp 57) 4, 4, "law.go:147", #[⟨2, .data⟩, ⟨5, .data⟩], none⟩, ⟨some 59, .move (.tmp 58), 4, "law.go:147", #[⟨6, .data⟩, ⟨2, .chain⟩], none⟩, ⟨some 60, .move (.tmp 13), 9, "law.go:147", #[⟨7, .guard⟩], some (7, false)⟩, ⟨some 61, .move (.tmp 0), 45, "law.go:147", #[⟨7, .guard⟩], some (7, false)⟩, ⟨some 62, .move (.tmp 12), 3, "law.go:147", #[⟨7, .guard⟩], some (7, false)⟩, ⟨some 63, .move (.tmp 0), 45, "law.go:147", #[⟨7, .guard⟩], some (7, false)⟩, ⟨some 64, .call { callee := Callee.builtin Builtin.len, args := #[.tmp 63], argTypes := #[45] }, 3, "law.go:147", #[⟨11, .data⟩, ⟨7, .guard⟩], some (7, false)⟩, ⟨some 65, .call { callee := Callee.builtin Builtin.min, args := #[.tmp 62, .tmp 64], argTypes := #[3, 3] }, 3, "law.go:147", #[⟨10, .data⟩, ⟨12, .data⟩, ⟨7, .guard⟩], some (7, false)⟩, ⟨some 66, .slice 45 (.tmp 61) none (some (.tmp 65)) none, 45, "law.go:147", #[⟨9, .data⟩, ⟨13, .data⟩, ⟨7, .guard⟩], some (7, false)⟩, ⟨some 67, .call { callee := Callee.value (Operand.func 26), args := #[.tmp 8, .tmp 60, .tmp 66], argTypes := #[54, 9, 45] }, 4, "law.go:147", #[⟨8, .data⟩, ⟨14, .data⟩, ⟨7, .chain⟩, ⟨7, .guard⟩], some (7, false)⟩, ⟨some 68, .move (.tmp 11), 58, "law.go:147", #[⟨7, .guard⟩], some (7, false)⟩, ⟨some 69, .move (.tmp 13), 9, "law.go:147", #[⟨7, .guard⟩], some (7, false)⟩, ⟨some 70, .lookup 58 (.tmp 68) (.tmp 69) false, 4, "law.go:147", #[⟨16, .data⟩, ⟨17, .data⟩, ⟨7, .guard⟩], some (7, false)⟩, ⟨some 71, .binOp .eql 4 (.tmp 67) (.tmp 70) 4, 4, "law.go:147", #[⟨15, .data⟩, ⟨18, .data⟩, ⟨7, .guard⟩], some (7, false)⟩, ⟨some 72, .pick (.tmp 59) (.const (.bool true)) (.tmp 71), 4, "law.go:147", #[⟨7, .data⟩, ⟨19, .data⟩], none⟩]
def G_t21 (gq gu mm : Nat) (k : ByteArray) (ao : Option Addr) (n c i j : Nat) (sv : Value) (hb : Bool) : Tmp → Value → Prop
  | 52, xx => xx = .string k
  | 53, xx => xx = .agg #[.string k, .string pv.kx2]
  | 54, xx => xx = .bool (!hb)
  | 55, xx => xx = .map (some mm)
  | 56, xx => xx = .string k
  | 57, xx => xx = .bool hb
  | 58, xx => xx = .bool false
  | 59, xx => xx = .bool false
  | 60, xx => xx = .string k
  | 61, xx => xx = .slice ao n c
  | 62, xx => xx = .int .i64 (i : Nat)
  | 63, xx => xx = .slice ao n c
  | 64, xx => xx = .int .i64 (n : Nat)
  | 65, xx => xx = .int .i64 (j : Nat)
  | 66, xx => xx = sv
  | 67, xx => xx = .bool (!hb)
  | 68, xx => xx = .map (some mm)
  | 69, xx => xx = .string k
  | 70, xx => xx = .bool hb
  | 71, xx => xx = .bool false
  | 72, xx => xx = .bool false
  | _, _ => True
set_option maxHeartbeats 4000000 in
set_option maxRecDepth 100000 in
theorem t21 {Q : Exit → Act → World → Prop} {a0 : Act} {wa : World} (gq gu mm : Nat) (k : ByteArray) (ao : Option Addr) (n c i j : Nat) (sv : Value) (hb : Bool) (hz : a0.tmps.size = 113) (b0 : a0.eval (.tmp 0) = .slice ao n c) (b7 : a0.eval (.tmp 7) = .pointer (some ⟨gq, 0, none⟩)) (b8 : a0.eval (.tmp 8) = .pointer (some ⟨gu, 0, none⟩)) (b11 : a0.eval (.tmp 11) = .map (some mm)) (b12 : a0.eval (.tmp 12) = .int .i64 (i : Nat)) (b13 : a0.eval (.tmp 13) = .string k) (PQ PU : World → Prop) (hj : (j : Int) = if (i : Int) ≤ (n : Int) then (i : Int) else (n : Int)) (hsl : ∀ W, (Instr.sliceAt 45 (.slice ao n c) none (some (.int .i64 (j : Nat))) none).run Tryd.prog W = .ok sv W) (hlook : ∀ W, (W = wa.drew ∨ PQ W ∨ PU W) → (Instr.lookup 58 (.map (some mm)) (.string k) false).run Tryd.prog W = .ok (.bool hb) W)
    (hq : Calls Tryd.prog 25 #[.pointer (some ⟨gq, 0, none⟩), .agg #[.string k, .string pv.kx2]] wa.drew fun e w' => e = .returned (.bool (!hb)) ∧ PQ w') (hu : ∀ W, PQ W → Calls Tryd.prog 26 #[.pointer (some ⟨gu, 0, none⟩), .string k, sv] W fun e w' => e = .returned (.bool (!hb)) ∧ PU w')
    (hend : ∀ (s : Tmp → Value) (W : World), s 72 = .bool false → PU W → Q .normal (overlay a0 (dstsOf ops_t21) s) W) : (Code.region 21 ops_t21 true).wp Tryd.prog Q a0 wa := by
  refine L.wp_region_eachL (by kernel_rfl) (fun _ t v _ => G_t21 gq gu mm k ao n c i j sv hb t v) (fun l W => S2 wa.drew PQ PU l W) (by rw [hz]; kernel_rfl) (S2.init) ?_ ?_
  · refine And.intro ?_ (And.intro ?_ (And.intro ?_ (And.intro ?_ (And.intro ?_ (And.intro ?_ (And.intro ?_ (And.intro ?_ (And.intro ?_ (And.intro ?_ (And.intro ?_ (And.intro ?_ (And.intro ?_ (And.intro ?_ (And.intro ?_ (And.intro ?_ (And.intro ?_ (And.intro ?_ (And.intro ?_ (And.intro ?_ (And.intro ?_ trivial))))))))))))))))))))
    · refine ask_v rfl rfl (fun l a W H => ⟨_, W, ?_, rfl, H.s.skip (by decide) (by decide)⟩)
      have e13 : a.eval (.tmp 13) = .string k := (H.base 13 rfl).trans b13
      exact ex_move rfl e13
    · refine ask_v rfl rfl (fun l a W H => ⟨_, W, ?_, rfl, H.s.skip (by decide) (by decide)⟩)
      have e52 : a.eval (.tmp 52) = .string k := H.facts 52 rfl
      exact ex_build60 rfl e52 rfl
    · refine ask_c rfl Tryd.func25 (by kernel_rfl) (by kernel_rfl) rfl (fun l a W H => ?_)
      have e7 : a.eval (.tmp 7) = .pointer (some ⟨gq, 0, none⟩) := (H.base 7 rfl).trans b7
      have e53 : a.eval (.tmp 53) = .agg #[.string k, .string pv.kx2] := H.facts 53 rfl
      have n2 : l 2 = false := H.new
      have n15 : l 15 = false := Bool.eq_false_iff.2 fun hs => absurd (H.new.symm.trans (H.closed 7 2 (by rfl) (H.closed 15 7 (by rfl) hs))) (by decide)
      obtain rfl := H.s.p0 n2 n15
      simp only [List.map_toArray, List.map_cons, List.map_nil, e7, e53]
      refine (hq).mono ?_
      rintro e w' ⟨rfl, h1⟩
      exact ⟨_, rfl, fun d h => by cases h; rfl, H.s.next2 n15 h1⟩
    · refine ask_v rfl rfl (fun l a W H => ⟨_, W, ?_, rfl, H.s.skip (by decide) (by decide)⟩)
      have e11 : a.eval (.tmp 11) = .map (some mm) := (H.base 11 rfl).trans b11
      exact ex_move rfl e11
    · refine ask_v rfl rfl (fun l a W H => ⟨_, W, ?_, rfl, H.s.skip (by decide) (by decide)⟩)
      have e13 : a.eval (.tmp 13) = .string k := (H.base 13 rfl).trans b13
      exact ex_move rfl e13
    · refine ask_v rfl rfl (fun l a W H => ⟨_, W, ?_, rfl, H.s.skip (by decide) (by decide)⟩)
      have e55 : a.eval (.tmp 55) = .map (some mm) := H.facts 55 rfl
      have e56 : a.eval (.tmp 56) = .string k := H.facts 56 rfl
      exact ex_lookup rfl e55 e56 (hlook W H.s.any)
    · refine ask_v rfl rfl (fun l a W H => ⟨_, W, ?_, rfl, H.s.skip (by decide) (by decide)⟩)
      have e54 : a.eval (.tmp 54) = .bool (!hb) := H.facts 54 rfl
      have e57 : a.eval (.tmp 57) = .bool hb := H.facts 57 rfl
      exact ex_eqb rfl e54 e57 (by cases hb <;> rfl)
    · refine ask_v rfl rfl (fun l a W H => ⟨_, W, ?_, rfl, H.s.skip (by decide) (by decide)⟩)
      have e58 : a.eval (.tmp 58) = .bool false := H.facts 58 rfl
      exact ex_move rfl e58
    · refine ask_v ⟨59, rfl, rfl, fun _ h => h⟩ rfl (fun l a W H => ⟨_, W, ?_, rfl, H.s.skip (by decide) (by decide)⟩)
      have e13 : a.eval (.tmp 13) = .string k := (H.base 13 rfl).trans b13
      exact ex_move rfl e13
    · refine ask_v ⟨59, rfl, rfl, fun _ h => h⟩ rfl (fun l a W H => ⟨_, W, ?_, rfl, H.s.skip (by decide) (by decide)⟩)
      have e0 : a.eval (.tmp 0) = .slice ao n c := (H.base 0 rfl).trans b0
      exact ex_move rfl e0
    · refine ask_v ⟨59, rfl, rfl, fun _ h => h⟩ rfl (fun l a W H => ⟨_, W, ?_, rfl, H.s.skip (by decide) (by decide)⟩)
      have e12 : a.eval (.tmp 12) = .int .i64 (i : Nat) := (H.base 12 rfl).trans b12
      exact ex_move rfl e12
    · refine ask_v ⟨59, rfl, rfl, fun _ h => h⟩ rfl (fun l a W H => ⟨_, W, ?_, rfl, H.s.skip (by decide) (by decide)⟩)
      have e0 : a.eval (.tmp 0) = .slice ao n c := (H.base 0 rfl).trans b0
      exact ex_move rfl e0
    · refine ask_v ⟨59, rfl, rfl, fun _ h => h⟩ rfl (fun l a W H => ⟨_, W, ?_, rfl, H.s.skip (by decide) (by decide)⟩)
      have e63 : a.eval (.tmp 63) = .slice ao n c := H.facts 63 rfl
      have ea : (#[.tmp 63] : Array Operand).map a.eval = #[.slice ao n c] := by simp [e63]
      exact ex_len45 rfl ea
    · refine ask_v ⟨59, rfl, rfl, fun _ h => h⟩ rfl (fun l a W H => ⟨_, W, ?_, rfl, H.s.skip (by decide) (by decide)⟩)
      have e62 : a.eval (.tmp 62) = .int .i64 (i : Nat) := H.facts 62 rfl
      have e64 : a.eval (.tmp 64) = .int .i64 (n : Nat) := H.facts 64 rfl
      have ea : (#[.tmp 62, .tmp 64] : Array Operand).map a.eval = #[.int .i64 (i : Nat), .int .i64 (n : Nat)] := by simp [e62, e64]
      exact ex_minj rfl rfl ea hj
    · refine ask_v ⟨59, rfl, rfl, fun _ h => h⟩ rfl (fun l a W H => ⟨_, W, ?_, rfl, H.s.skip (by decide) (by decide)⟩)
      have e61 : a.eval (.tmp 61) = .slice ao n c := H.facts 61 rfl
      have e65 : a.eval (.tmp 65) = .int .i64 (j : Nat) := H.facts 65 rfl
      exact ex_slice rfl e61 e65 (hsl W)
    · refine ask_c ⟨59, rfl, rfl, fun _ h => h⟩ Tryd.func26 (by kernel_rfl) (by kernel_rfl) rfl (fun l a W H => ?_)
      have e8 : a.eval (.tmp 8) = .pointer (some ⟨gu, 0, none⟩) := (H.base 8 rfl).trans b8
      have e60 : a.eval (.tmp 60) = .string k := H.facts 60 rfl
      have e66 : a.eval (.tmp 66) = sv := H.facts 66 rfl
      have y2 : l 2 = true := (H.closed 7 2 (by rfl) (H.deps ⟨7, .chain⟩ (by simp) rfl))
      have n15 : l 15 = false := H.new
      simp only [List.map_toArray, List.map_cons, List.map_nil, e8, e60, e66]
      refine (hu W (H.s.p1 y2 n15)).mono ?_
      rintro e w' ⟨rfl, h1⟩
      exact ⟨_, rfl, fun d h => by cases h; rfl, H.s.next15 h1⟩
    · refine ask_v ⟨59, rfl, rfl, fun _ h => h⟩ rfl (fun l a W H => ⟨_, W, ?_, rfl, H.s.skip (by decide) (by decide)⟩)
      have e11 : a.eval (.tmp 11) = .map (some mm) := (H.base 11 rfl).trans b11
      exact ex_move rfl e11
    · refine ask_v ⟨59, rfl, rfl, fun _ h => h⟩ rfl (fun l a W H => ⟨_, W, ?_, rfl, H.s.skip (by decide) (by decide)⟩)
      have e13 : a.eval (.tmp 13) = .string k := (H.base 13 rfl).trans b13
      exact ex_move rfl e13
    · refine ask_v ⟨59, rfl, rfl, fun _ h => h⟩ rfl (fun l a W H => ⟨_, W, ?_, rfl, H.s.skip (by decide) (by decide)⟩)
      have e68 : a.eval (.tmp 68) = .map (some mm) := H.facts 68 rfl
      have e69 : a.eval (.tmp 69) = .string k := H.facts 69 rfl
      exact ex_lookup rfl e68 e69 (hlook W H.s.any)
    · refine ask_v ⟨59, rfl, rfl, fun _ h => h⟩ rfl (fun l a W H => ⟨_, W, ?_, rfl, H.s.skip (by decide) (by decide)⟩)
      have e67 : a.eval (.tmp 67) = .bool (!hb) := H.facts 67 rfl
      have e70 : a.eval (.tmp 70) = .bool hb := H.facts 70 rfl
      exact ex_eqb rfl e67 e70 (by cases hb <;> rfl)
    · refine ask_v rfl rfl (fun l a W H => ⟨_, W, ?_, rfl, H.s.skip (by decide) (by decide)⟩)
      have e59 : a.eval (.tmp 59) = .bool false := H.facts 59 rfl
      have e71 : a.eval (.tmp 71) = .bool false := H.facts 71 rfl
      exact ex_pick0 rfl e59 e71
  · intro l s W hall hS hs
    exact hend s W (hs 72 rfl) (hS.p2 (hall 15 (by decide)))

def ops_t25 : Array Oper := #[⟨some 76, .load 47 (.tmp 5), 47, "law.go:152", #[], none⟩, ⟨some 77, .call { callee := Callee.value (Operand.func 27), args := #[.tmp 76], argTypes := #[47] }, 62, "law.go:152", #[⟨0, .data⟩], none⟩, ⟨some 78, .load 27 (.tmp 6), 27, "law.go:152", #[], none⟩, ⟨some 79, .call { callee := Callee.value (Operand.func 20), args := #[.tmp 78], argTypes := #[27] }, 31, "law.go:152", #[⟨2, .data⟩, ⟨1, .chain⟩], none⟩, ⟨some 14, .assign (.tmp 77), 62, "law.go:152", #[⟨1, .data⟩, ⟨3, .chain⟩, ⟨0, .phase⟩, ⟨1, .phase⟩, { on := 2, ground := Ground.textOnly Departure.lateStores }, { on := 3, ground := Ground.textOnly Departure.lateStoresUnsure }], none⟩, ⟨some 15, .assign (.tmp 79), 31, "law.go:152", #[⟨3, .data⟩, ⟨4, .chain⟩, ⟨0, .phase⟩, ⟨1, .phase⟩, ⟨2, .phase⟩, ⟨3, .phase⟩, ⟨4, .phase⟩], none⟩]
def G_t25 (gs gt : Nat) (f : Nat → Bool) : Tmp → Value → World → Prop
  | 76, xx, ww => SetV xx f
  | 77, xx, ww => IntsV ww xx (ci (mem f 4096))
  | 78, xx, ww => SetV xx f
  | 79, xx, ww => IntsV ww xx (ci (mem f 4096))
  | 14, xx, ww => IntsV ww xx (ci (mem f 4096))
  | 15, xx, ww => IntsV ww xx (ci (mem f 4096))
  | _, _, _ => True
theorem hm_t25 (gs gt : Nat) (f : Nat → Bool) : ∀ d u w w', World.grownBy w w' none → G_t25 gs gt f d u w → G_t25 gs gt f d u w' := by
  intro d u w w' hg h
  unfold G_t25 at h ⊢
  split at h
  all_goals first | exact h | exact IntsV.below h (gb_to hg)
set_option maxHeartbeats 4000000 in
set_option maxRecDepth 100000 in
theorem t25 {Q : Exit → Act → World → Prop} {a0 : Act} {wa : World} (gs gt : Nat) (f : Nat → Bool) (hz : a0.tmps.size = 113) (b5 : a0.eval (.tmp 5) = .pointer (some ⟨gs, 0, none⟩)) (b6 : a0.eval (.tmp 6) = .pointer (some ⟨gt, 0, none⟩)) (hT : Tab wa) (hs : SetAt wa gs f) (ht : SetAt wa gt f)
    (hend : ∀ (s : Tmp → Value) (W : World), IntsV W (s 14) (ci (mem f 4096)) → IntsV W (s 15) (ci (mem f 4096)) → wa.grownBy W none → Q .normal (overlay a0 (dstsOf ops_t25) s) W) : (Code.region 25 ops_t25 true).wp Tryd.prog Q a0 wa := by
  have hm := hm_t25 gs gt f
  refine L.wp_region_eachL (by kernel_rfl) (fun _ t v w => G_t25 gs gt f t v w) (fun _ W => wa.drew.grownBy W none) (by rw [hz]; kernel_rfl) (gb_refl _ _) ?_ ?_
  · refine And.intro ?_ (And.intro ?_ (And.intro ?_ (And.intro ?_ (And.intro ?_ (And.intro ?_ trivial)))))
    · refine ask_vw hm rfl rfl (fun l a W H => ?_)
      have e5 : a.eval (.tmp 5) = .pointer (some ⟨gs, 0, none⟩) := (H.base 5 rfl).trans b5
      obtain ⟨cs, t, hc, hC⟩ := hs.drew.kept H.s (by simp)
      exact ⟨.agg cs, W, ex_load rfl e5 hc Tryd.underlying47 rfl (by rw [hC.1]; exact info47), ⟨cs, rfl, hC⟩, H.s, gb_refl _ _⟩
    · refine ask_cw hm rfl Tryd.func27 (by kernel_rfl) (by kernel_rfl) rfl (fun l a W H => ?_)
      have e76 := H.facts 76 rfl
      simp only [List.map_toArray, List.map_cons, List.map_nil, ]
      refine (allS_any _ f W e76 (Tab.gb (W := wa.drew) hT H.s (by simp))).mono ?_
      rintro e w' ⟨u, rfl, hu, hg⟩
      exact ⟨_, rfl, fun d h => by cases h; exact hu.v, H.s.trans hg, hg⟩
    · refine ask_vw hm rfl rfl (fun l a W H => ?_)
      have e6 : a.eval (.tmp 6) = .pointer (some ⟨gt, 0, none⟩) := (H.base 6 rfl).trans b6
      obtain ⟨cs, t, hc, hC⟩ := ht.drew.kept H.s (by simp)
      exact ⟨.agg cs, W, ex_load rfl e6 hc Tryd.underlying27 rfl (by rw [hC.1]; exact info27), ⟨cs, rfl, hC⟩, H.s, gb_refl _ _⟩
    · refine ask_cw hm rfl Tryd.func20 (by kernel_rfl) (by kernel_rfl) rfl (fun l a W H => ?_)
      have e78 := H.facts 78 rfl
      simp only [List.map_toArray, List.map_cons, List.map_nil, ]
      refine (all_any _ f W e78 (Tab.gb (W := wa.drew) hT H.s (by simp))).mono ?_
      rintro e w' ⟨u, rfl, hu, hg⟩
      exact ⟨_, rfl, fun d h => by cases h; exact hu.v, H.s.trans hg, hg⟩
    · refine ask_vw hm rfl rfl (fun l a W H => ?_)
      have e77 := H.facts 77 rfl
      exact ⟨_, W, ex_assign rfl rfl, e77, H.s, gb_refl _ _⟩
    · refine ask_vw hm rfl rfl (fun l a W H => ?_)
      have e79 := H.facts 79 rfl
      exact ⟨_, W, ex_assign rfl rfl, e79, H.s, gb_refl _ _⟩
  · intro l s W hall hS hs0
    exact hend s W (hs0 14 rfl) (hs0 15 rfl) ((gb_drew wa none).trans hS)
end Go.Proofs.YtdeebmpmfedjbaaDoor
