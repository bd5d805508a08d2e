/- BagSets: the tail of a round. -/
import Derived.Test.YtdeebmpmfedjbaaDoorSx
import Derived.Test.YtdeebmpmfedjbaaDoorR50
import Derived.Deep.Cut
import Derived.Deep.CutBlock
import Derived.Deep.DeepCutAuto
namespace Go.Proofs.YtdeebmpmfedjbaaDoor
open Go Go.RowKit Bag
set_option linter.unusedVariables false
def tailC : Code := ((Code.region 49 #[⟨some 184, .move (.tmp 4), 28, "law.go:114", #[], none⟩, ⟨some 185, .call { callee := Callee.value (Operand.func 18), args := #[.tmp 184], argTypes := #[28] }, 31, "law.go:114", #[⟨0, .data⟩], none⟩, ⟨some 18, .assign (.tmp 185), 31, "law.go:114", #[⟨1, .data⟩, ⟨1, .chain⟩, ⟨0, .phase⟩, ⟨1, .phase⟩], none⟩] false).seq ((Code.region 50 #[⟨some 186, .move (.tmp 12), 4, "law.go:115", #[], none⟩, ⟨some 187, .unOp .not 4 (.tmp 186), 4, "law.go:115", #[⟨0, .data⟩], none⟩, ⟨some 188, .move (.tmp 187), 4, "law.go:115", #[⟨1, .data⟩], none⟩, ⟨some 189, .load 27 (.tmp 3), 27, "law.go:115", #[⟨2, .guard⟩], some (2, false)⟩, ⟨some 190, .call { callee := Callee.value (Operand.func 20), args := #[.tmp 189], argTypes := #[27] }, 31, "law.go:115", #[⟨3, .data⟩, ⟨2, .chain⟩, ⟨2, .guard⟩], some (2, false)⟩, ⟨some 191, .move (.tmp 18), 31, "law.go:115", #[⟨2, .guard⟩], some (2, false)⟩, ⟨some 192, .call { callee := Callee.value (Operand.func 19), args := #[.tmp 190, .tmp 191], argTypes := #[31, 31] }, 4, "law.go:115", #[⟨4, .data⟩, ⟨5, .data⟩, ⟨4, .chain⟩, ⟨2, .guard⟩], some (2, false)⟩, ⟨some 193, .unOp .not 4 (.tmp 192), 4, "law.go:115", #[⟨6, .data⟩, ⟨2, .guard⟩], some (2, false)⟩, ⟨some 194, .pick (.tmp 188) (.const (.bool true)) (.tmp 193), 4, "law.go:115", #[⟨2, .data⟩, ⟨7, .data⟩], none⟩, ⟨some 195, .move (.tmp 194), 4, "law.go:115", #[⟨8, .data⟩, ⟨6, .chain⟩], none⟩, ⟨some 196, .load 27 (.tmp 3), 27, "law.go:115", #[⟨9, .guard⟩], some (9, false)⟩, ⟨some 197, .call { callee := Callee.value (Operand.func 21), args := #[.tmp 196], argTypes := #[27] }, 3, "law.go:115", #[⟨10, .data⟩, ⟨9, .chain⟩, ⟨9, .guard⟩], some (9, false)⟩, ⟨some 198, .move (.tmp 18), 31, "law.go:115", #[⟨9, .guard⟩], some (9, false)⟩, ⟨some 199, .call { callee := Callee.builtin Builtin.len, args := #[.tmp 198], argTypes := #[31] }, 3, "law.go:115", #[⟨12, .data⟩, ⟨9, .guard⟩], some (9, false)⟩, ⟨some 200, .binOp .neq 3 (.tmp 197) (.tmp 199) 3, 4, "law.go:115", #[⟨11, .data⟩, ⟨13, .data⟩, ⟨9, .guard⟩], some (9, false)⟩, ⟨some 201, .pick (.tmp 195) (.const (.bool true)) (.tmp 200), 4, "law.go:115", #[⟨9, .data⟩, ⟨14, .data⟩], none⟩, ⟨some 202, .move (.tmp 201), 4, "law.go:115", #[⟨15, .data⟩, ⟨11, .chain⟩], none⟩, ⟨some 203, .load 27 (.tmp 3), 27, "law.go:115", #[⟨16, .guard⟩], some (16, false)⟩, ⟨some 204, .move (.tmp 7), 3, "law.go:115", #[⟨16, .guard⟩], some (16, false)⟩, ⟨some 205, .call { callee := Callee.value (Operand.func 22), args := #[.tmp 203, .tmp 204], argTypes := #[27, 3] }, 4, "law.go:115", #[⟨17, .data⟩, ⟨18, .data⟩, ⟨16, .chain⟩, ⟨16, .guard⟩], some (16, false)⟩, ⟨some 206, .move (.tmp 8), 4, "law.go:115", #[⟨16, .guard⟩], some (16, false)⟩, ⟨some 207, .move (.tmp 206), 4, "law.go:115", #[⟨20, .data⟩, ⟨19, .chain⟩, ⟨16, .guard⟩], some (16, false)⟩, ⟨some 208, .move (.tmp 4), 28, "law.go:115", #[⟨21, .guard⟩], some (21, true)⟩, ⟨some 209, .move (.tmp 7), 3, "law.go:115", #[⟨21, .guard⟩], some (21, true)⟩, ⟨some 210, .call { callee := Callee.builtin Builtin.min, args := #[.tmp 209, .const (.int .i64 4095)], argTypes := #[3, 3] }, 3, "law.go:115", #[⟨23, .data⟩, ⟨21, .guard⟩], some (21, true)⟩, ⟨some 211, .call { callee := Callee.builtin Builtin.max, args := #[.const (.int .i64 0), .tmp 210], argTypes := #[3, 3] }, 3, "law.go:115", #[⟨24, .data⟩, ⟨21, .guard⟩], some (21, true)⟩, ⟨some 212, .nilCheck (.tmp 208), 0, "law.go:115", #[⟨22, .data⟩, ⟨21, .guard⟩], some (21, true)⟩, ⟨some 213, .indexAddr 30 (.tmp 212) (.tmp 211), 0, "law.go:115", #[⟨26, .data⟩, ⟨25, .data⟩, ⟨21, .guard⟩], some (21, true)⟩, ⟨some 214, .load 4 (.tmp 213), 4, "law.go:115", #[⟨27, .data⟩, ⟨21, .guard⟩], some (21, true)⟩, ⟨some 215, .pick (.tmp 207) (.tmp 214) (.const (.bool false)), 4, "law.go:115", #[⟨21, .data⟩, ⟨28, .data⟩, ⟨16, .guard⟩], some (16, false)⟩, ⟨some 216, .binOp .neq 4 (.tmp 205) (.tmp 215) 4, 4, "law.go:115", #[⟨19, .data⟩, ⟨29, .data⟩, ⟨16, .guard⟩], some (16, false)⟩, ⟨some 217, .pick (.tmp 202) (.const (.bool true)) (.tmp 216), 4, "law.go:115", #[⟨16, .data⟩, ⟨30, .data⟩], none⟩, ⟨some 218, .move (.tmp 217), 4, "law.go:115", #[⟨31, .data⟩, ⟨21, .chain⟩], none⟩, ⟨some 219, .load 27 (.tmp 3), 27, "law.go:115", #[⟨32, .guard⟩], some (32, false)⟩, ⟨some 220, .load 27 (.tmp 10), 27, "law.go:115", #[⟨32, .guard⟩], some (32, false)⟩, ⟨some 221, .call { callee := Callee.value (Operand.func 23), args := #[.tmp 219, .tmp 220], argTypes := #[27, 27] }, 4, "law.go:115", #[⟨33, .data⟩, ⟨34, .data⟩, ⟨32, .chain⟩, ⟨32, .guard⟩], some (32, false)⟩, ⟨some 222, .move (.tmp 4), 28, "law.go:115", #[⟨32, .guard⟩], some (32, false)⟩, ⟨some 223, .nilCheck (.tmp 222), 0, "law.go:115", #[⟨36, .data⟩, ⟨32, .guard⟩], some (32, false)⟩, ⟨some 224, .load 30 (.tmp 223), 30, "law.go:115", #[⟨37, .data⟩, ⟨32, .guard⟩], some (32, false)⟩, ⟨some 225, .move (.tmp 11), 28, "law.go:115", #[⟨32, .guard⟩], some (32, false)⟩, ⟨some 226, .nilCheck (.tmp 225), 0, "law.go:115", #[⟨39, .data⟩, ⟨32, .guard⟩], some (32, false)⟩, ⟨some 227, .load 30 (.tmp 226), 30, "law.go:115", #[⟨40, .data⟩, ⟨32, .guard⟩], some (32, false)⟩, ⟨some 228, .binOp .eql 30 (.tmp 224) (.tmp 227) 30, 4, "law.go:115", #[⟨38, .data⟩, ⟨41, .data⟩, ⟨32, .guard⟩], some (32, false)⟩, ⟨some 229, .binOp .neq 4 (.tmp 221) (.tmp 228) 4, 4, "law.go:115", #[⟨35, .data⟩, ⟨42, .data⟩, ⟨32, .guard⟩], some (32, false)⟩, ⟨some 230, .pick (.tmp 218) (.const (.bool true)) (.tmp 229), 4, "law.go:115", #[⟨32, .data⟩, ⟨43, .data⟩], none⟩, ⟨some 231, .move (.tmp 230), 4, "law.go:115", #[⟨44, .data⟩, ⟨35, .chain⟩], none⟩, ⟨some 232, .load 27 (.tmp 10), 27, "law.go:115", #[⟨45, .guard⟩], some (45, false)⟩, ⟨some 233, .call { callee := Callee.value (Operand.func 20), args := #[.tmp 232], argTypes := #[27] }, 31, "law.go:115", #[⟨46, .data⟩, ⟨45, .chain⟩, ⟨45, .guard⟩], some (45, false)⟩, ⟨some 234, .move (.tmp 11), 28, "law.go:115", #[⟨45, .guard⟩], some (45, false)⟩, ⟨some 235, .call { callee := Callee.value (Operand.func 18), args := #[.tmp 234], argTypes := #[28] }, 31, "law.go:115", #[⟨48, .data⟩, ⟨47, .chain⟩, ⟨45, .guard⟩], some (45, false)⟩, ⟨some 236, .call { callee := Callee.value (Operand.func 19), args := #[.tmp 233, .tmp 235], argTypes := #[31, 31] }, 4, "law.go:115", #[⟨47, .data⟩, ⟨49, .data⟩, ⟨49, .chain⟩, ⟨45, .guard⟩], some (45, false)⟩, ⟨some 237, .unOp .not 4 (.tmp 236), 4, "law.go:115", #[⟨50, .data⟩, ⟨45, .guard⟩], some (45, false)⟩, ⟨some 238, .pick (.tmp 231) (.const (.bool true)) (.tmp 237), 4, "law.go:115", #[⟨45, .data⟩, ⟨51, .data⟩], none⟩] true).seq (Code.cond (.tmp 238) ((Code.region 51 #[⟨some 2, .assign (.const (.bool false)), 4, "law.go:116", #[], none⟩] false).seq Code.ret) Code.skip)))
set_option maxHeartbeats 16000000 in
set_option maxRecDepth 100000 in
theorem tail_in {Q : Exit → Act → World → Prop} {a : Act} {w w0 : World} {u0 u1 u2 u9 u13 u19 u20 u21 u22 u23 u24 u25 u60 : Value} {gs gm go gw B : Nat} {g : Nat → Bool} {y : Int} (hb8 : inS y = true) (hT : Tab w) (hB : BSt gs gm go gw g B w0 w) (hBw : B ≤ w.heap.size) (hA : ActS u0 u1 u2 (P0 gs) (P0 gm) (.int .i64 y) (.bool true) u9 (P0 go) (P0 gw) (.bool true) u13 u19 u20 u21 u22 u23 u24 u25 u60 a)
    (hgo : ∀ (a' : Act) (W : World) (r9 r13 r60 : Value), ActS u0 u1 u2 (P0 gs) (P0 gm) (.int .i64 y) (.bool true) r9 (P0 go) (P0 gw) (.bool true) r13 u19 u20 u21 u22 u23 u24 u25 r60 a' → BSt gs gm go gw g B w0 W → Q .normal a' W) : tailC.wp Tryd.prog Q a w := by
  obtain ⟨ρ, rfl⟩ := hA.lit
  clear hA
  obtain ⟨f', q1, q2, q3, q4, q5⟩ := hB
  have HT := hide hT
  have HGO := hide hgo
  have R1 := hide q1
  have R2 := hide q2
  have R3 := hide q3
  have R4 := hide q4
  have R5 := hide q5
  have hBw := hide hBw
  clear q1 q2 q3 q4 q5 hT hgo
  have hy := inS_dec hb8
  obtain ⟨n, rfl⟩ : ∃ n : Nat, y = (n : Int) := ⟨y.toNat, by omega⟩
  have hn : n < 4096 := by omega
  have HH := hide (show isIn f' (n : Int) = f' n by unfold isIn; rw [inS_nat hn]; rfl)
  have HN := hide hn
  clear hn hy hb8
  unfold tailC
  simp only [P0]
  go_upto_region 50 with (go_at_call 18; refine (model_any gm f' _ R2.out).mono ?_; rintro e wm ⟨u, rfl, hu, hgm⟩; obtain ⟨sa, sc, rfl⟩ := hu.v.slice; have HV := hide hu.v; have HGM := hide hgm; clear hu hgm; rw [ci_len])
  rw [ci_len] at HV
  have P2 := R2.out.kept HGM.out (by simp)
  have P2 : ModAt wm.drew gm f' := P2
  have P4 := R4.out.kept HGM.out (by simp)
  have P4 : ModAt wm.drew gw g := P4
  refine r50_in gs gm go gw n sa sc f' g rfl rfl rfl rfl rfl rfl rfl rfl rfl (Tab.gb HT.out HGM.out (by simp)) (R1.out.kept HGM.out (by simp)) (R3.out.kept HGM.out (by simp)) P2 P4 HV.out HH.out HN.out (fun s W hs hg => ?_)
  simp [overlay, dstsOf, ops_r50_in, hs]
  go_wp2_with fail
  exact HGO.out _ _ _ _ _ ⟨rfl, rfl, rfl, rfl, rfl, rfl, rfl, rfl, rfl, rfl, rfl, rfl, rfl, rfl, rfl, rfl, rfl, rfl, rfl, rfl, rfl, rfl⟩ ⟨f', (R1.out.kept HGM.out (by simp)).kept hg (by simp), (R2.out.kept HGM.out (by simp)).kept hg (by simp), (R3.out.kept HGM.out (by simp)).kept hg (by simp), (R4.out.kept HGM.out (by simp)).kept hg (by simp), R5.out.trans ((gb_to (HGM.out.trans hg)).mono hBw.out)⟩
set_option maxHeartbeats 16000000 in
set_option maxRecDepth 100000 in
theorem tail_out {Q : Exit → Act → World → Prop} {a : Act} {w w0 : World} {u0 u1 u2 u9 u13 u19 u20 u21 u22 u23 u24 u25 u60 : Value} {gs gm go gw B : Nat} {g : Nat → Bool} {y : Int} (hb8 : inS y = false) (hT : Tab w) (hB : BSt gs gm go gw g B w0 w) (hBw : B ≤ w.heap.size) (hA : ActS u0 u1 u2 (P0 gs) (P0 gm) (.int .i64 y) (.bool false) u9 (P0 go) (P0 gw) (.bool true) u13 u19 u20 u21 u22 u23 u24 u25 u60 a)
    (hgo : ∀ (a' : Act) (W : World) (r9 r13 r60 : Value), ActS u0 u1 u2 (P0 gs) (P0 gm) (.int .i64 y) (.bool false) r9 (P0 go) (P0 gw) (.bool true) r13 u19 u20 u21 u22 u23 u24 u25 r60 a' → BSt gs gm go gw g B w0 W → Q .normal a' W) : tailC.wp Tryd.prog Q a w := by
  obtain ⟨ρ, rfl⟩ := hA.lit
  clear hA
  obtain ⟨f', q1, q2, q3, q4, q5⟩ := hB
  have HT := hide hT
  have HGO := hide hgo
  have R1 := hide q1
  have R2 := hide q2
  have R3 := hide q3
  have R4 := hide q4
  have R5 := hide q5
  have hBw := hide hBw
  clear q1 q2 q3 q4 q5 hT hgo
  have HH := hide (show isIn f' y = false by unfold isIn; rw [hb8]; rfl)
  clear hb8
  unfold tailC
  simp only [P0]
  go_upto_region 50 with (go_at_call 18; refine (model_any gm f' _ R2.out).mono ?_; rintro e wm ⟨u, rfl, hu, hgm⟩; obtain ⟨sa, sc, rfl⟩ := hu.v.slice; have HV := hide hu.v; have HGM := hide hgm; clear hu hgm; rw [ci_len])
  rw [ci_len] at HV
  have P2 := R2.out.kept HGM.out (by simp)
  have P2 : ModAt wm.drew gm f' := P2
  have P4 := R4.out.kept HGM.out (by simp)
  have P4 : ModAt wm.drew gw g := P4
  refine r50_out gs gm go gw y sa sc f' g rfl rfl rfl rfl rfl rfl rfl rfl rfl (Tab.gb HT.out HGM.out (by simp)) (R1.out.kept HGM.out (by simp)) (R3.out.kept HGM.out (by simp)) P2 P4 HV.out HH.out (fun s W hs hg => ?_)
  simp [overlay, dstsOf, ops_r50_out, hs]
  go_wp2_with fail
  exact HGO.out _ _ _ _ _ ⟨rfl, rfl, rfl, rfl, rfl, rfl, rfl, rfl, rfl, rfl, rfl, rfl, rfl, rfl, rfl, rfl, rfl, rfl, rfl, rfl, rfl, rfl⟩ ⟨f', (R1.out.kept HGM.out (by simp)).kept hg (by simp), (R2.out.kept HGM.out (by simp)).kept hg (by simp), (R3.out.kept HGM.out (by simp)).kept hg (by simp), (R4.out.kept HGM.out (by simp)).kept hg (by simp), R5.out.trans ((gb_to (HGM.out.trans hg)).mono hBw.out)⟩
theorem tail_any {Q : Exit → Act → World → Prop} {a : Act} {w w0 : World} {u0 u1 u2 u9 u13 u19 u20 u21 u22 u23 u24 u25 u60 : Value} {gs gm go gw B : Nat} {g : Nat → Bool} {y : Int} {b8 : Bool} (hb8 : inS y = b8) (hT : Tab w) (hB : BSt gs gm go gw g B w0 w) (hBw : B ≤ w.heap.size) (hA : ActS u0 u1 u2 (P0 gs) (P0 gm) (.int .i64 y) (.bool b8) u9 (P0 go) (P0 gw) (.bool true) u13 u19 u20 u21 u22 u23 u24 u25 u60 a)
    (hgo : ∀ (a' : Act) (W : World) (r9 r13 r60 : Value), ActS u0 u1 u2 (P0 gs) (P0 gm) (.int .i64 y) (.bool b8) r9 (P0 go) (P0 gw) (.bool true) r13 u19 u20 u21 u22 u23 u24 u25 r60 a' → BSt gs gm go gw g B w0 W → Q .normal a' W) : tailC.wp Tryd.prog Q a w := by
  cases b8
  · exact tail_out hb8 hT hB hBw hA hgo
  · exact tail_in hb8 hT hB hBw hA hgo
end Go.Proofs.YtdeebmpmfedjbaaDoor
