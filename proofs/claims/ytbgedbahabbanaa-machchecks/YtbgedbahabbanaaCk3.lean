/- MachChecks' statements that draw their order, each over any activation. -/
import Derived.Test.YtbgedbahabbanaaI5
import Derived.Test.YtbgedbahabbanaaCallL
import Derived.Test.YtbgedbahabbanaaRCode
import Derived.Test.YtbgedbahabbanaaApp2
namespace Go.Proofs.Ytbgedbahabbanaa
open Go Go.RowKit Ir
def ops36 : Array Oper := #[{ dst := some 30, op := Op.load 24 (Operand.tmp 9), type := 24, pos := "law.go:59", after := #[], guard := none }, { dst := some 31, op := Op.call { callee := Callee.value (Operand.func 10), args := #[Operand.tmp 30], argTypes := #[24] }, type := 33, pos := "law.go:59", after := #[{ on := 0, ground := Ground.data }], guard := none }, { dst := some 32, op := Op.load 24 (Operand.tmp 9), type := 24, pos := "law.go:59", after := #[], guard := none }, { dst := some 33, op := Op.call { callee := Callee.value (Operand.func 11), args := #[Operand.tmp 32], argTypes := #[24] }, type := 33, pos := "law.go:59", after := #[{ on := 2, ground := Ground.data }, { on := 1, ground := Ground.chain }], guard := none }, { dst := some 34, op := Op.binOp BinOp.neq 33 (Operand.tmp 31) (Operand.tmp 33) 33, type := 4, pos := "law.go:59", after := #[{ on := 1, ground := Ground.data }, { on := 3, ground := Ground.data }], guard := none }, { dst := some 35, op := Op.move (Operand.tmp 34), type := 4, pos := "law.go:59", after := #[{ on := 4, ground := Ground.data }, { on := 3, ground := Ground.chain }], guard := none }, { dst := some 36, op := Op.load 24 (Operand.tmp 19), type := 24, pos := "law.go:59", after := #[{ on := 5, ground := Ground.guard }], guard := some (5, false) }, { dst := some 37, op := Op.call { callee := Callee.value (Operand.func 10), args := #[Operand.tmp 36], argTypes := #[24] }, type := 33, pos := "law.go:59", after := #[{ on := 6, ground := Ground.data }, { on := 5, ground := Ground.chain }, { on := 5, ground := Ground.guard }], guard := some (5, false) }, { dst := some 38, op := Op.build 33 #[], type := 33, pos := "law.go:59", after := #[{ on := 5, ground := Ground.guard }], guard := some (5, false) }, { dst := some 39, op := Op.binOp BinOp.neq 33 (Operand.tmp 37) (Operand.tmp 38) 33, type := 4, pos := "law.go:59", after := #[{ on := 7, ground := Ground.data }, { on := 8, ground := Ground.data }, { on := 5, ground := Ground.guard }], guard := some (5, false) }, { dst := some 40, op := Op.pick (Operand.tmp 35) (Operand.const (Value.bool true)) (Operand.tmp 39), type := 4, pos := "law.go:59", after := #[{ on := 5, ground := Ground.data }, { on := 9, ground := Ground.data }], guard := none }]
def ops39 : Array Oper := #[{ dst := some 48, op := Op.load 24 (Operand.tmp 19), type := 24, pos := "law.go:63", after := #[], guard := none }, { dst := some 49, op := Op.call { callee := Callee.value (Operand.func 10), args := #[Operand.tmp 48], argTypes := #[24] }, type := 33, pos := "law.go:63", after := #[{ on := 0, ground := Ground.data }], guard := none }, { dst := some 50, op := Op.load 24 (Operand.tmp 19), type := 24, pos := "law.go:63", after := #[], guard := none }, { dst := some 51, op := Op.call { callee := Callee.value (Operand.func 11), args := #[Operand.tmp 50], argTypes := #[24] }, type := 33, pos := "law.go:63", after := #[{ on := 2, ground := Ground.data }, { on := 1, ground := Ground.chain }], guard := none }, { dst := some 52, op := Op.binOp BinOp.neq 33 (Operand.tmp 49) (Operand.tmp 51) 33, type := 4, pos := "law.go:63", after := #[{ on := 1, ground := Ground.data }, { on := 3, ground := Ground.data }], guard := none }]
def ops314 : Array Oper := #[{ dst := some 58, op := Op.fieldAddr 24 (Operand.tmp 19) 3, type := 0, pos := "law.go:75", after := #[], guard := none }, { dst := some 59, op := Op.load 22 (Operand.tmp 58), type := 22, pos := "law.go:75", after := #[{ on := 0, ground := Ground.data }], guard := none }, { dst := some 60, op := Op.fieldAddr 24 (Operand.tmp 19) 3, type := 0, pos := "law.go:75", after := #[], guard := none }, { dst := some 61, op := Op.load 22 (Operand.tmp 60), type := 22, pos := "law.go:75", after := #[{ on := 2, ground := Ground.data }], guard := none }, { dst := some 62, op := Op.indexAddr 22 (Operand.tmp 61) (Operand.const (Value.int IntKind.i64 0)), type := 0, pos := "law.go:75", after := #[{ on := 3, ground := Ground.data }], guard := none }, { dst := some 63, op := Op.fieldAddr 41 (Operand.tmp 62) 0, type := 0, pos := "law.go:75", after := #[{ on := 4, ground := Ground.data }], guard := none }, { dst := some 64, op := Op.load 36 (Operand.tmp 63), type := 36, pos := "law.go:75", after := #[{ on := 5, ground := Ground.data }], guard := none }, { dst := some 65, op := Op.build 46 #[(0, Operand.const (Value.int IntKind.u8 8))], type := 46, pos := "law.go:75", after := #[], guard := none }, { dst := some 66, op := Op.build 46 #[(0, Operand.const (Value.int IntKind.u8 1))], type := 46, pos := "law.go:75", after := #[], guard := none }, { dst := some 67, op := Op.buildSlice 36 2 #[(0, Operand.tmp 65), (1, Operand.tmp 66)], type := 36, pos := "law.go:75", after := #[{ on := 7, ground := Ground.data }, { on := 8, ground := Ground.data }], guard := none }, { dst := some 68, op := Op.call { callee := Callee.builtin Builtin.append, args := #[Operand.tmp 64, Operand.tmp 67], argTypes := #[36, 36] }, type := 36, pos := "law.go:75", after := #[{ on := 6, ground := Ground.data }, { on := 9, ground := Ground.data }], guard := none }, { dst := some 69, op := Op.indexAddr 22 (Operand.tmp 59) (Operand.const (Value.int IntKind.i64 0)), type := 0, pos := "law.go:75", after := #[{ on := 1, ground := Ground.data }, { on := 0, ground := Ground.phase }, { on := 1, ground := Ground.phase }, { on := 2, ground := Ground.phase }, { on := 3, ground := Ground.phase }, { on := 4, ground := Ground.phase }, { on := 5, ground := Ground.phase }, { on := 6, ground := Ground.phase }, { on := 7, ground := Ground.phase }, { on := 8, ground := Ground.phase }, { on := 9, ground := Ground.phase }, { on := 10, ground := Ground.phase }], guard := none }, { dst := some 70, op := Op.fieldAddr 41 (Operand.tmp 69) 0, type := 0, pos := "law.go:75", after := #[{ on := 11, ground := Ground.data }, { on := 0, ground := Ground.phase }, { on := 1, ground := Ground.phase }, { on := 2, ground := Ground.phase }, { on := 3, ground := Ground.phase }, { on := 4, ground := Ground.phase }, { on := 5, ground := Ground.phase }, { on := 6, ground := Ground.phase }, { on := 7, ground := Ground.phase }, { on := 8, ground := Ground.phase }, { on := 9, ground := Ground.phase }, { on := 10, ground := Ground.phase }], guard := none }, { dst := none, op := Op.store 36 (Operand.tmp 70) (Operand.tmp 68), type := 0, pos := "law.go:75", after := #[{ on := 12, ground := Ground.data }, { on := 10, ground := Ground.data }, { on := 10, ground := Ground.chain }, { on := 0, ground := Ground.phase }, { on := 1, ground := Ground.phase }, { on := 2, ground := Ground.phase }, { on := 3, ground := Ground.phase }, { on := 4, ground := Ground.phase }, { on := 5, ground := Ground.phase }, { on := 6, ground := Ground.phase }, { on := 7, ground := Ground.phase }, { on := 8, ground := Ground.phase }, { on := 9, ground := Ground.phase }, { on := 10, ground := Ground.phase }], guard := none }]
def ops322 : Array Oper := #[{ dst := some 84, op := Op.load 24 (Operand.tmp 19), type := 24, pos := "law.go:78", after := #[], guard := none }, { dst := some 85, op := Op.call { callee := Callee.value (Operand.func 10), args := #[Operand.tmp 84], argTypes := #[24] }, type := 33, pos := "law.go:78", after := #[{ on := 0, ground := Ground.data }], guard := none }, { dst := some 86, op := Op.load 24 (Operand.tmp 19), type := 24, pos := "law.go:78", after := #[], guard := none }, { dst := some 87, op := Op.call { callee := Callee.value (Operand.func 11), args := #[Operand.tmp 86], argTypes := #[24] }, type := 33, pos := "law.go:78", after := #[{ on := 2, ground := Ground.data }, { on := 1, ground := Ground.chain }], guard := none }, { dst := some 88, op := Op.binOp BinOp.eql 33 (Operand.tmp 85) (Operand.tmp 87) 33, type := 4, pos := "law.go:78", after := #[{ on := 1, ground := Ground.data }, { on := 3, ground := Ground.data }], guard := none }, { dst := some 18, op := Op.assign (Operand.tmp 88), type := 4, pos := "law.go:78", after := #[{ on := 4, ground := Ground.data }, { on := 3, ground := Ground.chain }, { on := 0, ground := Ground.phase }, { on := 1, ground := Ground.phase }, { on := 2, ground := Ground.phase }, { on := 3, ground := Ground.phase }, { on := 4, ground := Ground.phase }], guard := none }]
/-- What is known of each temporary. -/
def G36 (C D : Cod) (uc ud : Value) : Tmp → Value → World → Prop
  | 30, xx, _ => xx = .agg #[.int .i64 C.p, .int .i64 C.r, .int .i64 C.s, uc]
  | 31, xx, _ => xx = faultV (mchk C)
  | 32, xx, _ => xx = .agg #[.int .i64 C.p, .int .i64 C.r, .int .i64 C.s, uc]
  | 33, xx, _ => xx = faultV (mchk C)
  | 34, xx, _ => xx = .bool (false)
  | 35, xx, _ => xx = .bool (false)
  | 36, xx, _ => xx = if (!(false)) = true then .agg #[.int .i64 D.p, .int .i64 D.r, .int .i64 D.s, ud] else undef
  | 37, xx, _ => xx = if (!(false)) = true then faultV (0, 0, 0) else undef
  | 38, xx, _ => xx = if (!(false)) = true then faultV (0, 0, 0) else undef
  | 39, xx, _ => xx = if (!(false)) = true then .bool (false) else undef
  | 40, xx, _ => xx = .bool (false || false)
  | _, _, _ => True

set_option maxHeartbeats 1000000 in
set_option maxRecDepth 100000 in
theorem r36_ok {Q : Exit → Act → World → Prop} {a0 : Act} {wd : World} {g1 g2 : Nat} {C D : Cod} {uc ud : Value} (hz : a0.tmps.size = 89) (b9 : a0.eval (.tmp 9) = .pointer (some ⟨g1, 0, none⟩)) (b19 : a0.eval (.tmp 19) = .pointer (some ⟨g2, 0, none⟩)) (hC : BlksV wd uc C.bs) (m0 : wd.cell? ⟨g1, 0, none⟩ = some (.int .i64 C.p)) (m1 : wd.cell? ⟨g1, 1, none⟩ = some (.int .i64 C.r)) (m2 : wd.cell? ⟨g1, 2, none⟩ = some (.int .i64 C.s)) (m3 : wd.cell? ⟨g1, 3, none⟩ = some uc) (hD : BlksV wd ud D.bs) (n0 : wd.cell? ⟨g2, 0, none⟩ = some (.int .i64 D.p)) (n1 : wd.cell? ⟨g2, 1, none⟩ = some (.int .i64 D.r)) (n2 : wd.cell? ⟨g2, 2, none⟩ = some (.int .i64 D.s)) (n3 : wd.cell? ⟨g2, 3, none⟩ = some ud) (hDk : mchk D = (0, 0, 0))
    (hend : ∀ (q : Tmp → Value) (W : World), q 40 = .bool false → Below wd.heap.size wd W → Q .normal (overlay a0 (dstsOf ops36) q) W) : (Code.region 6 ops36 true).wp Try.prog Q a0 wd := by
  have hCM : ∀ W, Below wd.heap.size wd W → Calls Try.prog 10 #[.agg #[.int .i64 D.p, .int .i64 D.r, .int .i64 D.s, ud]] W fun r w' => r = .returned (faultV (0, 0, 0)) ∧ Below W.heap.size W w' := by
    intro W hW
    have := mCheck_any D _ W ⟨_, rfl, hD.below hW⟩
    rwa [hDk] at this
  refine wp_region_each (by kernel_rfl) (fun t y _ => G36 C D uc ud t y wd) (fun _ W => Below wd.heap.size wd W) (by rw [hz]; kernel_rfl) (Below.refl _ _).drew ?_ ?_
  · refine And.intro ?_ (And.intro ?_ (And.intro ?_ (And.intro ?_ (And.intro ?_ (And.intro ?_ (And.intro ?_ (And.intro ?_ (And.intro ?_ (And.intro ?_ (And.intro ?_ trivial))))))))))
    · refine asked_pure rfl rfl (fun _ _ h => h) (fun _ _ _ => rfl) (fun l a W H => ?_)
      have e9 : a.eval (.tmp 9) = .pointer (some ⟨g1, 0, none⟩) := (H.base 9 rfl).trans b9
      exact run_load24 rfl e9 (cell_below H.s m0) (cell_below H.s m1) (cell_below H.s m2) (cell_below H.s m3)
    · refine asked_call rfl Try.func10 (by kernel_rfl) (by kernel_rfl) rfl rfl (fun l a W H => ?_)
      have e30 : a.eval (.tmp 30) = .agg #[.int .i64 C.p, .int .i64 C.r, .int .i64 C.s, uc] := H.facts 30 rfl
      have ea : (#[.tmp 30] : Array Operand).map a.eval = #[.agg #[.int .i64 C.p, .int .i64 C.r, .int .i64 C.s, uc]] := by
        simp only [List.map_toArray, List.map_cons, List.map_nil, e30]
      rw [ea]
      refine (mCheck_any C _ W ⟨uc, rfl, hC.below H.s⟩).mono ?_
      rintro x w' ⟨rfl, hB⟩
      exact ⟨_, rfl, rfl, bel_of H.s hB, fun _ _ _ h => h⟩
    · refine asked_pure rfl rfl (fun _ _ h => h) (fun _ _ _ => rfl) (fun l a W H => ?_)
      have e9 : a.eval (.tmp 9) = .pointer (some ⟨g1, 0, none⟩) := (H.base 9 rfl).trans b9
      exact run_load24 rfl e9 (cell_below H.s m0) (cell_below H.s m1) (cell_below H.s m2) (cell_below H.s m3)
    · refine asked_call rfl Try.func11 (by kernel_rfl) (by kernel_rfl) rfl rfl (fun l a W H => ?_)
      have e32 : a.eval (.tmp 32) = .agg #[.int .i64 C.p, .int .i64 C.r, .int .i64 C.s, uc] := H.facts 32 rfl
      have ea : (#[.tmp 32] : Array Operand).map a.eval = #[.agg #[.int .i64 C.p, .int .i64 C.r, .int .i64 C.s, uc]] := by
        simp only [List.map_toArray, List.map_cons, List.map_nil, e32]
      rw [ea]
      refine (rCode_any C _ W ⟨uc, rfl, hC.below H.s⟩).mono ?_
      rintro x w' ⟨rfl, hB⟩
      exact ⟨_, rfl, rfl, bel_of H.s hB, fun _ _ _ h => h⟩
    · refine asked_pure rfl rfl (fun _ _ h => h) (fun _ _ _ => rfl) (fun l a W H => ?_)
      have e31 : a.eval (.tmp 31) = faultV (mchk C) := H.facts 31 rfl
      have e33 : a.eval (.tmp 33) = faultV (mchk C) := H.facts 33 rfl
      exact run_neq33_same rfl e31 e33
    · refine asked_pure rfl rfl (fun _ _ h => h) (fun _ _ _ => rfl) (fun l a W H => ?_)
      have e34 : a.eval (.tmp 34) = .bool (false) := H.facts 34 rfl
      exact run_move rfl e34
    · refine asked_guard (c := (!(false))) (v := .agg #[.int .i64 D.p, .int .i64 D.r, .int .i64 D.s, ud]) rfl rfl rfl rfl (fun _ _ h => h) ?_ (fun _ _ _ => rfl) ?_
      · intro l u W _ hu
        have hu : u = .bool (false) := hu
        exact want_f hu
      intro hc l a W H
      have e19 : a.eval (.tmp 19) = .pointer (some ⟨g2, 0, none⟩) := (H.base 19 rfl).trans b19
      exact run_load24 rfl e19 (cell_below H.s n0) (cell_below H.s n1) (cell_below H.s n2) (cell_below H.s n3)
    · refine asked_gcall (c := (!(false))) rfl rfl rfl Try.func10 (by kernel_rfl) (by kernel_rfl) rfl rfl ?_ ?_ ?_
      · intro l u W _ hu
        have hu : u = .bool (false) := hu
        exact want_f hu
      · intro hc l W hS
        first | exact absurd hc (by decide) | exact ⟨(if_neg (by rw [hc]; simp)).symm, hS⟩
      intro hc l a W H
      have e36 : a.eval (.tmp 36) = .agg #[.int .i64 D.p, .int .i64 D.r, .int .i64 D.s, ud] := by
        have e : a.eval (.tmp 36) = if (!(false)) = true then .agg #[.int .i64 D.p, .int .i64 D.r, .int .i64 D.s, ud] else undef := H.facts 36 rfl
        rw [if_pos hc] at e
        exact e
      have ea : (#[.tmp 36] : Array Operand).map a.eval = #[.agg #[.int .i64 D.p, .int .i64 D.r, .int .i64 D.s, ud]] := by
        simp only [List.map_toArray, List.map_cons, List.map_nil, e36]
      rw [ea]
      refine (hCM W H.s).mono ?_
      rintro x w' ⟨rfl, hB⟩
      exact ⟨_, rfl, (if_pos hc).symm, bel_of H.s hB, fun _ _ _ h => h⟩
    · refine asked_guard (c := (!(false))) (v := faultV (0, 0, 0)) rfl rfl rfl rfl (fun _ _ h => h) ?_ (fun _ _ _ => rfl) ?_
      · intro l u W _ hu
        have hu : u = .bool (false) := hu
        exact want_f hu
      intro hc l a W H
      exact run_build33 rfl
    · refine asked_guard (c := (!(false))) (v := .bool (false)) rfl rfl rfl rfl (fun _ _ h => h) ?_ (fun _ _ _ => rfl) ?_
      · intro l u W _ hu
        have hu : u = .bool (false) := hu
        exact want_f hu
      intro hc l a W H
      have e37 : a.eval (.tmp 37) = faultV (0, 0, 0) := by
        have e : a.eval (.tmp 37) = if (!(false)) = true then faultV (0, 0, 0) else undef := H.facts 37 rfl
        rw [if_pos hc] at e
        exact e
      have e38 : a.eval (.tmp 38) = faultV (0, 0, 0) := by
        have e : a.eval (.tmp 38) = if (!(false)) = true then faultV (0, 0, 0) else undef := H.facts 38 rfl
        rw [if_pos hc] at e
        exact e
      exact run_neq33_same rfl e37 e38
    · refine asked_pure rfl rfl (fun _ _ h => h) (fun _ _ _ => rfl) (fun l a W H => ?_)
      have e35 : a.eval (.tmp 35) = .bool (false) := H.facts 35 rfl
      exact run_pick_or rfl e35 (fun hb => by
        have hc : (!(false)) = true := by simp_all
        have e39 : a.eval (.tmp 39) = .bool (false) := by
          have e : a.eval (.tmp 39) = if (!(false)) = true then .bool (false) else undef := H.facts 39 rfl
          rw [if_pos hc] at e
          exact e
        exact e39)
  · intro l q W _ hS hq
    exact hend q W (hq 40 rfl) hS
/-- What is known of each temporary. -/
def G39 (D : Cod) (ud : Value) : Tmp → Value → World → Prop
  | 48, xx, _ => xx = .agg #[.int .i64 D.p, .int .i64 D.r, .int .i64 D.s, ud]
  | 49, xx, _ => xx = faultV (mchk D)
  | 50, xx, _ => xx = .agg #[.int .i64 D.p, .int .i64 D.r, .int .i64 D.s, ud]
  | 51, xx, _ => xx = faultV (mchk D)
  | 52, xx, _ => xx = .bool (false)
  | _, _, _ => True
set_option maxHeartbeats 1000000 in
set_option maxRecDepth 100000 in
theorem r39_ok {Q : Exit → Act → World → Prop} {a0 : Act} {wd : World} {g2 : Nat} {D : Cod} {ud : Value} (hz : a0.tmps.size = 89) (b19 : a0.eval (.tmp 19) = .pointer (some ⟨g2, 0, none⟩)) (hD : BlksV wd ud D.bs) (n0 : wd.cell? ⟨g2, 0, none⟩ = some (.int .i64 D.p)) (n1 : wd.cell? ⟨g2, 1, none⟩ = some (.int .i64 D.r)) (n2 : wd.cell? ⟨g2, 2, none⟩ = some (.int .i64 D.s)) (n3 : wd.cell? ⟨g2, 3, none⟩ = some ud)
    (hend : ∀ (q : Tmp → Value) (W : World), q 52 = .bool false → Below wd.heap.size wd W → Q .normal (overlay a0 (dstsOf ops39) q) W) : (Code.region 9 ops39 true).wp Try.prog Q a0 wd := by
  refine L.wp_region_eachL (by kernel_rfl) (fun _ t y _ => G39 D ud t y wd) (fun _ W => Below wd.heap.size wd W) (by rw [hz]; kernel_rfl) (Below.refl _ _).drew ?_ ?_
  · refine And.intro ?_ (And.intro ?_ (And.intro ?_ (And.intro ?_ (And.intro ?_ trivial))))
    · refine L.asked_pure rfl rfl (fun _ _ h => h) (fun _ _ _ _ _ h => h) (fun _ _ _ => rfl) (fun l a W H => ?_)
      have e19 : a.eval (.tmp 19) = .pointer (some ⟨g2, 0, none⟩) := (H.base 19 rfl).trans b19
      exact run_load24 rfl e19 (cell_below H.s n0) (cell_below H.s n1) (cell_below H.s n2) (cell_below H.s n3)
    · refine L.asked_call rfl Try.func10 (by kernel_rfl) (by kernel_rfl) rfl rfl (fun l a W H => ?_)
      have e48 : a.eval (.tmp 48) = .agg #[.int .i64 D.p, .int .i64 D.r, .int .i64 D.s, ud] := H.facts 48 rfl
      have ea : (#[.tmp 48] : Array Operand).map a.eval = #[.agg #[.int .i64 D.p, .int .i64 D.r, .int .i64 D.s, ud]] := by
        simp only [List.map_toArray, List.map_cons, List.map_nil, e48]
      rw [ea]
      refine (mCheck_any D _ W ⟨ud, rfl, hD.below H.s⟩).mono ?_
      rintro x w' ⟨rfl, hB⟩
      exact ⟨_, rfl, rfl, bel_of H.s hB, fun _ _ _ h => h⟩
    · refine L.asked_pure rfl rfl (fun _ _ h => h) (fun _ _ _ _ _ h => h) (fun _ _ _ => rfl) (fun l a W H => ?_)
      have e19 : a.eval (.tmp 19) = .pointer (some ⟨g2, 0, none⟩) := (H.base 19 rfl).trans b19
      exact run_load24 rfl e19 (cell_below H.s n0) (cell_below H.s n1) (cell_below H.s n2) (cell_below H.s n3)
    · refine L.asked_call rfl Try.func11 (by kernel_rfl) (by kernel_rfl) rfl rfl (fun l a W H => ?_)
      have e50 : a.eval (.tmp 50) = .agg #[.int .i64 D.p, .int .i64 D.r, .int .i64 D.s, ud] := H.facts 50 rfl
      have ea : (#[.tmp 50] : Array Operand).map a.eval = #[.agg #[.int .i64 D.p, .int .i64 D.r, .int .i64 D.s, ud]] := by
        simp only [List.map_toArray, List.map_cons, List.map_nil, e50]
      rw [ea]
      refine (rCode_any D _ W ⟨ud, rfl, hD.below H.s⟩).mono ?_
      rintro x w' ⟨rfl, hB⟩
      exact ⟨_, rfl, rfl, bel_of H.s hB, fun _ _ _ h => h⟩
    · refine L.asked_pure rfl rfl (fun _ _ h => h) (fun _ _ _ _ _ h => h) (fun _ _ _ => rfl) (fun l a W H => ?_)
      have e49 : a.eval (.tmp 49) = faultV (mchk D) := H.facts 49 rfl
      have e51 : a.eval (.tmp 51) = faultV (mchk D) := H.facts 51 rfl
      exact run_neq33_same rfl e49 e51
  · intro l q W _ hS hq
    exact hend q W (hq 52 rfl) hS
/-- What is known of each temporary. -/
def G322 (D : Cod) (ud : Value) : Tmp → Value → World → Prop
  | 84, xx, _ => xx = .agg #[.int .i64 D.p, .int .i64 D.r, .int .i64 D.s, ud]
  | 85, xx, _ => xx = faultV (mchk D)
  | 86, xx, _ => xx = .agg #[.int .i64 D.p, .int .i64 D.r, .int .i64 D.s, ud]
  | 87, xx, _ => xx = faultV (mchk D)
  | 88, xx, _ => xx = .bool (true)
  | 18, xx, _ => xx = .bool (true)
  | _, _, _ => True
set_option maxHeartbeats 1000000 in
set_option maxRecDepth 100000 in
theorem r322_ok {Q : Exit → Act → World → Prop} {a0 : Act} {wd : World} {g2 : Nat} {D : Cod} {ud : Value} (hz : a0.tmps.size = 89) (b19 : a0.eval (.tmp 19) = .pointer (some ⟨g2, 0, none⟩)) (hD : BlksV wd ud D.bs) (n0 : wd.cell? ⟨g2, 0, none⟩ = some (.int .i64 D.p)) (n1 : wd.cell? ⟨g2, 1, none⟩ = some (.int .i64 D.r)) (n2 : wd.cell? ⟨g2, 2, none⟩ = some (.int .i64 D.s)) (n3 : wd.cell? ⟨g2, 3, none⟩ = some ud)
    (hend : ∀ (q : Tmp → Value) (W : World), q 18 = .bool true → Below wd.heap.size wd W → Q .normal (overlay a0 (dstsOf ops322) q) W) : (Code.region 22 ops322 true).wp Try.prog Q a0 wd := by
  refine L.wp_region_eachL (by kernel_rfl) (fun _ t y _ => G322 D ud t y wd) (fun _ W => Below wd.heap.size wd W) (by rw [hz]; kernel_rfl) (Below.refl _ _).drew ?_ ?_
  · refine And.intro ?_ (And.intro ?_ (And.intro ?_ (And.intro ?_ (And.intro ?_ (And.intro ?_ trivial)))))
    · refine L.asked_pure rfl rfl (fun _ _ h => h) (fun _ _ _ _ _ h => h) (fun _ _ _ => rfl) (fun l a W H => ?_)
      have e19 : a.eval (.tmp 19) = .pointer (some ⟨g2, 0, none⟩) := (H.base 19 rfl).trans b19
      exact run_load24 rfl e19 (cell_below H.s n0) (cell_below H.s n1) (cell_below H.s n2) (cell_below H.s n3)
    · refine L.asked_call rfl Try.func10 (by kernel_rfl) (by kernel_rfl) rfl rfl (fun l a W H => ?_)
      have e84 : a.eval (.tmp 84) = .agg #[.int .i64 D.p, .int .i64 D.r, .int .i64 D.s, ud] := H.facts 84 rfl
      have ea : (#[.tmp 84] : Array Operand).map a.eval = #[.agg #[.int .i64 D.p, .int .i64 D.r, .int .i64 D.s, ud]] := by
        simp only [List.map_toArray, List.map_cons, List.map_nil, e84]
      rw [ea]
      refine (mCheck_any D _ W ⟨ud, rfl, hD.below H.s⟩).mono ?_
      rintro x w' ⟨rfl, hB⟩
      exact ⟨_, rfl, rfl, bel_of H.s hB, fun _ _ _ h => h⟩
    · refine L.asked_pure rfl rfl (fun _ _ h => h) (fun _ _ _ _ _ h => h) (fun _ _ _ => rfl) (fun l a W H => ?_)
      have e19 : a.eval (.tmp 19) = .pointer (some ⟨g2, 0, none⟩) := (H.base 19 rfl).trans b19
      exact run_load24 rfl e19 (cell_below H.s n0) (cell_below H.s n1) (cell_below H.s n2) (cell_below H.s n3)
    · refine L.asked_call rfl Try.func11 (by kernel_rfl) (by kernel_rfl) rfl rfl (fun l a W H => ?_)
      have e86 : a.eval (.tmp 86) = .agg #[.int .i64 D.p, .int .i64 D.r, .int .i64 D.s, ud] := H.facts 86 rfl
      have ea : (#[.tmp 86] : Array Operand).map a.eval = #[.agg #[.int .i64 D.p, .int .i64 D.r, .int .i64 D.s, ud]] := by
        simp only [List.map_toArray, List.map_cons, List.map_nil, e86]
      rw [ea]
      refine (rCode_any D _ W ⟨ud, rfl, hD.below H.s⟩).mono ?_
      rintro x w' ⟨rfl, hB⟩
      exact ⟨_, rfl, rfl, bel_of H.s hB, fun _ _ _ h => h⟩
    · refine L.asked_pure rfl rfl (fun _ _ h => h) (fun _ _ _ _ _ h => h) (fun _ _ _ => rfl) (fun l a W H => ?_)
      have e85 : a.eval (.tmp 85) = faultV (mchk D) := H.facts 85 rfl
      have e87 : a.eval (.tmp 87) = faultV (mchk D) := H.facts 87 rfl
      exact run_eql33_same rfl e85 e87
    · refine L.asked_pure rfl rfl (fun _ _ h => h) (fun _ _ _ _ _ h => h) (fun _ _ _ => rfl) (fun l a W H => ?_)
      have e88 : a.eval (.tmp 88) = .bool (true) := H.facts 88 rfl
      exact run_assign rfl e88
  · intro l q W _ hS hq
    exact hend q W (hq 18 rfl) hS
def iF : Ins := ⟨8, 0, 0, 0, 0, 0, []⟩
def iC : Ins := ⟨1, 0, 0, 0, 0, 0, []⟩
/-- What is known of each temporary of 'd.Blocks[0].Ins = append(..)'. -/
def G314 (B ph g nb cap : Nat) (u0 : Value) (is : List Ins) : Tmp → Value → World → Prop
  | 58, xx, _ => xx = .pointer (some ⟨ph, 3, none⟩)
  | 59, xx, _ => xx = .slice (some ⟨g, 0, none⟩) nb cap
  | 60, xx, _ => xx = .pointer (some ⟨ph, 3, none⟩)
  | 61, xx, _ => xx = .slice (some ⟨g, 0, none⟩) nb cap
  | 62, xx, _ => xx = .pointer (some ⟨g, 0, none⟩)
  | 63, xx, _ => xx = .pointer (some ⟨g, 0, none⟩)
  | 64, xx, _ => xx = u0
  | 65, xx, _ => xx = insV iF (.slice none 0 0)
  | 66, xx, _ => xx = insV iC (.slice none 0 0)
  | 67, xx, ww => (∃ h, xx = .slice (some ⟨h, 0, none⟩) 2 2 ∧ ww.heap[h]? = some (Obj.cells (row2 iF iC) 46 (0, 0)) ∧ u0.ownBlock ≠ some h)
  | 68, xx, ww => InssO B ww xx (is ++ [iF, iC])
  | 69, xx, _ => xx = .pointer (some ⟨g, 0, none⟩)
  | 70, xx, _ => xx = .pointer (some ⟨g, 0, none⟩)
  | _, _, _ => True

/-- What stands in the world while that is done. -/
structure S14 (B ph g nb cap : Nat) (p r s : Int) (u0 : Value) (is : List Ins) (wr : World) (l : Nat → Bool) (W : World) : Prop where
  fld : W.heap[ph]? = some (Obj.cells (rowC p r s (.slice (some ⟨g, 0, none⟩) nb cap)) 24 (0, 0))
  row : ∃ cs, W.heap[g]? = some (Obj.cells cs 41 (0, 0))
  cell : l 13 = false → W.cell? ⟨g, 0, none⟩ = some u0
  inss : l 10 = false → InssO B W u0 is
  done : l 13 = true → ∃ u, W.cell? ⟨g, 0, none⟩ = some u ∧ InssO B W u (is ++ [iF, iC])
  own : ∀ k, u0.ownBlock = some k → k < W.heap.size
  soft : Soft B wr W
  below : Below B wr W
  sz : B ≤ W.heap.size
section
variable {B ph g nb cap : Nat} {p r s : Int} {u0 : Value} {is : List Ins} {wr : World} {l : Nat → Bool} {W W' : World}
theorem G314_keeps {t : Tmp} {y : Value} {T : TypeId → Bool} (h : G314 B ph g nb cap u0 is t y W) (hk : Keeps T W W') (h3 : T 3 = true := by rfl) (h46 : T 46 = true := by rfl) : G314 B ph g nb cap u0 is t y W' := by
  have hk46 : Keeps T46 W W' := hk.weak fun t ht => by simp [T46] at ht; rcases ht with rfl | rfl <;> assumption
  unfold G314 at h ⊢
  split
  all_goals
    first
      | exact h
      | exact InssO.keeps h hk46
      | (obtain ⟨k, e1, e2, e3⟩ := h; exact ⟨k, e1, hk _ _ _ _ h46 e2, e3⟩)
      | trivial
theorem G314_app {t : Tmp} {y : Value} (h : G314 B ph g nb cap u0 is t y W) (ht : some t ≠ some 68) (hg : W.grownBy W' u0.ownBlock) : G314 B ph g nb cap u0 is t y W' := by
  unfold G314 at h ⊢
  split
  all_goals
    first
      | exact h
      | exact absurd rfl ht
      | (obtain ⟨k, e1, e2, e3⟩ := h; exact ⟨k, e1, by rw [hg.block k (Array.getElem?_eq_some_iff.1 e2).1 (fun e => e3 e.symm)]; exact e2, e3⟩)
      | trivial
theorem S14.skip (h : S14 B ph g nb cap p r s u0 is wr l W) {j : Nat} (h9 : j ≠ 10) (h13 : j ≠ 13) : S14 B ph g nb cap p r s u0 is wr (upd l j) W := by
  have u9 : upd l j 10 = l 10 := if_neg (fun e => h9 e.symm)
  have u13 : upd l j 13 = l 13 := if_neg (fun e => h13 e.symm)
  exact ⟨h.fld, h.row, by rw [u13]; exact h.cell, by rw [u9]; exact h.inss, by rw [u13]; exact h.done, h.own, h.soft, h.below, h.sz⟩
theorem S14.alloc (h : S14 B ph g nb cap p r s u0 is wr l W) (hB : Below W.heap.size W W') : S14 B ph g nb cap p r s u0 is wr (upd l 9) W' := by
  have hk : Keeps (fun _ => true) W W' := Keeps.below hB
  have hk46 : Keeps T46 W W' := Keeps.below hB
  refine ⟨hk _ _ _ _ rfl h.fld, ?_, fun h13 => cell_below hB (h.cell h13), fun h9 => (h.inss h9).keeps hk46, fun h13 => ?_, fun k e => Nat.lt_of_lt_of_le (h.own k e) hB.size, h.soft.trans (Soft.below hB), h.below.trans (hB.mono h.sz), Nat.le_trans h.sz hB.size⟩
  · obtain ⟨cs, hcs⟩ := h.row
    exact ⟨cs, hk _ _ _ _ rfl hcs⟩
  · obtain ⟨u, q1, q2⟩ := h.done h13
    exact ⟨u, cell_below hB q1, q2.keeps hk46⟩
theorem S14.app (h : S14 B ph g nb cap p r s u0 is wr l W) (hO : InssO B W u0 is) (hg : W.grownBy W' u0.ownBlock) (hs : Soft B W W') (hl13 : l 13 = false) : S14 B ph g nb cap p r s u0 is wr (upd l 10) W' := by
  have hk := hO.grown3 hg
  refine ⟨hk _ _ _ _ rfl h.fld, ?_, fun h13 => ?_, fun h9 => by simp [upd] at h9, fun h13 => ?_, fun k e => Nat.lt_of_lt_of_le (h.own k e) hg.size, h.soft.trans hs, h.below.grown hg h.sz (fun k e => (hO.ownlt k e).1), Nat.le_trans h.sz hg.size⟩
  · obtain ⟨cs, hcs⟩ := h.row
    exact ⟨cs, hk _ _ _ _ rfl hcs⟩
  · obtain ⟨cs, hcs⟩ := h.row
    have h1 := h.cell hl13
    rw [cell_of_row _ _ _ _ _ _ hcs] at h1
    rw [cell_of_row _ _ _ _ _ _ (hk _ _ _ _ rfl hcs)]
    exact h1
  · have h13' : l 13 = true := h13
    rw [hl13] at h13'
    cases h13'
theorem S14.store (h : S14 B ph g nb cap p r s u0 is wr l W) {u : Value} {cs : Array Value} (hcc : W.cell? ⟨g, 0, none⟩ = some u0) (hcs : W.heap[g]? = some (Obj.cells cs 41 (0, 0))) (hO : InssO B W u (is ++ [iF, iC])) (hBg : B ≤ g) : S14 B ph g nb cap p r s u0 is wr (upd l 13) (W.setCell ⟨g, 0, none⟩ u) := by
  have hk : Keeps (fun t => t != 41) W (W.setCell ⟨g, 0, none⟩ u) := Keeps.set hcs rfl u
  have hk46 : Keeps T46 W (W.setCell ⟨g, 0, none⟩ u) := Keeps.set hcs rfl u
  have hOf := hO.keeps hk46
  refine ⟨hk _ _ _ _ rfl h.fld, ⟨_, heap_setCell_same W g 0 _ _ u hcs⟩, fun h13 => by simp [upd] at h13, fun h9 => (h.inss h9).keeps hk46, fun _ => ⟨u, World.cell?_setCell_same (w := W) (a := ⟨g, 0, none⟩) (v := u) hcc, hOf⟩, fun k e => by simpa using h.own k e,
    h.soft.trans (Soft.set hcs ⟨fun h => by simp at h, fun h => by simp at h, fun _ => ⟨fun _ => ⟨_, hOf⟩, fun h => by simp at h, fun h => by simp at h⟩⟩), h.below.setCell (p := ⟨g, 0, none⟩) hBg u, by simpa using h.sz⟩
end
theorem blks_first {B : Nat} {w : World} {u : Value} {bs : List Blk} (h : BlksO B w u bs) (h0 : 0 < bs.length) : ∃ g cap cur u0, u = .slice (some ⟨g, 0, none⟩) bs.length cap ∧ B ≤ g ∧ w.heap[g]? = some (Obj.cells cur 41 (0, 0)) ∧ w.cell? ⟨g, 0, none⟩ = some u0 ∧ InssO B w u0 (bs.getD 0 Blk.zero).ins := by
  obtain ⟨ps, rfl, h2, h3⟩ := h
  rw [List.length_map] at h0 ⊢
  rcases h2.2 with ⟨rfl, h00⟩ | ⟨g, cap, cur, rfl, hb, hg, _⟩
  · omega
  · have hp : ps[0]? = some ps[0] := List.getElem?_eq_getElem h0
    obtain ⟨g0, _⟩ := cellsB_get ps 0 _ hp
    have hc := h2.cells (g := g) rfl _ _ g0
    rw [Addr.add_lit] at hc
    refine ⟨g, cap, cur, ps[0].2, rfl, hb, hg, by simpa using hc, ?_⟩
    have hd : (ps.map (·.1)).getD 0 Blk.zero = ps[0].1 := by simp [h0]
    rw [hd]
    exact h3 _ (List.getElem_mem h0)
theorem app46two_ok {B0 : Nat} {a : Act} {w : World} {o : Oper} {s y : Operand} {ui : Value} {is : List Ins} {h : Nat} {Q : Value → World → Prop} (hop : o.op = .call { callee := .builtin .append, args := #[s, y], argTypes := #[36, 36] }) (es : a.eval s = ui) (ey : a.eval y = .slice (some ⟨h, 0, none⟩) 2 2)
    (hO : InssO B0 w ui is) (hh : w.heap[h]? = some (Obj.cells (row2 iF iC) 46 (0, 0))) (hl : is.length ≤ 1000000) (hB : B0 ≤ w.heap.size) (hQ : ∀ v' w', InssO B0 w' v' (is ++ [iF, iC]) → w.grownBy w' ui.ownBlock → Soft B0 w w' → Q v' w') :
    ∃ v' w', (execOp a.eval o).run Try.prog w = .ok (.value v') w' ∧ Q v' w' := by
  obtain ⟨v', w', hr, h2, h3, h4⟩ := run_app46two w o.type hO (x := iF) (y := iC) rfl rfl hh hl hB
  refine ⟨v', w', ?_, hQ v' w' h2 h3 h4⟩
  unfold execOp
  simp only [hop, resolve, invoke, builtin, Sem.run_bind, Sem.run_pure, Result.andThen_ok, List.map_toArray, List.map_cons, List.map_nil, es, ey, hr]
theorem run_build46k {a : Act} {w : World} {o : Oper} {k : Int} (hop : o.op = .build 46 #[(0, .const (.int .u8 k))]) : (execOp a.eval o).run Try.prog w = .ok (.value (insV ⟨k, 0, 0, 0, 0, 0, []⟩ (.slice none 0 0))) w := by
  have e1 : a.eval (.const (.int .u8 k)) = .int .u8 k := rfl
  generalize a.eval = ρ at e1 ⊢
  unfold execOp
  rw [hop]
  simp only [List.map_toArray, List.map_cons, List.map_nil, e1]
  go_simp
  rfl
theorem S14.drew {B ph g nb cap : Nat} {p r s : Int} {u0 : Value} {is : List Ins} {wr : World} {l : Nat → Bool} {W : World} (h : S14 B ph g nb cap p r s u0 is wr l W) : S14 B ph g nb cap p r s u0 is wr l W.drew :=
  ⟨h.fld, h.row, h.cell, fun e => (h.inss e).keeps (Keeps.drew _), fun e => by obtain ⟨u, q1, q2⟩ := h.done e; exact ⟨u, q1, q2.keeps (Keeps.drew _)⟩, h.own, h.soft.trans (Soft.keeps (Keeps.drew _)), h.below.trans (Below.refl _ _).drew, h.sz⟩
set_option maxHeartbeats 1000000 in
set_option maxRecDepth 100000 in
theorem r314_ok {Q : Exit → Act → World → Prop} {a0 : Act} {wd w0 : World} {B ph g nb cap : Nat} {p r s : Int} {u0 : Value} {is : List Ins} (hz : a0.tmps.size = 89) (b19 : a0.eval (.tmp 19) = .pointer (some ⟨ph, 0, none⟩)) (hS0 : S14 B ph g nb cap p r s u0 is w0 (fun _ => false) wd) (hnb : 0 < nb) (hil : is.length ≤ 1000000) (hBg : B ≤ g)
    (hend : ∀ (q : Tmp → Value) (W : World) (u : Value), S14 B ph g nb cap p r s u (is ++ [iF, iC]) w0 (fun _ => false) W → Q .normal (overlay a0 (dstsOf ops314) q) W) : (Code.region 14 ops314 true).wp Try.prog Q a0 wd := by
  have hu0 : ∃ aa an ac, u0 = .slice aa an ac := by
    obtain ⟨q1, q2, q3⟩ := (hS0.inss rfl).v.slice
    exact ⟨_, _, _, q3⟩
  refine L.wp_region_eachL (by kernel_rfl) (fun _ t y W => G314 B ph g nb cap u0 is t y W) (fun l W => S14 B ph g nb cap p r s u0 is w0 l W) (by rw [hz]; kernel_rfl) hS0.drew ?_ ?_
  · refine And.intro ?_ (And.intro ?_ (And.intro ?_ (And.intro ?_ (And.intro ?_ (And.intro ?_ (And.intro ?_ (And.intro ?_ (And.intro ?_ (And.intro ?_ (And.intro ?_ (And.intro ?_ (And.intro ?_ (And.intro ?_ trivial)))))))))))))
    · refine L.asked_pure rfl rfl (fun _ _ h => h.skip (by decide) (by decide)) (fun _ _ _ _ _ h => h) (fun _ _ _ => rfl) (fun l a W H => ?_)
      have e19 : a.eval (.tmp 19) = .pointer (some ⟨ph, 0, none⟩) := (H.base 19 rfl).trans b19
      (simp only [execOp]; try simp only [Option.map]); (try simp only [List.map_toArray, List.map_cons, List.map_nil]); (simp only [e19]; go_simp)
      all_goals (try first | go_num | omega | (rw [IntKind.wrap_i64]; omega) | (rw [IntKind.wrap_u8]; omega))
    · refine L.asked_pure rfl rfl (fun _ _ h => h.skip (by decide) (by decide)) (fun _ _ _ _ _ h => h) (fun _ _ _ => rfl) (fun l a W H => ?_)
      have e58 : a.eval (.tmp 58) = .pointer (some ⟨ph, 3, none⟩) := H.facts 58 rfl
      have hcc : W.cell? ⟨ph, 3, none⟩ = some (.slice (some ⟨g, 0, none⟩) nb cap) := by rw [cell_of_row _ _ _ _ _ _ H.s.fld]; rfl
      (simp only [execOp]; try simp only [Option.map]); (try simp only [List.map_toArray, List.map_cons, List.map_nil]); (simp only [e58]; go_simp)
      all_goals (try first | go_num | omega | (rw [IntKind.wrap_i64]; omega) | (rw [IntKind.wrap_u8]; omega))
    · refine L.asked_pure rfl rfl (fun _ _ h => h.skip (by decide) (by decide)) (fun _ _ _ _ _ h => h) (fun _ _ _ => rfl) (fun l a W H => ?_)
      have e19 : a.eval (.tmp 19) = .pointer (some ⟨ph, 0, none⟩) := (H.base 19 rfl).trans b19
      (simp only [execOp]; try simp only [Option.map]); (try simp only [List.map_toArray, List.map_cons, List.map_nil]); (simp only [e19]; go_simp)
      all_goals (try first | go_num | omega | (rw [IntKind.wrap_i64]; omega) | (rw [IntKind.wrap_u8]; omega))
    · refine L.asked_pure rfl rfl (fun _ _ h => h.skip (by decide) (by decide)) (fun _ _ _ _ _ h => h) (fun _ _ _ => rfl) (fun l a W H => ?_)
      have e60 : a.eval (.tmp 60) = .pointer (some ⟨ph, 3, none⟩) := H.facts 60 rfl
      have hcc : W.cell? ⟨ph, 3, none⟩ = some (.slice (some ⟨g, 0, none⟩) nb cap) := by rw [cell_of_row _ _ _ _ _ _ H.s.fld]; rfl
      (simp only [execOp]; try simp only [Option.map]); (try simp only [List.map_toArray, List.map_cons, List.map_nil]); (simp only [e60]; go_simp)
      all_goals (try first | go_num | omega | (rw [IntKind.wrap_i64]; omega) | (rw [IntKind.wrap_u8]; omega))
    · refine L.asked_pure rfl rfl (fun _ _ h => h.skip (by decide) (by decide)) (fun _ _ _ _ _ h => h) (fun _ _ _ => rfl) (fun l a W H => ?_)
      have e61 : a.eval (.tmp 61) = .slice (some ⟨g, 0, none⟩) nb cap := H.facts 61 rfl
      have hnb0 : (0 : Int) < (nb : Int) := by omega
      (simp only [execOp]; try simp only [Option.map]); (try simp only [List.map_toArray, List.map_cons, List.map_nil]); (simp only [e61]; go_simp)
      all_goals (try first | go_num | omega | (rw [IntKind.wrap_i64]; omega) | (rw [IntKind.wrap_u8]; omega))
    · refine L.asked_pure rfl rfl (fun _ _ h => h.skip (by decide) (by decide)) (fun _ _ _ _ _ h => h) (fun _ _ _ => rfl) (fun l a W H => ?_)
      have e62 : a.eval (.tmp 62) = .pointer (some ⟨g, 0, none⟩) := H.facts 62 rfl
      (simp only [execOp]; try simp only [Option.map]); (try simp only [List.map_toArray, List.map_cons, List.map_nil]); (simp only [e62]; go_simp)
      all_goals (try first | go_num | omega | (rw [IntKind.wrap_i64]; omega) | (rw [IntKind.wrap_u8]; omega))
    · refine L.asked_any rfl (fun l a W H => ?_)
      have e63 : a.eval (.tmp 63) = .pointer (some ⟨g, 0, none⟩) := H.facts 63 rfl
      have hl : l 13 = false := by
        cases hs : l 13 with
        | false => rfl
        | true =>
          have h1 := (H.closed 10 6 (by rfl) (H.closed 13 10 (by rfl) hs))
          rw [H.new] at h1
          cases h1
      have hcc := H.s.cell hl
      refine ⟨u0, W, ?_, fun d hd => by cases hd; exact rfl, H.s.skip (by decide) (by decide), fun _ _ _ h => h⟩
      obtain ⟨aa, an, ac, rfl⟩ := hu0
      (simp only [execOp]; try simp only [Option.map]); (try simp only [List.map_toArray, List.map_cons, List.map_nil]); (simp only [e63]; go_simp)
    · refine L.asked_pure rfl rfl (fun _ _ h => h.skip (by decide) (by decide)) (fun _ _ _ _ _ h => h) (fun _ _ _ => rfl) (fun l a W H => ?_)
      exact run_build46k rfl
    · refine L.asked_pure rfl rfl (fun _ _ h => h.skip (by decide) (by decide)) (fun _ _ _ _ _ h => h) (fun _ _ _ => rfl) (fun l a W H => ?_)
      exact run_build46k rfl
    · refine L.asked_any rfl (fun l a W H => ?_)
      have e65 : a.eval (.tmp 65) = insV iF (.slice none 0 0) := H.facts 65 rfl
      have e66 : a.eval (.tmp 66) = insV iC (.slice none 0 0) := H.facts 66 rfl
      have hB := (Below.refl W.heap.size W).alloc (Nat.le_refl _) (.cells (row2 iF iC) 46)
      refine ⟨.slice (some ⟨W.heap.size, 0, none⟩) 2 2, W.alloc (.cells (row2 iF iC) 46), ?_, fun d hd => by cases hd; exact ⟨_, rfl, heap_alloc_new W _, fun e => by have := H.s.own _ e; omega⟩, H.s.alloc hB, fun _ _ _ h => G314_keeps (T := T46) h (Keeps.below hB)⟩
      unfold insV iF at e65
      unfold insV iC at e66
      unfold row2 iF iC
      (simp only [execOp]; try simp only [Option.map]); (try simp only [List.map_toArray, List.map_cons, List.map_nil]); (simp only [e65, e66]; go_simp)
    · refine L.asked_any rfl (fun l a W H => ?_)
      have e64 : a.eval (.tmp 64) = u0 := H.facts 64 rfl
      obtain ⟨h, e67, hh, hne⟩ : ∃ h, a.eval (.tmp 67) = .slice (some ⟨h, 0, none⟩) 2 2 ∧ W.heap[h]? = some (Obj.cells (row2 iF iC) 46 (0, 0)) ∧ u0.ownBlock ≠ some h := H.facts 67 rfl
      have hl : l 13 = false := by
        cases hs : l 13 with
        | false => rfl
        | true =>
          have h1 := (H.closed 13 10 (by rfl) hs)
          rw [H.new] at h1
          cases h1
      have hO := H.s.inss H.new
      refine app46two_ok rfl e64 e67 hO hh hil H.s.sz fun v' w' q1 q2 q3 => ?_
      exact ⟨fun d hd => by cases hd; exact q1, H.s.app hO q2 q3 hl, fun _ _ hd h => G314_app h hd q2⟩
    · refine L.asked_pure rfl rfl (fun _ _ h => h.skip (by decide) (by decide)) (fun _ _ _ _ _ h => h) (fun _ _ _ => rfl) (fun l a W H => ?_)
      have e59 : a.eval (.tmp 59) = .slice (some ⟨g, 0, none⟩) nb cap := H.facts 59 rfl
      have hnb0 : (0 : Int) < (nb : Int) := by omega
      (simp only [execOp]; try simp only [Option.map]); (try simp only [List.map_toArray, List.map_cons, List.map_nil]); (simp only [e59]; go_simp)
      all_goals (try first | go_num | omega | (rw [IntKind.wrap_i64]; omega) | (rw [IntKind.wrap_u8]; omega))
    · refine L.asked_pure rfl rfl (fun _ _ h => h.skip (by decide) (by decide)) (fun _ _ _ _ _ h => h) (fun _ _ _ => rfl) (fun l a W H => ?_)
      have e69 : a.eval (.tmp 69) = .pointer (some ⟨g, 0, none⟩) := H.facts 69 rfl
      (simp only [execOp]; try simp only [Option.map]); (try simp only [List.map_toArray, List.map_cons, List.map_nil]); (simp only [e69]; go_simp)
      all_goals (try first | go_num | omega | (rw [IntKind.wrap_i64]; omega) | (rw [IntKind.wrap_u8]; omega))
    · refine L.asked_skip rfl rfl (fun l a W H => ?_)
      have e70 : a.eval (.tmp 70) = .pointer (some ⟨g, 0, none⟩) := H.facts 70 rfl
      have hO : InssO B W (a.eval (.tmp 68)) (is ++ [iF, iC]) := H.facts 68 rfl
      generalize e68 : a.eval (.tmp 68) = y at hO
      obtain ⟨ya, yc, rfl⟩ := hO.v.slice
      have hcc := H.s.cell H.new
      obtain ⟨cs, hcs⟩ := H.s.row
      have hf : W.frozen? ⟨g, 0, none⟩ = false := frozen_of_row _ _ _ _ _ hcs
      refine ⟨W.setCell ⟨g, 0, none⟩ (.slice ya (is ++ [iF, iC]).length yc), ?_, H.s.store hcc hcs hO hBg, fun _ _ h => G314_keeps (T := T46) h (Keeps.set hcs rfl _)⟩
      obtain ⟨aa, an, ac, rfl⟩ := hu0
      (simp only [execOp]; try simp only [Option.map]); (try simp only [List.map_toArray, List.map_cons, List.map_nil]); (simp only [e68, e70]; go_simp)
  · intro l q W hall hS hq
    obtain ⟨u, h1, h2⟩ := hS.done (hall 13 (by decide))
    exact hend q W u ⟨hS.fld, hS.row, fun _ => h1, fun _ => h2, fun h => by simp at h, fun k e => (h2.ownlt k e).2.1, hS.soft, hS.below, hS.sz⟩
end Go.Proofs.Ytbgedbahabbanaa
