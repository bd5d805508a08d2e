/- RunRefuses: any function, any input. -/
import Derived.Test.YtljnngblhfhhaaaRu
import Derived.Test.YtljnngblhfhhaaaRefFunc
namespace Go.Proofs.Ytljnngblhfhhaaa
open Go Go.RowKit Ir

def ops_rz5_ok : Array Oper := #[{ dst := some 33, op := Op.move (Operand.tmp 3), type := 3, pos := "law.go:52", after := #[], guard := none }, { dst := some 34, op := Op.load 27 (Operand.tmp 6), type := 27, pos := "law.go:52", after := #[], guard := none }, { dst := some 35, op := Op.call { callee := Callee.value (Operand.func 17), args := #[Operand.tmp 33, Operand.tmp 34], argTypes := #[3, 27] }, type := 38, pos := "law.go:52", after := #[{ on := 0, ground := Ground.data }, { on := 1, ground := Ground.data }], guard := none }, { dst := some 36, op := Op.move (Operand.tmp 3), type := 3, pos := "law.go:52", after := #[], guard := none }, { dst := some 37, op := Op.load 27 (Operand.tmp 6), type := 27, pos := "law.go:52", after := #[], guard := none }, { dst := some 38, op := Op.call { callee := Callee.value (Operand.func 18), args := #[Operand.tmp 36, Operand.tmp 37], argTypes := #[3, 27] }, type := 3, pos := "law.go:52", after := #[{ on := 3, ground := Ground.data }, { on := 4, ground := Ground.data }, { on := 2, ground := Ground.chain }], guard := none }, { dst := some 39, op := Op.binOp BinOp.neq 3 (Operand.tmp 35) (Operand.tmp 38) 3, type := 4, pos := "law.go:52", after := #[{ on := 2, ground := Ground.data }, { on := 5, ground := Ground.data }], guard := none }]
/-- What is known of each temporary. -/
def G_rz5_ok (pa : Int) (I : Inp) (XV : Array Value) : Tmp → Value → World → Prop
  | 33, xx, _ => xx = .int .i64 pa
  | 34, xx, _ => xx = .agg XV
  | 35, xx, _ => xx = .int .i64 (inpF pa I)
  | 36, xx, _ => xx = .int .i64 pa
  | 37, xx, _ => xx = .agg XV
  | 38, xx, _ => xx = .int .i64 (inpF pa I)
  | 39, xx, _ => xx = .bool (false)
  | _, _, _ => True
theorem Gm_rz5_ok {pa : Int} {I : Inp} {XV : Array Value} : ∀ d u W W', Below W.heap.size W W' → G_rz5_ok pa I XV d u W → G_rz5_ok pa I XV d u W' := by
  intro d u W W' hB h
  unfold G_rz5_ok at h ⊢
  split at h
  all_goals first | exact h | exact h
set_option maxHeartbeats 1000000 in
set_option maxRecDepth 100000 in
theorem rz5_ok {Q : Exit → Act → World → Prop} {a0 : Act} {wa : World} {gi : Nat} {pa : Int} {I : Inp} {XV : Array Value} (hz : a0.tmps.size = 99) (b3 : a0.eval (.tmp 3) = .int .i64 pa) (b6 : a0.eval (.tmp 6) = .pointer (some ⟨gi, 0, none⟩))
    (hrx : wa.heap[gi]? = some (Obj.cells XV 27 (0, 0))) (size27 : (Try.prog.info? 27).map (·.size) = some XV.size) (hI : InpV wa (.agg XV) I)
    (hend : ∀ (s : Tmp → Value) (W : World), s 39 = .bool (false) → Below wa.heap.size wa W → Q .normal (overlay a0 (dstsOf ops_rz5_ok) s) W) : (Code.region 5 ops_rz5_ok true).wp Try.prog Q a0 wa := by
  have hmono := @Gm_rz5_ok pa I XV
  refine Gr.wp_region_grow (by kernel_rfl) (G_rz5_ok pa I XV) (by rw [hz]; kernel_rfl) ?_ ?_
  · refine And.intro ?_ (And.intro ?_ (And.intro ?_ (And.intro ?_ (And.intro ?_ (And.intro ?_ (And.intro ?_ trivial))))))
    · refine Gr.ask_val trivial rfl (fun _ => rfl) (fun a W H => ?_)
      have e3 : a.eval (.tmp 3) = .int .i64 pa := (H.base 3 rfl).trans b3
      exact run_move rfl e3
    · refine Gr.ask_val trivial rfl (fun _ => rfl) (fun a W H => ?_)
      have e6 : a.eval (.tmp 6) = .pointer (some ⟨gi, 0, none⟩) := (H.base 6 rfl).trans b6
      exact Gr.run_load_row rfl e6 (H.row hrx) Try.underlying27 size27
    · refine Gr.ask_call hmono trivial Try.func17 rfl rfl rfl rfl (fun a W H => ?_)
      have e33 : a.eval (.tmp 33) = .int .i64 pa := H.facts 33 rfl
      have e34 : a.eval (.tmp 34) = .agg XV := H.facts 34 rfl
      simp only [List.map_toArray, List.map_cons, List.map_nil, e33, e34]
      refine (rcheck_any pa _ I W (hI.below H.below)).mono ?_
      rintro e w' ⟨rfl, hB⟩
      exact ⟨_, rfl, rfl, hB⟩
    · refine Gr.ask_val trivial rfl (fun _ => rfl) (fun a W H => ?_)
      have e3 : a.eval (.tmp 3) = .int .i64 pa := (H.base 3 rfl).trans b3
      exact run_move rfl e3
    · refine Gr.ask_val trivial rfl (fun _ => rfl) (fun a W H => ?_)
      have e6 : a.eval (.tmp 6) = .pointer (some ⟨gi, 0, none⟩) := (H.base 6 rfl).trans b6
      exact Gr.run_load_row rfl e6 (H.row hrx) Try.underlying27 size27
    · refine Gr.ask_call hmono trivial Try.func18 rfl rfl rfl rfl (fun a W H => ?_)
      have e36 : a.eval (.tmp 36) = .int .i64 pa := H.facts 36 rfl
      have e37 : a.eval (.tmp 37) = .agg XV := H.facts 37 rfl
      simp only [List.map_toArray, List.map_cons, List.map_nil, e36, e37]
      refine (refInp_any pa _ I W (hI.below H.below)).mono ?_
      rintro e w' ⟨rfl, hB⟩
      exact ⟨_, rfl, rfl, hB⟩
    · refine Gr.ask_val trivial rfl (fun _ => rfl) (fun a W H => ?_)
      have e35 : a.eval (.tmp 35) = .int .i64 (inpF pa I) := H.facts 35 rfl
      have e38 : a.eval (.tmp 38) = .int .i64 (inpF pa I) := H.facts 38 rfl
      (simp only [execOp]; try simp only [Option.map]); (try simp only [List.map_toArray, List.map_cons, List.map_nil]); (simp only [e35, e38]; go_simp)
  · intro s W hB hs
    exact hend s W (hs 39 rfl) hB
def ops_rz7_ok : Array Oper := #[{ dst := some 40, op := Op.load 31 (Operand.tmp 4), type := 31, pos := "law.go:55", after := #[], guard := none }, { dst := some 41, op := Op.load 24 (Operand.tmp 5), type := 24, pos := "law.go:55", after := #[], guard := none }, { dst := some 42, op := Op.call { callee := Callee.value (Operand.func 10), args := #[Operand.tmp 41], argTypes := #[24] }, type := 31, pos := "law.go:55", after := #[{ on := 1, ground := Ground.data }], guard := none }, { dst := some 43, op := Op.buildSlice 48 2 #[(0, Operand.tmp 40), (1, Operand.tmp 42)], type := 48, pos := "law.go:55", after := #[{ on := 0, ground := Ground.data }, { on := 2, ground := Ground.data }], guard := none }, { dst := some 44, op := Op.call { callee := Callee.builtin Builtin.len, args := #[Operand.tmp 43], argTypes := #[48] }, type := 3, pos := "law.go:55", after := #[{ on := 3, ground := Ground.data }], guard := none }, { dst := some 45, op := Op.move (Operand.const (Value.int IntKind.i64 0)), type := 3, pos := "law.go:55", after := #[], guard := none }]
/-- What is known of each temporary. -/
def G_rz7_ok (fc : Nat) (fa : Option Addr) (F M : Fun) (SV : Array Value) : Tmp → Value → World → Prop
  | 40, xx, _ => xx = .agg #[.int .i64 F.p, .int .i64 F.v, .slice fa F.bs.length fc]
  | 41, xx, _ => xx = .agg SV
  | 42, xx, ww => FunV ww xx M
  | 43, xx, ww => ∃ b u, xx = .slice (some ⟨b, 0, none⟩) 2 2 ∧ ww.heap[b]? = some (Obj.cells #[.int .i64 F.p, .int .i64 F.v, .slice fa F.bs.length fc, .int .i64 M.p, .int .i64 M.v, u] 31 (0, 0)) ∧ BlksV ww u M.bs
  | 44, xx, _ => xx = .int .i64 2
  | 45, xx, _ => xx = .int .i64 0
  | _, _, _ => True
theorem Gm_rz7_ok {fc : Nat} {fa : Option Addr} {F M : Fun} {SV : Array Value} : ∀ d u W W', Below W.heap.size W W' → G_rz7_ok fc fa F M SV d u W → G_rz7_ok fc fa F M SV d u W' := by
  intro d u W W' hB h
  unfold G_rz7_ok at h ⊢
  split at h
  all_goals first | exact h | (obtain ⟨ub, h1, h2⟩ := h; exact ⟨ub, h1, h2.below hB⟩) | (obtain ⟨b, ub, h1, h2, h3⟩ := h; exact ⟨b, ub, h1, (hB.block b (Array.getElem?_eq_some_iff.1 h2).1).trans h2, h3.below hB⟩)
set_option maxHeartbeats 1000000 in
set_option maxRecDepth 100000 in
theorem rz7_ok {Q : Exit → Act → World → Prop} {a0 : Act} {wa : World} {gf gs fc : Nat} {fa : Option Addr} {F M : Fun} {SV : Array Value} {sa sb sc : Int} {bs : List Int} (hz : a0.tmps.size = 99) (b4 : a0.eval (.tmp 4) = .pointer (some ⟨gf, 0, none⟩)) (b5 : a0.eval (.tmp 5) = .pointer (some ⟨gs, 0, none⟩))
    (hrf : wa.heap[gf]? = some (Obj.cells #[.int .i64 F.p, .int .i64 F.v, .slice fa F.bs.length fc] 31 (0, 0))) (hrs : wa.heap[gs]? = some (Obj.cells SV 24 (0, 0))) (size24 : (Try.prog.info? 24).map (·.size) = some SV.size) (hSp : SpecV wa (.agg SV) sa sb sc bs) (hmd : made sa sb sc bs = M)
    (hend : ∀ (s : Tmp → Value) (W : World), s 44 = .int .i64 2 → s 45 = .int .i64 0 → (∃ b u, s 43 = .slice (some ⟨b, 0, none⟩) 2 2 ∧ W.heap[b]? = some (Obj.cells #[.int .i64 F.p, .int .i64 F.v, .slice fa F.bs.length fc, .int .i64 M.p, .int .i64 M.v, u] 31 (0, 0)) ∧ BlksV W u M.bs) → Below wa.heap.size wa W → Q .normal (overlay a0 (dstsOf ops_rz7_ok) s) W) : (Code.region 7 ops_rz7_ok true).wp Try.prog Q a0 wa := by
  have hmono := @Gm_rz7_ok fc fa F M SV
  refine Gr.wp_region_grow (by kernel_rfl) (G_rz7_ok fc fa F M SV) (by rw [hz]; kernel_rfl) ?_ ?_
  · refine And.intro ?_ (And.intro ?_ (And.intro ?_ (And.intro ?_ (And.intro ?_ (And.intro ?_ trivial)))))
    · refine Gr.ask_val trivial rfl (fun _ => rfl) (fun a W H => ?_)
      have e4 : a.eval (.tmp 4) = .pointer (some ⟨gf, 0, none⟩) := (H.base 4 rfl).trans b4
      exact Gr.run_load_row rfl e4 (H.row hrf) Try.underlying31 size31
    · refine Gr.ask_val trivial rfl (fun _ => rfl) (fun a W H => ?_)
      have e5 : a.eval (.tmp 5) = .pointer (some ⟨gs, 0, none⟩) := (H.base 5 rfl).trans b5
      exact Gr.run_load_row rfl e5 (H.row hrs) Try.underlying24 size24
    · refine Gr.ask_call hmono trivial Try.func10 rfl rfl rfl rfl (fun a W H => ?_)
      have e41 : a.eval (.tmp 41) = .agg SV := H.facts 41 rfl
      simp only [List.map_toArray, List.map_cons, List.map_nil, e41]
      refine (made_any _ sa sb sc bs W (hSp.below H.below)).mono ?_
      rintro e w' ⟨ub, rfl, hO, hB⟩
      rw [hmd] at hO ⊢
      exact ⟨_, rfl, ⟨ub, rfl, hO.v⟩, hB⟩
    · refine Gr.ask_grow hmono trivial rfl (fun a W H => ?_)
      have e40 : a.eval (.tmp 40) = .agg #[.int .i64 F.p, .int .i64 F.v, .slice fa F.bs.length fc] := H.facts 40 rfl
      have e42 : FunV W (a.eval (.tmp 42)) M := H.facts 42 rfl
      obtain ⟨u, e42, hu⟩ := e42
      obtain ⟨ua, uc, rfl⟩ := hu.slice
      refine ⟨.slice (some ⟨W.heap.size, 0, none⟩) 2 2, W.alloc (.cells #[.int .i64 F.p, .int .i64 F.v, .slice fa F.bs.length fc, .int .i64 M.p, .int .i64 M.v, .slice ua M.bs.length uc] 31), ?_, ⟨_, _, rfl, heap_alloc_new W _, hu.below (bel1' W _)⟩, bel1' W _⟩
      (simp only [execOp]; try simp only [Option.map]); (try simp only [List.map_toArray, List.map_cons, List.map_nil]); (simp only [e40, e42]; go_simp)
    · refine Gr.ask_val trivial rfl (fun _ => rfl) (fun a W H => ?_)
      have e43 : ∃ b u, (a.eval (.tmp 43)) = .slice (some ⟨b, 0, none⟩) 2 2 ∧ W.heap[b]? = some (Obj.cells #[.int .i64 F.p, .int .i64 F.v, .slice fa F.bs.length fc, .int .i64 M.p, .int .i64 M.v, u] 31 (0, 0)) ∧ BlksV W u M.bs := H.facts 43 rfl
      obtain ⟨b, u, e43, _⟩ := e43
      exact run_len rfl e43 Try.underlying48
    · refine Gr.ask_val trivial rfl (fun _ => rfl) (fun a W H => ?_)
      exact run_move rfl rfl
  · intro s W hB hs
    exact hend s W (hs 44 rfl) (hs 45 rfl) (hs 43 rfl) hB
def ops_rza_ok : Array Oper := #[{ dst := some 70, op := Op.move (Operand.tmp 13), type := 38, pos := "law.go:64", after := #[], guard := none }, { dst := some 71, op := Op.move (Operand.tmp 11), type := 3, pos := "law.go:64", after := #[], guard := none }, { dst := some 72, op := Op.binOp BinOp.neq 3 (Operand.tmp 70) (Operand.tmp 71) 3, type := 4, pos := "law.go:64", after := #[{ on := 0, ground := Ground.data }, { on := 1, ground := Ground.data }], guard := none }, { dst := some 73, op := Op.move (Operand.tmp 72), type := 4, pos := "law.go:64", after := #[{ on := 2, ground := Ground.data }], guard := none }, { dst := some 74, op := Op.move (Operand.tmp 11), type := 3, pos := "law.go:64", after := #[{ on := 3, ground := Ground.guard }], guard := some (3, false) }, { dst := some 75, op := Op.binOp BinOp.neq 3 (Operand.tmp 74) (Operand.const (Value.int IntKind.i64 0)) 3, type := 4, pos := "law.go:64", after := #[{ on := 4, ground := Ground.data }, { on := 3, ground := Ground.guard }], guard := some (3, false) }, { dst := some 76, op := Op.move (Operand.tmp 75), type := 4, pos := "law.go:64", after := #[{ on := 5, ground := Ground.data }, { on := 3, ground := Ground.chain }, { on := 3, ground := Ground.guard }], guard := some (3, false) }, { dst := some 77, op := Op.load 37 (Operand.tmp 12), type := 37, pos := "law.go:64", after := #[{ on := 6, ground := Ground.guard }], guard := some (6, true) }, { dst := some 78, op := Op.build 37 #[], type := 37, pos := "law.go:64", after := #[{ on := 6, ground := Ground.guard }], guard := some (6, true) }, { dst := some 79, op := Op.call { callee := Callee.value (Operand.func 13), args := #[Operand.tmp 77, Operand.tmp 78], argTypes := #[37, 37] }, type := 4, pos := "law.go:64", after := #[{ on := 7, ground := Ground.data }, { on := 8, ground := Ground.data }, { on := 6, ground := Ground.chain }, { on := 6, ground := Ground.guard }], guard := some (6, true) }, { dst := some 80, op := Op.unOp UnOp.not 4 (Operand.tmp 79), type := 4, pos := "law.go:64", after := #[{ on := 9, ground := Ground.data }, { on := 6, ground := Ground.guard }], guard := some (6, true) }, { dst := some 81, op := Op.pick (Operand.tmp 76) (Operand.tmp 80) (Operand.const (Value.bool false)), type := 4, pos := "law.go:64", after := #[{ on := 6, ground := Ground.data }, { on := 10, ground := Ground.data }, { on := 3, ground := Ground.guard }], guard := some (3, false) }, { dst := some 82, op := Op.pick (Operand.tmp 73) (Operand.const (Value.bool true)) (Operand.tmp 81), type := 4, pos := "law.go:64", after := #[{ on := 3, ground := Ground.data }, { on := 11, ground := Ground.data }], guard := none }, { dst := some 83, op := Op.move (Operand.tmp 82), type := 4, pos := "law.go:64", after := #[{ on := 12, ground := Ground.data }, { on := 9, ground := Ground.chain }], guard := none }, { dst := some 84, op := Op.move (Operand.tmp 11), type := 3, pos := "law.go:64", after := #[{ on := 13, ground := Ground.guard }], guard := some (13, false) }, { dst := some 85, op := Op.binOp BinOp.eql 3 (Operand.tmp 84) (Operand.const (Value.int IntKind.i64 0)) 3, type := 4, pos := "law.go:64", after := #[{ on := 14, ground := Ground.data }, { on := 13, ground := Ground.guard }], guard := some (13, false) }, { dst := some 86, op := Op.move (Operand.tmp 85), type := 4, pos := "law.go:64", after := #[{ on := 15, ground := Ground.data }, { on := 13, ground := Ground.chain }, { on := 13, ground := Ground.guard }], guard := some (13, false) }, { dst := some 87, op := Op.load 37 (Operand.tmp 12), type := 37, pos := "law.go:64", after := #[{ on := 16, ground := Ground.guard }], guard := some (16, true) }, { dst := some 88, op := Op.fieldAddr 31 (Operand.tmp 10) 2, type := 0, pos := "law.go:64", after := #[{ on := 16, ground := Ground.guard }], guard := some (16, true) }, { dst := some 89, op := Op.load 29 (Operand.tmp 88), type := 29, pos := "law.go:64", after := #[{ on := 18, ground := Ground.data }, { on := 16, ground := Ground.guard }], guard := some (16, true) }, { dst := some 90, op := Op.fieldAddr 31 (Operand.tmp 10) 1, type := 0, pos := "law.go:64", after := #[{ on := 16, ground := Ground.guard }], guard := some (16, true) }, { dst := some 91, op := Op.load 3 (Operand.tmp 90), type := 3, pos := "law.go:64", after := #[{ on := 20, ground := Ground.data }, { on := 16, ground := Ground.guard }], guard := some (16, true) }, { dst := some 92, op := Op.load 27 (Operand.tmp 6), type := 27, pos := "law.go:64", after := #[{ on := 16, ground := Ground.guard }], guard := some (16, true) }, { dst := some 93, op := Op.call { callee := Callee.value (Operand.func 14), args := #[Operand.tmp 89, Operand.tmp 91, Operand.const (Value.int IntKind.i64 0), Operand.const (Value.int IntKind.i64 0), Operand.tmp 92], argTypes := #[29, 3, 3, 3, 27] }, type := 37, pos := "law.go:64", after := #[{ on := 19, ground := Ground.data }, { on := 21, ground := Ground.data }, { on := 22, ground := Ground.data }, { on := 16, ground := Ground.chain }, { on := 16, ground := Ground.guard }], guard := some (16, true) }, { dst := some 94, op := Op.call { callee := Callee.value (Operand.func 13), args := #[Operand.tmp 87, Operand.tmp 93], argTypes := #[37, 37] }, type := 4, pos := "law.go:64", after := #[{ on := 17, ground := Ground.data }, { on := 23, ground := Ground.data }, { on := 23, ground := Ground.chain }, { on := 16, ground := Ground.guard }], guard := some (16, true) }, { dst := some 95, op := Op.unOp UnOp.not 4 (Operand.tmp 94), type := 4, pos := "law.go:64", after := #[{ on := 24, ground := Ground.data }, { on := 16, ground := Ground.guard }], guard := some (16, true) }, { dst := some 96, op := Op.pick (Operand.tmp 86) (Operand.tmp 95) (Operand.const (Value.bool false)), type := 4, pos := "law.go:64", after := #[{ on := 16, ground := Ground.data }, { on := 25, ground := Ground.data }, { on := 13, ground := Ground.guard }], guard := some (13, false) }, { dst := some 97, op := Op.pick (Operand.tmp 83) (Operand.const (Value.bool true)) (Operand.tmp 96), type := 4, pos := "law.go:64", after := #[{ on := 13, ground := Ground.data }, { on := 26, ground := Ground.data }], guard := none }]
/-- What is known of each temporary. -/
def G_rza_ok (cc : Int) (OA : List Value) : Tmp → Value → World → Prop
  | 70, xx, _ => xx = .int .i64 cc
  | 71, xx, _ => xx = .int .i64 cc
  | 72, xx, _ => xx = .bool (false)
  | 73, xx, _ => xx = .bool (false)
  | 74, xx, _ => xx = .int .i64 cc
  | 75, xx, _ => xx = .bool (true)
  | 76, xx, _ => xx = .bool (true)
  | 77, xx, _ => xx = .agg OA.toArray
  | 78, xx, _ => xx = .agg (out0 0).toArray
  | 79, xx, _ => xx = .bool (true)
  | 80, xx, _ => xx = .bool (false)
  | 81, xx, _ => xx = .bool (false)
  | 82, xx, _ => xx = .bool (false)
  | 83, xx, _ => xx = .bool (false)
  | 84, xx, _ => xx = .int .i64 cc
  | 85, xx, _ => xx = .bool (false)
  | 86, xx, _ => xx = .bool (false)
  | 87, xx, _ => xx = undef
  | 88, xx, _ => xx = undef
  | 89, xx, _ => xx = undef
  | 90, xx, _ => xx = undef
  | 91, xx, _ => xx = undef
  | 92, xx, _ => xx = undef
  | 93, xx, _ => xx = undef
  | 94, xx, _ => xx = undef
  | 95, xx, _ => xx = undef
  | 96, xx, _ => xx = .bool (false)
  | 97, xx, _ => xx = .bool (false)
  | _, _, _ => True
theorem Gm_rza_ok {cc : Int} {OA : List Value} : ∀ d u W W', Below W.heap.size W W' → G_rza_ok cc OA d u W → G_rza_ok cc OA d u W' := by
  intro d u W W' hB h
  unfold G_rza_ok at h ⊢
  split at h
  all_goals first | exact h | exact h
set_option maxHeartbeats 1000000 in
set_option maxRecDepth 100000 in
theorem rza_ok {Q : Exit → Act → World → Prop} {a0 : Act} {wa : World} {ga : Nat} {cc : Int} {OA : List Value} (hz : a0.tmps.size = 99) (b13 : a0.eval (.tmp 13) = .int .i64 cc) (b11 : a0.eval (.tmp 11) = .int .i64 cc) (b12 : a0.eval (.tmp 12) = .pointer (some ⟨ga, 0, none⟩))
    (hra : wa.heap[ga]? = some (Obj.cells OA.toArray 37 (0, 0))) (hsz37 : (Try.prog.info? 37).map (·.size) = some OA.toArray.size) (hOA : OutV wa (.agg OA.toArray) out00) (hcc : (cc == 0) = false)
    (hend : ∀ (s : Tmp → Value) (W : World), s 97 = .bool (false) → Below wa.heap.size wa W → Q .normal (overlay a0 (dstsOf ops_rza_ok) s) W) : (Code.region 15 ops_rza_ok true).wp Try.prog Q a0 wa := by
  have hmono := @Gm_rza_ok cc OA
  refine Gr.wp_region_grow (by kernel_rfl) (G_rza_ok cc OA) (by rw [hz]; kernel_rfl) ?_ ?_
  · refine And.intro ?_ (And.intro ?_ (And.intro ?_ (And.intro ?_ (And.intro ?_ (And.intro ?_ (And.intro ?_ (And.intro ?_ (And.intro ?_ (And.intro ?_ (And.intro ?_ (And.intro ?_ (And.intro ?_ (And.intro ?_ (And.intro ?_ (And.intro ?_ (And.intro ?_ (And.intro ?_ (And.intro ?_ (And.intro ?_ (And.intro ?_ (And.intro ?_ (And.intro ?_ (And.intro ?_ (And.intro ?_ (And.intro ?_ (And.intro ?_ (And.intro ?_ trivial)))))))))))))))))))))))))))
    · refine Gr.ask_val trivial rfl (fun _ => rfl) (fun a W H => ?_)
      have e13 : a.eval (.tmp 13) = .int .i64 cc := (H.base 13 rfl).trans b13
      exact run_move rfl e13
    · refine Gr.ask_val trivial rfl (fun _ => rfl) (fun a W H => ?_)
      have e11 : a.eval (.tmp 11) = .int .i64 cc := (H.base 11 rfl).trans b11
      exact run_move rfl e11
    · refine Gr.ask_val trivial rfl (fun _ => rfl) (fun a W H => ?_)
      have e70 : a.eval (.tmp 70) = .int .i64 cc := H.facts 70 rfl
      have e71 : a.eval (.tmp 71) = .int .i64 cc := H.facts 71 rfl
      (simp only [execOp]; try simp only [Option.map]); (try simp only [List.map_toArray, List.map_cons, List.map_nil]); (simp only [e70, e71]; go_simp)
    · refine Gr.ask_val trivial rfl (fun _ => rfl) (fun a W H => ?_)
      have e72 : a.eval (.tmp 72) = .bool (false) := H.facts 72 rfl
      exact run_move rfl e72
    · refine Gr.ask_val ⟨73, rfl, rfl, fun _ _ h => h⟩ rfl (fun _ => rfl) (fun a W H => ?_)
      have e11 : a.eval (.tmp 11) = .int .i64 cc := (H.base 11 rfl).trans b11
      exact run_move rfl e11
    · refine Gr.ask_val ⟨73, rfl, rfl, fun _ _ h => h⟩ rfl (fun _ => rfl) (fun a W H => ?_)
      have e74 : a.eval (.tmp 74) = .int .i64 cc := H.facts 74 rfl
      (simp only [execOp]; try simp only [Option.map]); (try simp only [List.map_toArray, List.map_cons, List.map_nil]); (simp only [e74]; go_simp)
      simpa using hcc
    · refine Gr.ask_val ⟨73, rfl, rfl, fun _ _ h => h⟩ rfl (fun _ => rfl) (fun a W H => ?_)
      have e75 : a.eval (.tmp 75) = .bool (true) := H.facts 75 rfl
      exact run_move rfl e75
    · refine Gr.ask_val ⟨76, rfl, rfl, fun _ _ h => h⟩ rfl (fun _ => rfl) (fun a W H => ?_)
      have e12 : a.eval (.tmp 12) = .pointer (some ⟨ga, 0, none⟩) := (H.base 12 rfl).trans b12
      exact Gr.run_load_row rfl e12 (H.row hra) Try.underlying37 hsz37
    · refine Gr.ask_val ⟨76, rfl, rfl, fun _ _ h => h⟩ rfl (fun _ => rfl) (fun a W H => ?_)
      (simp only [execOp, List.map_toArray, List.map_nil, Sem.run_bind, build37z, Result.andThen_ok, Sem.run_pure])
    · refine Gr.ask_call hmono ⟨76, rfl, rfl, fun _ _ h => h⟩ Try.func13 rfl rfl rfl rfl (fun a W H => ?_)
      have e77 : a.eval (.tmp 77) = .agg OA.toArray := H.facts 77 rfl
      have e78 : a.eval (.tmp 78) = .agg (out0 0).toArray := H.facts 78 rfl
      have hZ : OutV W (.agg (out0 0).toArray) out00 := ⟨.slice none 0 0, rfl, SlV.nil, by simp [out00]⟩
      simp only [List.map_toArray, List.map_cons, List.map_nil, e77, e78]
      refine (same_any out00 _ _ W (hOA.below H.below) hZ).mono ?_
      rintro e w' ⟨rfl, hB⟩
      exact ⟨_, rfl, rfl, hB⟩
    · refine Gr.ask_val ⟨76, rfl, rfl, fun _ _ h => h⟩ rfl (fun _ => rfl) (fun a W H => ?_)
      have e79 : a.eval (.tmp 79) = .bool (true) := H.facts 79 rfl
      (simp only [execOp]; try simp only [Option.map]); (try simp only [List.map_toArray, List.map_cons, List.map_nil]); (simp only [e79]; go_simp)
    · refine Gr.ask_val ⟨73, rfl, rfl, fun _ _ h => h⟩ rfl (fun _ => rfl) (fun a W H => ?_)
      have e76 : a.eval (.tmp 76) = .bool (true) := H.facts 76 rfl
      have e80 : a.eval (.tmp 80) = .bool (false) := H.facts 80 rfl
      (simp only [execOp]); (simp only [e76, e80]; go_simp)
    · refine Gr.ask_val trivial rfl (fun _ => rfl) (fun a W H => ?_)
      have e73 : a.eval (.tmp 73) = .bool (false) := H.facts 73 rfl
      have e81 : a.eval (.tmp 81) = .bool (false) := H.facts 81 rfl
      (simp only [execOp]); (simp only [e73, e81]; go_simp)
    · refine Gr.ask_val trivial rfl (fun _ => rfl) (fun a W H => ?_)
      have e82 : a.eval (.tmp 82) = .bool (false) := H.facts 82 rfl
      exact run_move rfl e82
    · refine Gr.ask_val ⟨83, rfl, rfl, fun _ _ h => h⟩ rfl (fun _ => rfl) (fun a W H => ?_)
      have e11 : a.eval (.tmp 11) = .int .i64 cc := (H.base 11 rfl).trans b11
      exact run_move rfl e11
    · refine Gr.ask_val ⟨83, rfl, rfl, fun _ _ h => h⟩ rfl (fun _ => rfl) (fun a W H => ?_)
      have e84 : a.eval (.tmp 84) = .int .i64 cc := H.facts 84 rfl
      (simp only [execOp]; try simp only [Option.map]); (try simp only [List.map_toArray, List.map_cons, List.map_nil]); (simp only [e84]; go_simp)
    · refine Gr.ask_val ⟨83, rfl, rfl, fun _ _ h => h⟩ rfl (fun _ => rfl) (fun a W H => ?_)
      have e85 : a.eval (.tmp 85) = .bool (false) := H.facts 85 rfl
      exact run_move rfl e85
    · exact Gr.ask_left ⟨86, rfl, rfl, fun u _ h => by rw [show u = _ from h]; simp⟩ rfl (fun _ => rfl)
    · exact Gr.ask_left ⟨86, rfl, rfl, fun u _ h => by rw [show u = _ from h]; simp⟩ rfl (fun _ => rfl)
    · exact Gr.ask_left ⟨86, rfl, rfl, fun u _ h => by rw [show u = _ from h]; simp⟩ rfl (fun _ => rfl)
    · exact Gr.ask_left ⟨86, rfl, rfl, fun u _ h => by rw [show u = _ from h]; simp⟩ rfl (fun _ => rfl)
    · exact Gr.ask_left ⟨86, rfl, rfl, fun u _ h => by rw [show u = _ from h]; simp⟩ rfl (fun _ => rfl)
    · exact Gr.ask_left ⟨86, rfl, rfl, fun u _ h => by rw [show u = _ from h]; simp⟩ rfl (fun _ => rfl)
    · exact Gr.ask_left ⟨86, rfl, rfl, fun u _ h => by rw [show u = _ from h]; simp⟩ rfl (fun _ => rfl)
    · exact Gr.ask_left ⟨86, rfl, rfl, fun u _ h => by rw [show u = _ from h]; simp⟩ rfl (fun _ => rfl)
    · exact Gr.ask_left ⟨86, rfl, rfl, fun u _ h => by rw [show u = _ from h]; simp⟩ rfl (fun _ => rfl)
    · refine Gr.ask_val ⟨83, rfl, rfl, fun _ _ h => h⟩ rfl (fun _ => rfl) (fun a W H => ?_)
      have e86 : a.eval (.tmp 86) = .bool (false) := H.facts 86 rfl
      (simp only [execOp]); (simp only [e86]; go_simp)
    · refine Gr.ask_val trivial rfl (fun _ => rfl) (fun a W H => ?_)
      have e83 : a.eval (.tmp 83) = .bool (false) := H.facts 83 rfl
      have e96 : a.eval (.tmp 96) = .bool (false) := H.facts 96 rfl
      (simp only [execOp]); (simp only [e83, e96]; go_simp)
  · intro s W hB hs
    exact hend s W (hs 97 rfl) hB
def ops_rzb_ok : Array Oper := #[{ dst := some 70, op := Op.move (Operand.tmp 13), type := 38, pos := "law.go:64", after := #[], guard := none }, { dst := some 71, op := Op.move (Operand.tmp 11), type := 3, pos := "law.go:64", after := #[], guard := none }, { dst := some 72, op := Op.binOp BinOp.neq 3 (Operand.tmp 70) (Operand.tmp 71) 3, type := 4, pos := "law.go:64", after := #[{ on := 0, ground := Ground.data }, { on := 1, ground := Ground.data }], guard := none }, { dst := some 73, op := Op.move (Operand.tmp 72), type := 4, pos := "law.go:64", after := #[{ on := 2, ground := Ground.data }], guard := none }, { dst := some 74, op := Op.move (Operand.tmp 11), type := 3, pos := "law.go:64", after := #[{ on := 3, ground := Ground.guard }], guard := some (3, false) }, { dst := some 75, op := Op.binOp BinOp.neq 3 (Operand.tmp 74) (Operand.const (Value.int IntKind.i64 0)) 3, type := 4, pos := "law.go:64", after := #[{ on := 4, ground := Ground.data }, { on := 3, ground := Ground.guard }], guard := some (3, false) }, { dst := some 76, op := Op.move (Operand.tmp 75), type := 4, pos := "law.go:64", after := #[{ on := 5, ground := Ground.data }, { on := 3, ground := Ground.chain }, { on := 3, ground := Ground.guard }], guard := some (3, false) }, { dst := some 77, op := Op.load 37 (Operand.tmp 12), type := 37, pos := "law.go:64", after := #[{ on := 6, ground := Ground.guard }], guard := some (6, true) }, { dst := some 78, op := Op.build 37 #[], type := 37, pos := "law.go:64", after := #[{ on := 6, ground := Ground.guard }], guard := some (6, true) }, { dst := some 79, op := Op.call { callee := Callee.value (Operand.func 13), args := #[Operand.tmp 77, Operand.tmp 78], argTypes := #[37, 37] }, type := 4, pos := "law.go:64", after := #[{ on := 7, ground := Ground.data }, { on := 8, ground := Ground.data }, { on := 6, ground := Ground.chain }, { on := 6, ground := Ground.guard }], guard := some (6, true) }, { dst := some 80, op := Op.unOp UnOp.not 4 (Operand.tmp 79), type := 4, pos := "law.go:64", after := #[{ on := 9, ground := Ground.data }, { on := 6, ground := Ground.guard }], guard := some (6, true) }, { dst := some 81, op := Op.pick (Operand.tmp 76) (Operand.tmp 80) (Operand.const (Value.bool false)), type := 4, pos := "law.go:64", after := #[{ on := 6, ground := Ground.data }, { on := 10, ground := Ground.data }, { on := 3, ground := Ground.guard }], guard := some (3, false) }, { dst := some 82, op := Op.pick (Operand.tmp 73) (Operand.const (Value.bool true)) (Operand.tmp 81), type := 4, pos := "law.go:64", after := #[{ on := 3, ground := Ground.data }, { on := 11, ground := Ground.data }], guard := none }, { dst := some 83, op := Op.move (Operand.tmp 82), type := 4, pos := "law.go:64", after := #[{ on := 12, ground := Ground.data }, { on := 9, ground := Ground.chain }], guard := none }, { dst := some 84, op := Op.move (Operand.tmp 11), type := 3, pos := "law.go:64", after := #[{ on := 13, ground := Ground.guard }], guard := some (13, false) }, { dst := some 85, op := Op.binOp BinOp.eql 3 (Operand.tmp 84) (Operand.const (Value.int IntKind.i64 0)) 3, type := 4, pos := "law.go:64", after := #[{ on := 14, ground := Ground.data }, { on := 13, ground := Ground.guard }], guard := some (13, false) }, { dst := some 86, op := Op.move (Operand.tmp 85), type := 4, pos := "law.go:64", after := #[{ on := 15, ground := Ground.data }, { on := 13, ground := Ground.chain }, { on := 13, ground := Ground.guard }], guard := some (13, false) }, { dst := some 87, op := Op.load 37 (Operand.tmp 12), type := 37, pos := "law.go:64", after := #[{ on := 16, ground := Ground.guard }], guard := some (16, true) }, { dst := some 88, op := Op.fieldAddr 31 (Operand.tmp 10) 2, type := 0, pos := "law.go:64", after := #[{ on := 16, ground := Ground.guard }], guard := some (16, true) }, { dst := some 89, op := Op.load 29 (Operand.tmp 88), type := 29, pos := "law.go:64", after := #[{ on := 18, ground := Ground.data }, { on := 16, ground := Ground.guard }], guard := some (16, true) }, { dst := some 90, op := Op.fieldAddr 31 (Operand.tmp 10) 1, type := 0, pos := "law.go:64", after := #[{ on := 16, ground := Ground.guard }], guard := some (16, true) }, { dst := some 91, op := Op.load 3 (Operand.tmp 90), type := 3, pos := "law.go:64", after := #[{ on := 20, ground := Ground.data }, { on := 16, ground := Ground.guard }], guard := some (16, true) }, { dst := some 92, op := Op.load 27 (Operand.tmp 6), type := 27, pos := "law.go:64", after := #[{ on := 16, ground := Ground.guard }], guard := some (16, true) }, { dst := some 93, op := Op.call { callee := Callee.value (Operand.func 14), args := #[Operand.tmp 89, Operand.tmp 91, Operand.const (Value.int IntKind.i64 0), Operand.const (Value.int IntKind.i64 0), Operand.tmp 92], argTypes := #[29, 3, 3, 3, 27] }, type := 37, pos := "law.go:64", after := #[{ on := 19, ground := Ground.data }, { on := 21, ground := Ground.data }, { on := 22, ground := Ground.data }, { on := 16, ground := Ground.chain }, { on := 16, ground := Ground.guard }], guard := some (16, true) }, { dst := some 94, op := Op.call { callee := Callee.value (Operand.func 13), args := #[Operand.tmp 87, Operand.tmp 93], argTypes := #[37, 37] }, type := 4, pos := "law.go:64", after := #[{ on := 17, ground := Ground.data }, { on := 23, ground := Ground.data }, { on := 23, ground := Ground.chain }, { on := 16, ground := Ground.guard }], guard := some (16, true) }, { dst := some 95, op := Op.unOp UnOp.not 4 (Operand.tmp 94), type := 4, pos := "law.go:64", after := #[{ on := 24, ground := Ground.data }, { on := 16, ground := Ground.guard }], guard := some (16, true) }, { dst := some 96, op := Op.pick (Operand.tmp 86) (Operand.tmp 95) (Operand.const (Value.bool false)), type := 4, pos := "law.go:64", after := #[{ on := 16, ground := Ground.data }, { on := 25, ground := Ground.data }, { on := 13, ground := Ground.guard }], guard := some (13, false) }, { dst := some 97, op := Op.pick (Operand.tmp 83) (Operand.const (Value.bool true)) (Operand.tmp 96), type := 4, pos := "law.go:64", after := #[{ on := 13, ground := Ground.data }, { on := 26, ground := Ground.data }], guard := none }]
/-- What is known of each temporary. -/
def G_rzb_ok (gk kc n : Nat) (ka : Option Addr) (K : Fun) (I : Inp) (OA : List Value) (XV : Array Value) : Tmp → Value → World → Prop
  | 70, xx, _ => xx = .int .i64 0
  | 71, xx, _ => xx = .int .i64 0
  | 72, xx, _ => xx = .bool (false)
  | 73, xx, _ => xx = .bool (false)
  | 74, xx, _ => xx = .int .i64 0
  | 75, xx, _ => xx = .bool (false)
  | 76, xx, _ => xx = .bool (false)
  | 77, xx, _ => xx = undef
  | 78, xx, _ => xx = undef
  | 79, xx, _ => xx = undef
  | 80, xx, _ => xx = undef
  | 81, xx, _ => xx = .bool (false)
  | 82, xx, _ => xx = .bool (false)
  | 83, xx, _ => xx = .bool (false)
  | 84, xx, _ => xx = .int .i64 0
  | 85, xx, _ => xx = .bool (true)
  | 86, xx, _ => xx = .bool (true)
  | 87, xx, _ => xx = .agg OA.toArray
  | 88, xx, _ => xx = .pointer (some ⟨gk, 2, none⟩)
  | 89, xx, _ => xx = .slice ka K.bs.length kc
  | 90, xx, _ => xx = .pointer (some ⟨gk, 1, none⟩)
  | 91, xx, _ => xx = .int .i64 K.v
  | 92, xx, _ => xx = .agg XV
  | 93, xx, ww => OutV ww xx (play K.v K.bs 0 (st0 n (0 : Nat) I))
  | 94, xx, _ => xx = .bool (true)
  | 95, xx, _ => xx = .bool (false)
  | 96, xx, _ => xx = .bool (false)
  | 97, xx, _ => xx = .bool (false)
  | _, _, _ => True
theorem Gm_rzb_ok {gk kc n : Nat} {ka : Option Addr} {K : Fun} {I : Inp} {OA : List Value} {XV : Array Value} : ∀ d u W W', Below W.heap.size W W' → G_rzb_ok gk kc n ka K I OA XV d u W → G_rzb_ok gk kc n ka K I OA XV d u W' := by
  intro d u W W' hB h
  unfold G_rzb_ok at h ⊢
  split at h
  all_goals first | exact h | exact OutV.below h hB
set_option maxHeartbeats 1000000 in
set_option maxRecDepth 100000 in
theorem rzb_ok {Q : Exit → Act → World → Prop} {a0 : Act} {wa : World} {ga gk gi kc n : Nat} {ka : Option Addr} {K : Fun} {I : Inp} {OA : List Value} {XV : Array Value} (hz : a0.tmps.size = 99) (b13 : a0.eval (.tmp 13) = .int .i64 0) (b11 : a0.eval (.tmp 11) = .int .i64 0) (b12 : a0.eval (.tmp 12) = .pointer (some ⟨ga, 0, none⟩)) (b10 : a0.eval (.tmp 10) = .pointer (some ⟨gk, 0, none⟩)) (b6 : a0.eval (.tmp 6) = .pointer (some ⟨gi, 0, none⟩))
    (hra : wa.heap[ga]? = some (Obj.cells OA.toArray 37 (0, 0))) (hrk : wa.heap[gk]? = some (Obj.cells #[.int .i64 K.p, .int .i64 K.v, .slice ka K.bs.length kc] 31 (0, 0))) (hrx : wa.heap[gi]? = some (Obj.cells XV 27 (0, 0))) (hsz37 : (Try.prog.info? 37).map (·.size) = some OA.toArray.size) (size27 : (Try.prog.info? 27).map (·.size) = some XV.size) (hOA : OutV wa (.agg OA.toArray) (play K.v K.bs 0 (st0 n (0 : Nat) I))) (hK : BlksV wa (.slice ka K.bs.length kc) K.bs) (hI : InpV wa (.agg XV) I)
    (hok : Okay K.v n K.bs) (hn : K.v = (n : Int)) (hn2 : n ≤ 1000000) (hbl : 1 ≤ K.bs.length ∧ K.bs.length ≤ 1000) (hargs : 0 + I.args.length ≤ n) (hfu : 0 ≤ I.fuel ∧ I.fuel ≤ 1048576)
    (hend : ∀ (s : Tmp → Value) (W : World), s 97 = .bool (false) → Below wa.heap.size wa W → Q .normal (overlay a0 (dstsOf ops_rzb_ok) s) W) : (Code.region 15 ops_rzb_ok true).wp Try.prog Q a0 wa := by
  have hmono := @Gm_rzb_ok gk kc n ka K I OA XV
  refine Gr.wp_region_grow (by kernel_rfl) (G_rzb_ok gk kc n ka K I OA XV) (by rw [hz]; kernel_rfl) ?_ ?_
  · refine And.intro ?_ (And.intro ?_ (And.intro ?_ (And.intro ?_ (And.intro ?_ (And.intro ?_ (And.intro ?_ (And.intro ?_ (And.intro ?_ (And.intro ?_ (And.intro ?_ (And.intro ?_ (And.intro ?_ (And.intro ?_ (And.intro ?_ (And.intro ?_ (And.intro ?_ (And.intro ?_ (And.intro ?_ (And.intro ?_ (And.intro ?_ (And.intro ?_ (And.intro ?_ (And.intro ?_ (And.intro ?_ (And.intro ?_ (And.intro ?_ (And.intro ?_ trivial)))))))))))))))))))))))))))
    · refine Gr.ask_val trivial rfl (fun _ => rfl) (fun a W H => ?_)
      have e13 : a.eval (.tmp 13) = .int .i64 0 := (H.base 13 rfl).trans b13
      exact run_move rfl e13
    · refine Gr.ask_val trivial rfl (fun _ => rfl) (fun a W H => ?_)
      have e11 : a.eval (.tmp 11) = .int .i64 0 := (H.base 11 rfl).trans b11
      exact run_move rfl e11
    · refine Gr.ask_val trivial rfl (fun _ => rfl) (fun a W H => ?_)
      have e70 : a.eval (.tmp 70) = .int .i64 0 := H.facts 70 rfl
      have e71 : a.eval (.tmp 71) = .int .i64 0 := H.facts 71 rfl
      (simp only [execOp]; try simp only [Option.map]); (try simp only [List.map_toArray, List.map_cons, List.map_nil]); (simp only [e70, e71]; go_simp)
    · refine Gr.ask_val trivial rfl (fun _ => rfl) (fun a W H => ?_)
      have e72 : a.eval (.tmp 72) = .bool (false) := H.facts 72 rfl
      exact run_move rfl e72
    · refine Gr.ask_val ⟨73, rfl, rfl, fun _ _ h => h⟩ rfl (fun _ => rfl) (fun a W H => ?_)
      have e11 : a.eval (.tmp 11) = .int .i64 0 := (H.base 11 rfl).trans b11
      exact run_move rfl e11
    · refine Gr.ask_val ⟨73, rfl, rfl, fun _ _ h => h⟩ rfl (fun _ => rfl) (fun a W H => ?_)
      have e74 : a.eval (.tmp 74) = .int .i64 0 := H.facts 74 rfl
      (simp only [execOp]; try simp only [Option.map]); (try simp only [List.map_toArray, List.map_cons, List.map_nil]); (simp only [e74]; go_simp)
    · refine Gr.ask_val ⟨73, rfl, rfl, fun _ _ h => h⟩ rfl (fun _ => rfl) (fun a W H => ?_)
      have e75 : a.eval (.tmp 75) = .bool (false) := H.facts 75 rfl
      exact run_move rfl e75
    · exact Gr.ask_left ⟨76, rfl, rfl, fun u _ h => by rw [show u = _ from h]; simp⟩ rfl (fun _ => rfl)
    · exact Gr.ask_left ⟨76, rfl, rfl, fun u _ h => by rw [show u = _ from h]; simp⟩ rfl (fun _ => rfl)
    · exact Gr.ask_left ⟨76, rfl, rfl, fun u _ h => by rw [show u = _ from h]; simp⟩ rfl (fun _ => rfl)
    · exact Gr.ask_left ⟨76, rfl, rfl, fun u _ h => by rw [show u = _ from h]; simp⟩ rfl (fun _ => rfl)
    · refine Gr.ask_val ⟨73, rfl, rfl, fun _ _ h => h⟩ rfl (fun _ => rfl) (fun a W H => ?_)
      have e76 : a.eval (.tmp 76) = .bool (false) := H.facts 76 rfl
      (simp only [execOp]); (simp only [e76]; go_simp)
    · refine Gr.ask_val trivial rfl (fun _ => rfl) (fun a W H => ?_)
      have e73 : a.eval (.tmp 73) = .bool (false) := H.facts 73 rfl
      have e81 : a.eval (.tmp 81) = .bool (false) := H.facts 81 rfl
      (simp only [execOp]); (simp only [e73, e81]; go_simp)
    · refine Gr.ask_val trivial rfl (fun _ => rfl) (fun a W H => ?_)
      have e82 : a.eval (.tmp 82) = .bool (false) := H.facts 82 rfl
      exact run_move rfl e82
    · refine Gr.ask_val ⟨83, rfl, rfl, fun _ _ h => h⟩ rfl (fun _ => rfl) (fun a W H => ?_)
      have e11 : a.eval (.tmp 11) = .int .i64 0 := (H.base 11 rfl).trans b11
      exact run_move rfl e11
    · refine Gr.ask_val ⟨83, rfl, rfl, fun _ _ h => h⟩ rfl (fun _ => rfl) (fun a W H => ?_)
      have e84 : a.eval (.tmp 84) = .int .i64 0 := H.facts 84 rfl
      (simp only [execOp]; try simp only [Option.map]); (try simp only [List.map_toArray, List.map_cons, List.map_nil]); (simp only [e84]; go_simp)
    · refine Gr.ask_val ⟨83, rfl, rfl, fun _ _ h => h⟩ rfl (fun _ => rfl) (fun a W H => ?_)
      have e85 : a.eval (.tmp 85) = .bool (true) := H.facts 85 rfl
      exact run_move rfl e85
    · refine Gr.ask_val ⟨86, rfl, rfl, fun _ _ h => h⟩ rfl (fun _ => rfl) (fun a W H => ?_)
      have e12 : a.eval (.tmp 12) = .pointer (some ⟨ga, 0, none⟩) := (H.base 12 rfl).trans b12
      exact Gr.run_load_row rfl e12 (H.row hra) Try.underlying37 hsz37
    · refine Gr.ask_val ⟨86, rfl, rfl, fun _ _ h => h⟩ rfl (fun _ => rfl) (fun a W H => ?_)
      have e10 : a.eval (.tmp 10) = .pointer (some ⟨gk, 0, none⟩) := (H.base 10 rfl).trans b10
      (simp only [execOp]; try simp only [Option.map]); (try simp only [List.map_toArray, List.map_cons, List.map_nil]); (simp only [e10]; go_simp)
    · refine Gr.ask_val ⟨86, rfl, rfl, fun _ _ h => h⟩ rfl (fun _ => rfl) (fun a W H => ?_)
      have e88 : a.eval (.tmp 88) = .pointer (some ⟨gk, 2, none⟩) := H.facts 88 rfl
      have hcell : W.cell? ⟨gk, 2, none⟩ = some (.slice ka K.bs.length kc) := by rw [cell_of_row _ _ _ _ _ _ (H.row hrk)]; rfl
      (simp only [execOp]; try simp only [Option.map]); (try simp only [List.map_toArray, List.map_cons, List.map_nil]); (simp only [e88]; go_simp)
    · refine Gr.ask_val ⟨86, rfl, rfl, fun _ _ h => h⟩ rfl (fun _ => rfl) (fun a W H => ?_)
      have e10 : a.eval (.tmp 10) = .pointer (some ⟨gk, 0, none⟩) := (H.base 10 rfl).trans b10
      (simp only [execOp]; try simp only [Option.map]); (try simp only [List.map_toArray, List.map_cons, List.map_nil]); (simp only [e10]; go_simp)
    · refine Gr.ask_val ⟨86, rfl, rfl, fun _ _ h => h⟩ rfl (fun _ => rfl) (fun a W H => ?_)
      have e90 : a.eval (.tmp 90) = .pointer (some ⟨gk, 1, none⟩) := H.facts 90 rfl
      have hcell : W.cell? ⟨gk, 1, none⟩ = some (.int .i64 K.v) := by rw [cell_of_row _ _ _ _ _ _ (H.row hrk)]; rfl
      (simp only [execOp]; try simp only [Option.map]); (try simp only [List.map_toArray, List.map_cons, List.map_nil]); (simp only [e90]; go_simp)
    · refine Gr.ask_val ⟨86, rfl, rfl, fun _ _ h => h⟩ rfl (fun _ => rfl) (fun a W H => ?_)
      have e6 : a.eval (.tmp 6) = .pointer (some ⟨gi, 0, none⟩) := (H.base 6 rfl).trans b6
      exact Gr.run_load_row rfl e6 (H.row hrx) Try.underlying27 size27
    · refine Gr.ask_call hmono ⟨86, rfl, rfl, fun _ _ h => h⟩ Try.func14 rfl rfl rfl rfl (fun a W H => ?_)
      have e89 : a.eval (.tmp 89) = .slice ka K.bs.length kc := H.facts 89 rfl
      have e91 : a.eval (.tmp 91) = .int .i64 K.v := H.facts 91 rfl
      have e92 : a.eval (.tmp 92) = .agg XV := H.facts 92 rfl
      simp only [List.map_toArray, List.map_cons, List.map_nil, e89, e91, e92]
      refine (play_any (.slice ka K.bs.length kc) K.bs K.v 0 0 (.agg XV) I n W (hK.below H.below) (hI.below H.below) hok (by rw [hn]; omega) hn2 ⟨by omega, by omega⟩ hbl hargs hfu).mono ?_
      rintro e w' ⟨x, rfl, hO, hB⟩
      exact ⟨x, rfl, hO.v, hB⟩
    · refine Gr.ask_call hmono ⟨86, rfl, rfl, fun _ _ h => h⟩ Try.func13 rfl rfl rfl rfl (fun a W H => ?_)
      have e87 : a.eval (.tmp 87) = .agg OA.toArray := H.facts 87 rfl
      have e93 : OutV W (a.eval (.tmp 93)) (play K.v K.bs 0 (st0 n (0 : Nat) I)) := H.facts 93 rfl
      simp only [List.map_toArray, List.map_cons, List.map_nil, e87]
      refine (same_any _ _ _ W (hOA.below H.below) e93).mono ?_
      rintro e w' ⟨rfl, hB⟩
      exact ⟨_, rfl, rfl, hB⟩
    · refine Gr.ask_val ⟨86, rfl, rfl, fun _ _ h => h⟩ rfl (fun _ => rfl) (fun a W H => ?_)
      have e94 : a.eval (.tmp 94) = .bool (true) := H.facts 94 rfl
      (simp only [execOp]; try simp only [Option.map]); (try simp only [List.map_toArray, List.map_cons, List.map_nil]); (simp only [e94]; go_simp)
    · refine Gr.ask_val ⟨83, rfl, rfl, fun _ _ h => h⟩ rfl (fun _ => rfl) (fun a W H => ?_)
      have e86 : a.eval (.tmp 86) = .bool (true) := H.facts 86 rfl
      have e95 : a.eval (.tmp 95) = .bool (false) := H.facts 95 rfl
      (simp only [execOp]); (simp only [e86, e95]; go_simp)
    · refine Gr.ask_val trivial rfl (fun _ => rfl) (fun a W H => ?_)
      have e83 : a.eval (.tmp 83) = .bool (false) := H.facts 83 rfl
      have e96 : a.eval (.tmp 96) = .bool (false) := H.facts 96 rfl
      (simp only [execOp]); (simp only [e83, e96]; go_simp)
  · intro s W hB hs
    exact hend s W (hs 97 rfl) hB
theorem sized_allc {F : Fun} (h : (chk F).1 = 0) : (0 ≤ F.p ∧ F.p ≤ 4) ∧ F.p ≤ F.v ∧ F.v ≤ 32 ∧ 1 ≤ F.bs.length ∧ F.bs.length ≤ 16 := by
  have h1 := (chk_all h).1
  unfold sized at h1
  simp at h1
  omega
theorem inpF_zero {p : Int} {I : Inp} (h : inpF p I = 0) : (I.args.length : Int) = p ∧ 0 ≤ I.fuel ∧ I.fuel ≤ 1048576 := by
  unfold inpF at h
  split at h
  · omega
  · split at h
    · omega
    · omega
/-- Three boxes, behind. -/
theorem three_rows (w : World) (a b c : Array Value) (ta tb tc : TypeId) : ∀ W, Below (((w.alloc (.cells a ta)).alloc (.cells b tb)).alloc (.cells c tc)).heap.size (((w.alloc (.cells a ta)).alloc (.cells b tb)).alloc (.cells c tc)) W →
    W.heap[w.heap.size]? = some (Obj.cells a ta (0, 0)) ∧ W.heap[w.heap.size + 1]? = some (Obj.cells b tb (0, 0)) ∧ W.heap[w.heap.size + 2]? = some (Obj.cells c tc (0, 0)) ∧ Below w.heap.size w W := by
  intro W hB
  have h1 := heap_alloc_new w (.cells a ta)
  have h2 := heap_alloc_new (w.alloc (.cells a ta)) (.cells b tb)
  have h3 := heap_alloc_new ((w.alloc (.cells a ta)).alloc (.cells b tb)) (.cells c tc)
  have b1 := bel1' w (.cells a ta)
  have b2 := bel1' (w.alloc (.cells a ta)) (.cells b tb)
  have b3 := bel1' ((w.alloc (.cells a ta)).alloc (.cells b tb)) (.cells c tc)
  have e1 : (w.alloc (.cells a ta)).heap.size = w.heap.size + 1 := by simp
  have e2 : ((w.alloc (.cells a ta)).alloc (.cells b tb)).heap.size = w.heap.size + 2 := by simp
  have e3 : (((w.alloc (.cells a ta)).alloc (.cells b tb)).alloc (.cells c tc)).heap.size = w.heap.size + 3 := by simp
  rw [e1] at h2 b2
  rw [e2] at h3 b3
  refine ⟨?_, ?_, ?_, bel_of b1 (by rw [e1]; exact b2.trans ((b3.mono (by omega)).trans (hB.mono (by rw [e3]; omega))))⟩
  · rw [hB.block _ (by rw [e3]; omega), b3.block _ (by omega), b2.block _ (by omega)]
    exact h1
  · rw [hB.block _ (by rw [e3]; omega), b3.block _ (by omega)]
    exact h2
  · rw [hB.block _ (by rw [e3]; omega)]
    exact h3
theorem row_cells3 {W : World} {g : Nat} {a b c : Value} {t : TypeId} (h : W.heap[g]? = some (Obj.cells #[a, b, c] t (0, 0))) : W.cell? ⟨g, 0, none⟩ = some a ∧ W.cell? ⟨g, 1, none⟩ = some b ∧ W.cell? ⟨g, 2, none⟩ = some c := by
  refine ⟨?_, ?_, ?_⟩
  all_goals (rw [cell_of_row _ _ _ _ _ _ h]; rfl)
theorem row_cells4 {W : World} {g : Nat} {a b c d : Value} {t : TypeId} (h : W.heap[g]? = some (Obj.cells #[a, b, c, d] t (0, 0))) : W.cell? ⟨g, 0, none⟩ = some a ∧ W.cell? ⟨g, 1, none⟩ = some b ∧ W.cell? ⟨g, 2, none⟩ = some c ∧ W.cell? ⟨g, 3, none⟩ = some d := by
  refine ⟨?_, ?_, ?_, ?_⟩
  all_goals (rw [cell_of_row _ _ _ _ _ _ h]; rfl)
set_option maxHeartbeats 4000000 in
set_option maxRecDepth 100000 in
theorem refuses_walk (v0 v1 v2 : Value) (F : Fun) (sa sb sc : Int) (bs : List Int) (I : Inp) (pa : Int) (w : World) (hF : FunV w v0 F) (hS : SpecV w v1 sa sb sc bs) (hI : InpV w v2 I) : Calls Try.prog 4 #[v0, v1, v2, .int .i64 pa] w fun e w' => e = .returned (.bool true) ∧ Below w.heap.size w w' := by
  have hF' := hF
  obtain ⟨fu, rfl, hfu⟩ := hF'
  obtain ⟨fa, fc, rfl⟩ := hfu.slice
  have hS' := hS
  obtain ⟨u, rfl, hsa, hsb, hsc, hu⟩ := hS'
  have hI' := hI
  obtain ⟨a, b, c, rfl, ha, hm, hc⟩ := hI'
  obtain ⟨ua, uc, rfl⟩ := hu.slice
  obtain ⟨aa, ac, rfl⟩ := ha.slice
  obtain ⟨ba, bc, rfl⟩ := hm.slice
  obtain ⟨ca, cc, rfl⟩ := hc.slice
  have hbox := three_rows w #[.int .i64 F.p, .int .i64 F.v, .slice fa F.bs.length fc] #[.int .u8 sa, .int .u8 sb, .int .u8 sc, .slice ua bs.length uc] #[.slice aa I.args.length ac, .slice ba I.mem.length bc, .slice ca I.ans.length cc, .int .i64 I.fuel] 31 24 27
  have HA := hide (awake_any (((w.alloc (.cells #[.int .i64 F.p, .int .i64 F.v, .slice fa F.bs.length fc] 31)).alloc (.cells #[.int .u8 sa, .int .u8 sb, .int .u8 sc, .slice ua bs.length uc] 24)).alloc (.cells #[.slice aa I.args.length ac, .slice ba I.mem.length bc, .slice ca I.ans.length cc, .int .i64 I.fuel] 27)))
  have HBOX := hide hbox
  clear hbox ha hm hc hu hsa hsb hsc
  go_enter Try.func4, Try.ntmps4
  go_wp2_with fail
  refine HA.out.mono ?_
  rintro e W1 ⟨rfl, hB1⟩
  obtain ⟨hr1, hr2, hr3, hBw⟩ := HBOX.out W1 hB1
  clear HBOX HA hB1
  have HL := hide (long_any _ F.bs W1 (hfu.below hBw))
  obtain ⟨f0, f1, f2⟩ := row_cells3 hr1
  have HR := hide (And.intro hr1 (And.intro hr2 (And.intro hr3 hBw)))
  clear hr1 hr2 hr3 hBw
  go_wp2_with fail
  refine HL.out.mono ?_
  rintro e W2 ⟨⟨lg, rfl⟩, hB2⟩
  obtain ⟨hr1, hr2, hr3, hBw⟩ := HR.out
  have hr1 := (hB2.block _ (Array.getElem?_eq_some_iff.1 hr1).1).trans hr1
  have hr2 := (hB2.block _ (Array.getElem?_eq_some_iff.1 hr2).1).trans hr2
  have hr3 := (hB2.block _ (Array.getElem?_eq_some_iff.1 hr3).1).trans hr3
  have HBW := hide (bel_of hBw hB2)
  obtain ⟨i0, i1, i2, i3⟩ := row_cells4 hr3
  have HR2 := hide (And.intro hr1 (And.intro hr2 hr3))
  clear HR HL f0 f1 f2 hr1 hr2 hr3 hBw hB2
  cases lg with
  | true =>
    go_wp2_with fail
    go_ret
    exact ⟨rfl, HBW.out⟩
  | false =>
    by_cases hlong : 1000 < wrap64 (wrap64 ((I.args.length : Int) + (I.mem.length : Int)) + (I.ans.length : Int))
    · go_wp2_with fail
      go_ret
      exact ⟨rfl, HBW.out⟩
    · have hsh : wrap64 (wrap64 ((I.args.length : Int) + (I.mem.length : Int)) + (I.ans.length : Int)) ≤ 1000 := by omega
      go_wp2_with fail
      clear i0 i1 i2 i3
      refine rz5_ok (gi := w.heap.size + 2) (I := I) rfl rfl rfl HR2.out.2.2 (by kernel_rfl) (hI.below HBW.out) ?_
      intro s5 W3 hs5 hB3
      simp [overlay, dstsOf, ops_rz5_ok, hs5]
      go_wp2_with fail
      refine rz7_ok (gf := w.heap.size) (gs := w.heap.size + 1) (F := F) (M := made sa sb sc bs) rfl rfl rfl ((hB3.block _ (Array.getElem?_eq_some_iff.1 HR2.out.1).1).trans HR2.out.1) ((hB3.block _ (Array.getElem?_eq_some_iff.1 HR2.out.2.1).1).trans HR2.out.2.1) (by kernel_rfl) (hS.below (bel_of HBW.out hB3)) rfl ?_
      intro s7 W4 hs44 hs45 hs43 hB4
      obtain ⟨gb, uM, hs43, hrow, huM⟩ := hs43
      simp [overlay, dstsOf, ops_rz7_ok, hs44, hs45, hs43]
      have hBW4 := bel_of HBW.out (bel_of hB3 hB4)
      have hri : W4.heap[w.heap.size + 2]? = _ := (bel_of hB3 hB4 |>.block _ (Array.getElem?_eq_some_iff.1 HR2.out.2.2).1).trans HR2.out.2.2
      have HK : Hid (∀ j : Nat, j < 2 → ∃ K : Fun, ∃ (ka : Option Addr) (kc : Nat), W4.cell? ⟨gb, j * 3, none⟩ = some (.int .i64 K.p) ∧ W4.cell? ⟨gb, j * 3 + 1, none⟩ = some (.int .i64 K.v) ∧ W4.cell? ⟨gb, j * 3 + 2, none⟩ = some (.slice ka K.bs.length kc) ∧ BlksV W4 (.slice ka K.bs.length kc) K.bs) := by
        intro j hj
        obtain ⟨ma, mc, rfl⟩ := huM.slice
        have hj2 : j = 0 ∨ j = 1 := by omega
        rcases hj2 with rfl | rfl
        · refine ⟨F, fa, fc, ?_, ?_, ?_, hfu.below hBW4⟩
          all_goals (rw [cell_of_row _ _ _ _ _ _ hrow]; rfl)
        · refine ⟨_, ma, mc, ?_, ?_, ?_, huM⟩
          all_goals (rw [cell_of_row _ _ _ _ _ _ hrow]; rfl)
      have HW4 := hide (And.intro hBW4 hri)
      have HI := hide (hI.below hBW4)
      have HFU := hide hfu
      clear hs44 hs45 hs43 hrow huM hBW4 hri hB4 hB3 hs5 HR2 HBW hF hfu hS hI
      go_wp2_with fail
      go_loopw [45] (fun iv wr => ∃ j : Nat, j ≤ 2 ∧ iv = .int .i64 j ∧ Below W4.heap.size W4 wr) (fun iv _ => 2 - (intOf iv).toNat)
      case atStart => exact ⟨0, by omega, rfl, Below.refl _ _⟩
      case round =>
        obtain ⟨j, hj, rfl, hBr⟩ := hrel
        by_cases hlt : j < 2
        · obtain ⟨K, ka, kc, k0, k1, k2, hK⟩ := HK.out j hlt
          have k0 := cell_below hBr k0
          have k1 := cell_below hBr k1
          have k2 := cell_below hBr k2
          have hK := hK.below hBr
          have hlt' : (j : Int) < 2 := by omega
          have hbx := bel1' wr (.cells #[.int .i64 K.p, .int .i64 K.v, .slice ka K.bs.length kc] 31)
          have hrk : (wr.alloc (.cells #[.int .i64 K.p, .int .i64 K.v, .slice ka K.bs.length kc] 31)).heap[wr.heap.size]? = some (Obj.cells #[.int .i64 K.p, .int .i64 K.v, .slice ka K.bs.length kc] 31 (0, 0)) := heap_alloc_new wr _
          have hFK : FunV (wr.alloc (.cells #[.int .i64 K.p, .int .i64 K.v, .slice ka K.bs.length kc] 31)) (.agg #[.int .i64 K.p, .int .i64 K.v, .slice ka K.bs.length kc]) K := ⟨_, rfl, hK.below hbx⟩
          have HC := hide (refFunc_any K _ _ hFK)
          have hri := (hbx.block _ (Nat.lt_of_lt_of_le (Array.getElem?_eq_some_iff.1 HW4.out.2).1 hBr.size)).trans ((hBr.block _ (Array.getElem?_eq_some_iff.1 HW4.out.2).1).trans HW4.out.2)
          have HX := hide (And.intro hrk (And.intro hri (And.intro (bel_of hBr hbx) hFK)))
          obtain ⟨r0, r1, r2⟩ := row_cells3 hrk
          clear hK hbx hrk hFK hri hBr
          go_wp2_with fail
          refine HC.out.mono ?_
          clear HC r0 r1 r2 k0 k1 k2
          generalize wr.alloc (.cells #[.int .i64 K.p, .int .i64 K.v, .slice ka K.bs.length kc] 31) = A at *
          generalize wr.heap.size = gk at *
          rintro e W5 ⟨rfl, hB5⟩
          obtain ⟨xrk, xri, xbel, xfk⟩ := HX.out
          have xrk := (hB5.block _ (Array.getElem?_eq_some_iff.1 xrk).1).trans xrk
          have xri := (hB5.block _ (Array.getElem?_eq_some_iff.1 xri).1).trans xri
          have xbel := bel_of xbel hB5
          have xfk : FunV W5 (.agg #[.int .i64 K.p, .int .i64 K.v, .slice ka K.bs.length kc]) K := by obtain ⟨ub, e1, h1⟩ := xfk; exact ⟨ub, e1, h1.below hB5⟩
          obtain ⟨r0, r1, r2⟩ := row_cells3 xrk
          obtain ⟨x0, x1, x2, x3⟩ := row_cells4 xri
          have HX5 := hide (And.intro xrk (And.intro xri (And.intro xbel xfk)))
          clear HX xrk xri xbel xfk hB5
          obtain ⟨Z, hz, hzs⟩ := z37
          have HZ := hide (And.intro hz hzs)
          clear hz hzs
          unfold faultV
          obtain ⟨c0, hc0⟩ : ∃ c0, (chk K).1 = c0 := ⟨_, rfl⟩
          obtain ⟨c1, hc1⟩ : ∃ c1, (chk K).2.1 = c1 := ⟨_, rfl⟩
          obtain ⟨c2, hc2⟩ : ∃ c2, (chk K).2.2 = c2 := ⟨_, rfl⟩
          rw [hc0, hc1, hc2]
          have hfld := run_field50 c0 c1 c2
          by_cases hck : c0 ≠ 0
          · have hckb : (c0 == 0) = false := by simpa using hck
            have HCC : Hid (((30 : Int) == 0) = false) := by show _ = _; decide
            have HRUN := hide (run_any K I _ _ W5 HX5.out.2.2.2 (HI.out.below HX5.out.2.2.1))
            have HRF : Hid (runF K I = 30) := by show _ = _; unfold runF; rw [if_pos (by rw [hc0]; exact hck)]
            have HRO : Hid (runO K I = out00) := by show _ = _; unfold runO; rw [HRF.out]; rfl
            clear hck hc0 hc1 hc2
            go_wp2_with fail
            refine HRUN.out.mono ?_
            clear HRUN r0 r1 r2 x0 x1 x2 x3
            rintro e W7 ⟨x, rfl, hOut, hB7⟩
            rw [HRF.out]
            rw [HRO.out] at hOut
            obtain ⟨OA, cva, rfl, hOA, hla, hoa, hca, hma⟩ := out_var hOut
            have HOV := hide hOut.v
            have HOA := hide (And.intro hla hoa)
            clear hOA hla hoa hca hma hOut
            go_wp2_with (refine wpList_var 37 12 rfl rfl rfl rfl (.tmp 68) rfl rfl Z OA.toArray HZ.out.1 (by simp) rfl (by simp only [List.size_toArray, HOA.out.1]; exact size37) (by simp only [List.size_toArray, HOA.out.1]; exact HZ.out.2) HOA.out.2 ?_; intro ga W8 hga)
            have hB8 : Below W7.heap.size W7 W8 := by have := hga.out.2.2; rwa [hga.out.1] at this
            have hB78 := bel_of hB7 hB8
            refine rza_ok (ga := ga) (cc := 30) (OA := OA) rfl rfl rfl rfl hga.out.2.1 (by simp only [List.size_toArray, HOA.out.1]; exact size37) (HOV.out.below hB8) HCC.out ?_
            intro s15 W9 hs97 hB9
            simp [overlay, dstsOf, ops_rza_ok, hs97]
            have HB9 := hide (bel_of HX5.out.2.2.1 (bel_of hB78 hB9))
            clear hB9 hB78 hB8 hB7 hga hs97
            go_wp2_with fail
            go_roundw
            case rel => exact ⟨j + 1, by omega, by go_num, HB9.out⟩
            case measure => simp [intOf]; omega
          · have hck : c0 = 0 := by simpa using hck
            subst hck
            have HP := hide (refInp_any K.p _ I W5 (HI.out.below HX5.out.2.2.1))
            have HCK : Hid ((chk K).1 = 0) := hc0
            clear hc0 hc1 hc2
            go_wp2_with fail
            refine HP.out.mono ?_
            rintro e W6 ⟨rfl, hB6⟩
            obtain ⟨xrk, xri, xbel, xfk⟩ := HX5.out
            have xrk := (hB6.block _ (Array.getElem?_eq_some_iff.1 xrk).1).trans xrk
            have xri := (hB6.block _ (Array.getElem?_eq_some_iff.1 xri).1).trans xri
            have xbel := bel_of xbel hB6
            have xfk : FunV W6 (.agg #[.int .i64 K.p, .int .i64 K.v, .slice ka K.bs.length kc]) K := by obtain ⟨ub, e1, h1⟩ := xfk; exact ⟨ub, e1, h1.below hB6⟩
            clear r0 r1 r2 x0 x1 x2 x3
            obtain ⟨r0, r1, r2⟩ := row_cells3 xrk
            obtain ⟨x0, x1, x2, x3⟩ := row_cells4 xri
            have HX6 := hide (And.intro xrk (And.intro xri (And.intro xbel xfk)))
            clear HX5 HP xrk xri xbel xfk hB6
            obtain ⟨ci, hci⟩ : ∃ ci, inpF K.p I = ci := ⟨_, rfl⟩
            rw [hci]
            have hc0 := HCK.out
            by_cases hcz : ci = 0
            · subst hcz
              by_cases hfuel : 10000 < I.fuel
              · have HB6 := hide HX6.out.2.2.1
                clear hci hc0
                go_wp2_with fail
                go_roundw
                case rel => exact ⟨j + 1, by omega, by go_num, HB6.out⟩
                case measure => simp [intOf]; omega
              · have hfuel2 : I.fuel ≤ 10000 := by omega
                have HRUN := hide (run_any K I _ _ W6 HX6.out.2.2.2 (HI.out.below HX6.out.2.2.1))
                have HRF : Hid (runF K I = 0) := by show _ = _; unfold runF; rw [if_neg (by rw [hc0]; simp)]; exact hci
                have HRO : Hid (runO K I = play K.v K.bs 0 (st0 K.v.toNat 0 I)) := runO_play HRF.out
                have HCI := hide hci
                clear hci hc0 hfuel
                go_wp2_with fail
                refine HRUN.out.mono ?_
                clear HRUN r0 r1 r2 x0 x1 x2 x3
                rintro e W7 ⟨x, rfl, hOut, hB7⟩
                rw [HRF.out]
                rw [HRO.out] at hOut
                obtain ⟨OA, cva, rfl, hOA, hla, hoa, hca, hma⟩ := out_var hOut
                have HOV := hide hOut.v
                have HOA := hide (And.intro hla hoa)
                clear hOA hla hoa hca hma hOut
                go_wp2_with (refine wpList_var 37 12 rfl rfl rfl rfl (.tmp 68) rfl rfl Z OA.toArray HZ.out.1 (by simp) rfl (by simp only [List.size_toArray, HOA.out.1]; exact size37) (by simp only [List.size_toArray, HOA.out.1]; exact HZ.out.2) HOA.out.2 ?_; intro ga W8 hga)
                have hB8 : Below W7.heap.size W7 W8 := by have := hga.out.2.2; rwa [hga.out.1] at this
                have hB78 := bel_of hB7 hB8
                have hkn := sized_allc HCK.out
                obtain ⟨hin1, hin2⟩ := inpF_zero HCI.out
                obtain ⟨vn, hvn⟩ : ∃ vn : Nat, K.v = (vn : Int) := ⟨K.v.toNat, by omega⟩
                have hok := okay_of HCK.out hvn
                rw [← hvn] at hok
                have hov : OutV W8 (.agg OA.toArray) (play K.v K.bs 0 (st0 vn (0 : Nat) I)) := by
                  have := HOV.out.below hB8
                  rw [hvn, Int.toNat_natCast, ← hvn] at this
                  exact this
                refine rzb_ok (ga := ga) (gk := gk) (gi := w.heap.size + 2) (n := vn) (K := K) (I := I) (OA := OA) rfl rfl rfl rfl rfl rfl hga.out.2.1 ((hB78.block _ (Array.getElem?_eq_some_iff.1 HX6.out.1).1).trans HX6.out.1) ((hB78.block _ (Array.getElem?_eq_some_iff.1 HX6.out.2.1).1).trans HX6.out.2.1) (by simp only [List.size_toArray, HOA.out.1]; exact size37) (by kernel_rfl) hov (by obtain ⟨ub, e1, h1⟩ := HX6.out.2.2.2; simp only [Value.agg.injEq, Array.mk.injEq, List.cons.injEq, and_true, true_and] at e1; rw [e1]; exact h1.below hB78) ((HI.out.below HX6.out.2.2.1).below hB78) hok hvn (by omega) ⟨by omega, by omega⟩ (by omega) ⟨by omega, by omega⟩ ?_
                clear hkn hin1 hin2 hvn hok hov
                intro s15 W9 hs97 hB9
                simp [overlay, dstsOf, ops_rzb_ok, hs97]
                have HB9 := hide (bel_of HX6.out.2.2.1 (bel_of hB78 hB9))
                clear hB9 hB78 hB8 hB7 hga hs97
                go_wp2_with fail
                go_roundw
                case rel => exact ⟨j + 1, by omega, by go_num, HB9.out⟩
                case measure => simp [intOf]; omega
            · have hczb : (ci == 0) = false := by simpa using hcz
              have HCC := hide hczb
              have HRUN := hide (run_any K I _ _ W6 HX6.out.2.2.2 (HI.out.below HX6.out.2.2.1))
              have HRF : Hid (runF K I = ci) := by show _ = _; unfold runF; rw [if_neg (by rw [hc0]; simp)]; exact hci
              have HRO : Hid (runO K I = out00) := by show _ = _; unfold runO; rw [HRF.out, if_neg hcz]
              clear hci hc0 hcz
              go_wp2_with fail
              refine HRUN.out.mono ?_
              clear HRUN r0 r1 r2 x0 x1 x2 x3
              rintro e W7 ⟨x, rfl, hOut, hB7⟩
              rw [HRF.out]
              rw [HRO.out] at hOut
              obtain ⟨OA, cva, rfl, hOA, hla, hoa, hca, hma⟩ := out_var hOut
              have HOV := hide hOut.v
              have HOA := hide (And.intro hla hoa)
              clear hOA hla hoa hca hma hOut
              go_wp2_with (refine wpList_var 37 12 rfl rfl rfl rfl (.tmp 68) rfl rfl Z OA.toArray HZ.out.1 (by simp) rfl (by simp only [List.size_toArray, HOA.out.1]; exact size37) (by simp only [List.size_toArray, HOA.out.1]; exact HZ.out.2) HOA.out.2 ?_; intro ga W8 hga)
              have hB8 : Below W7.heap.size W7 W8 := by have := hga.out.2.2; rwa [hga.out.1] at this
              have hB78 := bel_of hB7 hB8
              refine rza_ok (ga := ga) (cc := ci) (OA := OA) rfl rfl rfl rfl hga.out.2.1 (by simp only [List.size_toArray, HOA.out.1]; exact size37) (HOV.out.below hB8) HCC.out ?_
              intro s15 W9 hs97 hB9
              simp [overlay, dstsOf, ops_rza_ok, hs97]
              have HB9 := hide (bel_of HX6.out.2.2.1 (bel_of hB78 hB9))
              clear hB9 hB78 hB8 hB7 hga hs97
              go_wp2_with fail
              go_roundw
              case rel => exact ⟨j + 1, by omega, by go_num, HB9.out⟩
              case measure => simp [intOf]; omega
        · obtain rfl : j = 2 := by omega
          have HBF := hide (bel_of HW4.out.1 hBr)
          clear hBr
          go_wp2_with fail
          go_ret
          exact ⟨rfl, HBF.out⟩
end Go.Proofs.Ytljnngblhfhhaaa
