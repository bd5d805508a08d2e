/- PathsTurned: its answer: a region that draws its order. -/
import Derived.Test.YtgckpmaajmlijaaLw
import Derived.Test.YtgckpmaajmlijaaGr
namespace Go.Proofs.Ytgckpmaajmlijaa
open Go Go.RowKit Ir Wy
set_option linter.unusedVariables false

theorem ex_len26 {ρ : Operand → Value} {o : Oper} {w : World} {xs : Array Operand} {ao : Option Addr} {n c : Nat} (ho : o.op = .call { callee := .builtin .len, args := xs, argTypes := #[26] }) (hx : xs.map ρ = #[.slice ao n c]) : (execOp ρ o).run Try.prog w = .ok (.value (.int .i64 n)) w := by
  unfold execOp
  simp only [ho]
  go_simp
def ops_tv15_in : Array Oper := #[⟨some 69, .load 35 (.tmp 13), 35, "law.go:121", #[], none⟩, ⟨some 70, .load 35 (.tmp 12), 35, "law.go:121", #[], none⟩, ⟨some 71, .call { callee := Callee.value (Operand.func 22), args := #[.tmp 69, .tmp 70], argTypes := #[35, 35] }, 4, "law.go:121", #[⟨0, .data⟩, ⟨1, .data⟩], none⟩, ⟨some 72, .move (.tmp 71), 4, "law.go:121", #[⟨2, .data⟩, ⟨2, .chain⟩], none⟩, ⟨some 73, .load 35 (.tmp 11), 35, "law.go:121", #[⟨3, .guard⟩], some (3, true)⟩, ⟨some 74, .move (.tmp 1), 5, "law.go:121", #[⟨3, .guard⟩], some (3, true)⟩, ⟨some 75, .convert 5 3 (.tmp 74), 3, "law.go:121", #[⟨5, .data⟩, ⟨3, .guard⟩], some (3, true)⟩, ⟨some 76, .fieldAddr 28 (.tmp 8) 2, 0, "law.go:121", #[⟨3, .guard⟩], some (3, true)⟩, ⟨some 77, .load 26 (.tmp 76), 26, "law.go:121", #[⟨7, .data⟩, ⟨3, .guard⟩], some (3, true)⟩, ⟨some 78, .call { callee := Callee.builtin Builtin.len, args := #[.tmp 77], argTypes := #[26] }, 3, "law.go:121", #[⟨8, .data⟩, ⟨3, .guard⟩], some (3, true)⟩, ⟨some 79, .binOp .rem 3 (.tmp 75) (.tmp 78) 3, 3, "law.go:121", #[⟨6, .data⟩, ⟨9, .data⟩, ⟨3, .guard⟩], some (3, true)⟩, ⟨some 80, .call { callee := Callee.value (Operand.func 18), args := #[.tmp 73, .tmp 79], argTypes := #[35, 3] }, 4, "law.go:121", #[⟨4, .data⟩, ⟨10, .data⟩, ⟨3, .chain⟩, ⟨3, .guard⟩], some (3, true)⟩, ⟨some 81, .unOp .not 4 (.tmp 80), 4, "law.go:121", #[⟨11, .data⟩, ⟨3, .guard⟩], some (3, true)⟩, ⟨some 82, .move (.tmp 81), 4, "law.go:121", #[⟨12, .data⟩, ⟨11, .chain⟩, ⟨3, .guard⟩], some (3, true)⟩, ⟨some 83, .load 35 (.tmp 12), 35, "law.go:121", #[⟨13, .guard⟩], some (13, false)⟩, ⟨some 84, .move (.tmp 10), 3, "law.go:121", #[⟨13, .guard⟩], some (13, false)⟩, ⟨some 85, .call { callee := Callee.value (Operand.func 18), args := #[.tmp 83, .tmp 84], argTypes := #[35, 3] }, 4, "law.go:121", #[⟨14, .data⟩, ⟨15, .data⟩, ⟨13, .chain⟩, ⟨13, .guard⟩], some (13, false)⟩, ⟨some 86, .pick (.tmp 82) (.const (.bool true)) (.tmp 85), 4, "law.go:121", #[⟨13, .data⟩, ⟨16, .data⟩, ⟨3, .guard⟩], some (3, true)⟩, ⟨some 87, .pick (.tmp 72) (.tmp 86) (.const (.bool false)), 4, "law.go:121", #[⟨3, .data⟩, ⟨17, .data⟩], none⟩, ⟨some 6, .assign (.tmp 87), 4, "law.go:121", #[⟨18, .data⟩, ⟨16, .chain⟩, ⟨0, .phase⟩, ⟨1, .phase⟩, ⟨2, .phase⟩, ⟨3, .phase⟩, ⟨4, .phase⟩, ⟨5, .phase⟩, ⟨6, .phase⟩, ⟨7, .phase⟩, ⟨8, .phase⟩, ⟨9, .phase⟩, ⟨10, .phase⟩, ⟨11, .phase⟩, ⟨12, .phase⟩, ⟨13, .phase⟩, ⟨14, .phase⟩, ⟨15, .phase⟩, ⟨16, .phase⟩, ⟨17, .phase⟩, ⟨18, .phase⟩], none⟩]
/-- What is known of each temporary. -/
def G_tv15_in (g8 m cl bb nn : Nat) (al : Option Addr) (x : Int) (AS NS WS : Array Value) : Tmp → Value → World → Prop
  | 69, xx, _ => xx = .agg AS
  | 70, xx, _ => xx = .agg NS
  | 71, xx, _ => xx = .bool (true)
  | 72, xx, _ => xx = .bool (true)
  | 73, xx, _ => xx = .agg WS
  | 74, xx, _ => xx = .int .u8 x
  | 75, xx, _ => xx = .int .i64 x
  | 76, xx, _ => xx = .pointer (some ⟨g8, 2, none⟩)
  | 77, xx, _ => xx = .slice al m cl
  | 78, xx, _ => xx = .int .i64 (m : Nat)
  | 79, xx, _ => xx = .int .i64 (bb : Nat)
  | 80, xx, _ => xx = .bool (true)
  | 81, xx, _ => xx = .bool (false)
  | 82, xx, _ => xx = .bool (false)
  | 83, xx, _ => xx = .agg NS
  | 84, xx, _ => xx = .int .i64 (nn : Nat)
  | 85, xx, _ => xx = .bool (true)
  | 86, xx, _ => xx = .bool (true)
  | 87, xx, _ => xx = .bool (true)
  | 6, xx, _ => xx = .bool (true)
  | _, _, _ => True
theorem Gm_tv15_in {g8 m cl bb nn : Nat} {al : Option Addr} {x : Int} {AS NS WS : Array Value} : ∀ d u W W', Below W.heap.size W W' → G_tv15_in g8 m cl bb nn al x AS NS WS d u W → G_tv15_in g8 m cl bb nn al x AS NS WS d u W' := by
  intro d u W W' hB h
  unfold G_tv15_in at h ⊢
  split at h
  all_goals first | exact h | exact h
set_option maxHeartbeats 1000000 in
set_option maxRecDepth 100000 in
theorem tv15_in {Q : Exit → Act → World → Prop} {a0 : Act} {wa : World} {pa pn pw g8 m cl bb nn : Nat} {al : Option Addr} {x P V : Int} {AS NS WS : Array Value} {UF F G : Nat → Bool} (hz : a0.tmps.size = 88) (b13 : a0.eval (.tmp 13) = .pointer (some ⟨pa, 0, none⟩)) (b12 : a0.eval (.tmp 12) = .pointer (some ⟨pn, 0, none⟩)) (b11 : a0.eval (.tmp 11) = .pointer (some ⟨pw, 0, none⟩)) (b1 : a0.eval (.tmp 1) = .int .u8 x) (b8 : a0.eval (.tmp 8) = .pointer (some ⟨g8, 0, none⟩)) (b10 : a0.eval (.tmp 10) = .int .i64 (nn : Nat))
    {ta : TypeId} (hra : wa.heap[pa]? = some (Obj.cells AS ta (0, 0))) (hrn : wa.heap[pn]? = some (Obj.cells NS 35 (0, 0))) (hrw : wa.heap[pw]? = some (Obj.cells WS 35 (0, 0))) (hr8 : wa.heap[g8]? = some (Obj.cells #[.int .i64 P, .int .i64 V, .slice al m cl] 28 (0, 0))) (hA : Bg.SetC AS UF) (hN : Bg.SetC NS G) (hW : Bg.SetC WS F) (hsame : Bg.same UF G 4096 = true) (hbb : bb < 4096) (hnn : nn < 4096) (hFb : F bb = true) (hGn : G nn = true) (hx0 : 0 ≤ x) (hx256 : x < 256) (hrem : x.tmod (m : Int) = (bb : Int)) (hm0 : ¬ m = 0) (hmn : ((m : Int) == -1) = false)
    (hend : ∀ (s : Tmp → Value) (W : World), s 6 = .bool (true) → Below wa.heap.size wa W → Q .normal (overlay a0 (dstsOf ops_tv15_in) s) W) : (Code.region 15 ops_tv15_in true).wp Try.prog Q a0 wa := by
  have hmono := @Gm_tv15_in g8 m cl bb nn al x AS NS WS
  refine Gr.wp_region_grow (by kernel_rfl) (G_tv15_in g8 m cl bb nn al x AS NS WS) (by rw [hz]; kernel_rfl) ?_ ?_
  · refine And.intro ?_ (And.intro ?_ (And.intro ?_ (And.intro ?_ (And.intro ?_ (And.intro ?_ (And.intro ?_ (And.intro ?_ (And.intro ?_ (And.intro ?_ (And.intro ?_ (And.intro ?_ (And.intro ?_ (And.intro ?_ (And.intro ?_ (And.intro ?_ (And.intro ?_ (And.intro ?_ (And.intro ?_ (And.intro ?_ trivial)))))))))))))))))))
    · refine Gr.ask_val trivial rfl (fun _ => rfl) (fun a W H => ?_)
      have e13 : a.eval (.tmp 13) = .pointer (some ⟨pa, 0, none⟩) := (H.base 13 rfl).trans b13
      exact Gr.run_load_row rfl e13 (H.row hra) Try.underlying35 (by rw [hA.1]; exact Bg.info27)
    · refine Gr.ask_val trivial rfl (fun _ => rfl) (fun a W H => ?_)
      have e12 : a.eval (.tmp 12) = .pointer (some ⟨pn, 0, none⟩) := (H.base 12 rfl).trans b12
      exact Gr.run_load_row rfl e12 (H.row hrn) Try.underlying35 (by rw [hN.1]; exact Bg.info27)
    · refine Gr.ask_call hmono trivial Try.func22 rfl rfl rfl rfl (fun a W H => ?_)
      have e69 : a.eval (.tmp 69) = .agg AS := H.facts 69 rfl
      have e70 : a.eval (.tmp 70) = .agg NS := H.facts 70 rfl
      simp only [List.map_toArray, List.map_cons, List.map_nil, e69, e70]
      refine (Bg.same_any _ _ UF G W ⟨AS, rfl, hA⟩ ⟨NS, rfl, hN⟩).mono ?_
      rintro e w' ⟨rfl, hg⟩
      exact ⟨_, rfl, by show _ = _; rw [hsame], Bg.gb_to hg⟩
    · refine Gr.ask_val trivial rfl (fun _ => rfl) (fun a W H => ?_)
      have e71 : a.eval (.tmp 71) = .bool (true) := H.facts 71 rfl
      exact run_move rfl e71
    · refine Gr.ask_val ⟨72, rfl, rfl, fun _ _ h => h⟩ rfl (fun _ => rfl) (fun a W H => ?_)
      have e11 : a.eval (.tmp 11) = .pointer (some ⟨pw, 0, none⟩) := (H.base 11 rfl).trans b11
      exact Gr.run_load_row rfl e11 (H.row hrw) Try.underlying35 (by rw [hW.1]; exact Bg.info27)
    · refine Gr.ask_val ⟨72, rfl, rfl, fun _ _ h => h⟩ rfl (fun _ => rfl) (fun a W H => ?_)
      have e1 : a.eval (.tmp 1) = .int .u8 x := (H.base 1 rfl).trans b1
      exact run_move rfl e1
    · refine Gr.ask_val ⟨72, rfl, rfl, fun _ _ h => h⟩ rfl (fun _ => rfl) (fun a W H => ?_)
      have e74 : a.eval (.tmp 74) = .int .u8 x := H.facts 74 rfl
      have hx1 := hx0
      have hx2 := hx256
      (simp only [execOp]; try simp only [Option.map]); (try simp only [List.map_toArray, List.map_cons, List.map_nil]); (simp only [e74]; go_simp)
      (rw [IntKind.wrap_i64]; omega)
    · refine Gr.ask_val ⟨72, rfl, rfl, fun _ _ h => h⟩ rfl (fun _ => rfl) (fun a W H => ?_)
      have e8 : a.eval (.tmp 8) = .pointer (some ⟨g8, 0, none⟩) := (H.base 8 rfl).trans b8
      (simp only [execOp]; try simp only [Option.map]); (try simp only [List.map_toArray, List.map_cons, List.map_nil]); (simp only [e8]; go_simp)
    · refine Gr.ask_val ⟨72, rfl, rfl, fun _ _ h => h⟩ rfl (fun _ => rfl) (fun a W H => ?_)
      have e76 : a.eval (.tmp 76) = .pointer (some ⟨g8, 2, none⟩) := H.facts 76 rfl
      have hcell : W.cell? ⟨g8, 2, none⟩ = some (.slice al m cl) := by rw [cell_of_row _ _ _ _ _ _ (H.row hr8)]; rfl
      (simp only [execOp]; try simp only [Option.map]); (try simp only [List.map_toArray, List.map_cons, List.map_nil]); (simp only [e76]; go_simp)
    · refine Gr.ask_val ⟨72, rfl, rfl, fun _ _ h => h⟩ rfl (fun _ => rfl) (fun a W H => ?_)
      have e77 : a.eval (.tmp 77) = .slice al m cl := H.facts 77 rfl
      have ea : (#[.tmp 77] : Array Operand).map a.eval = #[.slice al m cl] := by simp [e77]
      exact ex_len26 rfl ea
    · refine Gr.ask_val ⟨72, rfl, rfl, fun _ _ h => h⟩ rfl (fun _ => rfl) (fun a W H => ?_)
      have e75 : a.eval (.tmp 75) = .int .i64 x := H.facts 75 rfl
      have e78 : a.eval (.tmp 78) = .int .i64 (m : Nat) := H.facts 78 rfl
      have hr := hrem
      have hm1 := hm0
      have hm2 := hmn
      (simp only [execOp]; try simp only [Option.map]); (try simp only [List.map_toArray, List.map_cons, List.map_nil]); (simp only [e75, e78]; go_simp)
    · refine Gr.ask_call hmono ⟨72, rfl, rfl, fun _ _ h => h⟩ Try.func18 rfl rfl rfl rfl (fun a W H => ?_)
      have e73 : a.eval (.tmp 73) = .agg WS := H.facts 73 rfl
      have e79 : a.eval (.tmp 79) = .int .i64 (bb : Nat) := H.facts 79 rfl
      simp only [List.map_toArray, List.map_cons, List.map_nil, e73, e79]
      refine (has_nat (.agg WS) F bb W ⟨WS, rfl, hW⟩ hbb).mono ?_
      rintro e w' ⟨rfl, hB⟩
      exact ⟨_, rfl, by show _ = _; rw [hFb], hB⟩
    · refine Gr.ask_val ⟨72, rfl, rfl, fun _ _ h => h⟩ rfl (fun _ => rfl) (fun a W H => ?_)
      have e80 : a.eval (.tmp 80) = .bool (true) := H.facts 80 rfl
      (simp only [execOp]; try simp only [Option.map]); (try simp only [List.map_toArray, List.map_cons, List.map_nil]); (simp only [e80]; go_simp)
    · refine Gr.ask_val ⟨72, rfl, rfl, fun _ _ h => h⟩ rfl (fun _ => rfl) (fun a W H => ?_)
      have e81 : a.eval (.tmp 81) = .bool (false) := H.facts 81 rfl
      exact run_move rfl e81
    · refine Gr.ask_val ⟨82, rfl, rfl, fun _ _ h => h⟩ rfl (fun _ => rfl) (fun a W H => ?_)
      have e12 : a.eval (.tmp 12) = .pointer (some ⟨pn, 0, none⟩) := (H.base 12 rfl).trans b12
      exact Gr.run_load_row rfl e12 (H.row hrn) Try.underlying35 (by rw [hN.1]; exact Bg.info27)
    · refine Gr.ask_val ⟨82, rfl, rfl, fun _ _ h => h⟩ rfl (fun _ => rfl) (fun a W H => ?_)
      have e10 : a.eval (.tmp 10) = .int .i64 (nn : Nat) := (H.base 10 rfl).trans b10
      exact run_move rfl e10
    · refine Gr.ask_call hmono ⟨82, rfl, rfl, fun _ _ h => h⟩ Try.func18 rfl rfl rfl rfl (fun a W H => ?_)
      have e83 : a.eval (.tmp 83) = .agg NS := H.facts 83 rfl
      have e84 : a.eval (.tmp 84) = .int .i64 (nn : Nat) := H.facts 84 rfl
      simp only [List.map_toArray, List.map_cons, List.map_nil, e83, e84]
      refine (has_nat (.agg NS) G nn W ⟨NS, rfl, hN⟩ hnn).mono ?_
      rintro e w' ⟨rfl, hB⟩
      exact ⟨_, rfl, by show _ = _; rw [hGn], hB⟩
    · refine Gr.ask_val ⟨72, rfl, rfl, fun _ _ h => h⟩ rfl (fun _ => rfl) (fun a W H => ?_)
      have e82 : a.eval (.tmp 82) = .bool (false) := H.facts 82 rfl
      have e85 : a.eval (.tmp 85) = .bool (true) := H.facts 85 rfl
      (simp only [execOp]); (simp only [e82, e85]; go_simp)
    · refine Gr.ask_val trivial rfl (fun _ => rfl) (fun a W H => ?_)
      have e72 : a.eval (.tmp 72) = .bool (true) := H.facts 72 rfl
      have e86 : a.eval (.tmp 86) = .bool (true) := H.facts 86 rfl
      (simp only [execOp]); (simp only [e72, e86]; go_simp)
    · refine Gr.ask_val trivial rfl (fun _ => rfl) (fun a W H => ?_)
      have e87 : a.eval (.tmp 87) = .bool (true) := H.facts 87 rfl
      exact run_assign rfl e87
  · intro s W hB hs
    exact hend s W (hs 6 rfl) hB
def ops_tv15_out : Array Oper := #[⟨some 69, .load 35 (.tmp 13), 35, "law.go:121", #[], none⟩, ⟨some 70, .load 35 (.tmp 12), 35, "law.go:121", #[], none⟩, ⟨some 71, .call { callee := Callee.value (Operand.func 22), args := #[.tmp 69, .tmp 70], argTypes := #[35, 35] }, 4, "law.go:121", #[⟨0, .data⟩, ⟨1, .data⟩], none⟩, ⟨some 72, .move (.tmp 71), 4, "law.go:121", #[⟨2, .data⟩, ⟨2, .chain⟩], none⟩, ⟨some 73, .load 35 (.tmp 11), 35, "law.go:121", #[⟨3, .guard⟩], some (3, true)⟩, ⟨some 74, .move (.tmp 1), 5, "law.go:121", #[⟨3, .guard⟩], some (3, true)⟩, ⟨some 75, .convert 5 3 (.tmp 74), 3, "law.go:121", #[⟨5, .data⟩, ⟨3, .guard⟩], some (3, true)⟩, ⟨some 76, .fieldAddr 28 (.tmp 8) 2, 0, "law.go:121", #[⟨3, .guard⟩], some (3, true)⟩, ⟨some 77, .load 26 (.tmp 76), 26, "law.go:121", #[⟨7, .data⟩, ⟨3, .guard⟩], some (3, true)⟩, ⟨some 78, .call { callee := Callee.builtin Builtin.len, args := #[.tmp 77], argTypes := #[26] }, 3, "law.go:121", #[⟨8, .data⟩, ⟨3, .guard⟩], some (3, true)⟩, ⟨some 79, .binOp .rem 3 (.tmp 75) (.tmp 78) 3, 3, "law.go:121", #[⟨6, .data⟩, ⟨9, .data⟩, ⟨3, .guard⟩], some (3, true)⟩, ⟨some 80, .call { callee := Callee.value (Operand.func 18), args := #[.tmp 73, .tmp 79], argTypes := #[35, 3] }, 4, "law.go:121", #[⟨4, .data⟩, ⟨10, .data⟩, ⟨3, .chain⟩, ⟨3, .guard⟩], some (3, true)⟩, ⟨some 81, .unOp .not 4 (.tmp 80), 4, "law.go:121", #[⟨11, .data⟩, ⟨3, .guard⟩], some (3, true)⟩, ⟨some 82, .move (.tmp 81), 4, "law.go:121", #[⟨12, .data⟩, ⟨11, .chain⟩, ⟨3, .guard⟩], some (3, true)⟩, ⟨some 83, .load 35 (.tmp 12), 35, "law.go:121", #[⟨13, .guard⟩], some (13, false)⟩, ⟨some 84, .move (.tmp 10), 3, "law.go:121", #[⟨13, .guard⟩], some (13, false)⟩, ⟨some 85, .call { callee := Callee.value (Operand.func 18), args := #[.tmp 83, .tmp 84], argTypes := #[35, 3] }, 4, "law.go:121", #[⟨14, .data⟩, ⟨15, .data⟩, ⟨13, .chain⟩, ⟨13, .guard⟩], some (13, false)⟩, ⟨some 86, .pick (.tmp 82) (.const (.bool true)) (.tmp 85), 4, "law.go:121", #[⟨13, .data⟩, ⟨16, .data⟩, ⟨3, .guard⟩], some (3, true)⟩, ⟨some 87, .pick (.tmp 72) (.tmp 86) (.const (.bool false)), 4, "law.go:121", #[⟨3, .data⟩, ⟨17, .data⟩], none⟩, ⟨some 6, .assign (.tmp 87), 4, "law.go:121", #[⟨18, .data⟩, ⟨16, .chain⟩, ⟨0, .phase⟩, ⟨1, .phase⟩, ⟨2, .phase⟩, ⟨3, .phase⟩, ⟨4, .phase⟩, ⟨5, .phase⟩, ⟨6, .phase⟩, ⟨7, .phase⟩, ⟨8, .phase⟩, ⟨9, .phase⟩, ⟨10, .phase⟩, ⟨11, .phase⟩, ⟨12, .phase⟩, ⟨13, .phase⟩, ⟨14, .phase⟩, ⟨15, .phase⟩, ⟨16, .phase⟩, ⟨17, .phase⟩, ⟨18, .phase⟩], none⟩]
/-- What is known of each temporary. -/
def G_tv15_out (g8 m cl bb : Nat) (al : Option Addr) (x : Int) (AS NS WS : Array Value) : Tmp → Value → World → Prop
  | 69, xx, _ => xx = .agg AS
  | 70, xx, _ => xx = .agg NS
  | 71, xx, _ => xx = .bool (true)
  | 72, xx, _ => xx = .bool (true)
  | 73, xx, _ => xx = .agg WS
  | 74, xx, _ => xx = .int .u8 x
  | 75, xx, _ => xx = .int .i64 x
  | 76, xx, _ => xx = .pointer (some ⟨g8, 2, none⟩)
  | 77, xx, _ => xx = .slice al m cl
  | 78, xx, _ => xx = .int .i64 (m : Nat)
  | 79, xx, _ => xx = .int .i64 (bb : Nat)
  | 80, xx, _ => xx = .bool (false)
  | 81, xx, _ => xx = .bool (true)
  | 82, xx, _ => xx = .bool (true)
  | 83, xx, _ => xx = undef
  | 84, xx, _ => xx = undef
  | 85, xx, _ => xx = undef
  | 86, xx, _ => xx = .bool (true)
  | 87, xx, _ => xx = .bool (true)
  | 6, xx, _ => xx = .bool (true)
  | _, _, _ => True
theorem Gm_tv15_out {g8 m cl bb : Nat} {al : Option Addr} {x : Int} {AS NS WS : Array Value} : ∀ d u W W', Below W.heap.size W W' → G_tv15_out g8 m cl bb al x AS NS WS d u W → G_tv15_out g8 m cl bb al x AS NS WS d u W' := by
  intro d u W W' hB h
  unfold G_tv15_out at h ⊢
  split at h
  all_goals first | exact h | exact h
set_option maxHeartbeats 1000000 in
set_option maxRecDepth 100000 in
theorem tv15_out {Q : Exit → Act → World → Prop} {a0 : Act} {wa : World} {pa pn pw g8 m cl bb nn : Nat} {al : Option Addr} {x P V : Int} {AS NS WS : Array Value} {UF F G : Nat → Bool} (hz : a0.tmps.size = 88) (b13 : a0.eval (.tmp 13) = .pointer (some ⟨pa, 0, none⟩)) (b12 : a0.eval (.tmp 12) = .pointer (some ⟨pn, 0, none⟩)) (b11 : a0.eval (.tmp 11) = .pointer (some ⟨pw, 0, none⟩)) (b1 : a0.eval (.tmp 1) = .int .u8 x) (b8 : a0.eval (.tmp 8) = .pointer (some ⟨g8, 0, none⟩)) (b10 : a0.eval (.tmp 10) = .int .i64 (nn : Nat))
    {ta : TypeId} (hra : wa.heap[pa]? = some (Obj.cells AS ta (0, 0))) (hrn : wa.heap[pn]? = some (Obj.cells NS 35 (0, 0))) (hrw : wa.heap[pw]? = some (Obj.cells WS 35 (0, 0))) (hr8 : wa.heap[g8]? = some (Obj.cells #[.int .i64 P, .int .i64 V, .slice al m cl] 28 (0, 0))) (hA : Bg.SetC AS UF) (hN : Bg.SetC NS G) (hW : Bg.SetC WS F) (hsame : Bg.same UF G 4096 = true) (hbb : bb < 4096) (hnn : nn < 4096) (hFb : F bb = false) (hx0 : 0 ≤ x) (hx256 : x < 256) (hrem : x.tmod (m : Int) = (bb : Int)) (hm0 : ¬ m = 0) (hmn : ((m : Int) == -1) = false)
    (hend : ∀ (s : Tmp → Value) (W : World), s 6 = .bool (true) → Below wa.heap.size wa W → Q .normal (overlay a0 (dstsOf ops_tv15_out) s) W) : (Code.region 15 ops_tv15_out true).wp Try.prog Q a0 wa := by
  have hmono := @Gm_tv15_out g8 m cl bb al x AS NS WS
  refine Gr.wp_region_grow (by kernel_rfl) (G_tv15_out g8 m cl bb al x AS NS WS) (by rw [hz]; kernel_rfl) ?_ ?_
  · refine And.intro ?_ (And.intro ?_ (And.intro ?_ (And.intro ?_ (And.intro ?_ (And.intro ?_ (And.intro ?_ (And.intro ?_ (And.intro ?_ (And.intro ?_ (And.intro ?_ (And.intro ?_ (And.intro ?_ (And.intro ?_ (And.intro ?_ (And.intro ?_ (And.intro ?_ (And.intro ?_ (And.intro ?_ (And.intro ?_ trivial)))))))))))))))))))
    · refine Gr.ask_val trivial rfl (fun _ => rfl) (fun a W H => ?_)
      have e13 : a.eval (.tmp 13) = .pointer (some ⟨pa, 0, none⟩) := (H.base 13 rfl).trans b13
      exact Gr.run_load_row rfl e13 (H.row hra) Try.underlying35 (by rw [hA.1]; exact Bg.info27)
    · refine Gr.ask_val trivial rfl (fun _ => rfl) (fun a W H => ?_)
      have e12 : a.eval (.tmp 12) = .pointer (some ⟨pn, 0, none⟩) := (H.base 12 rfl).trans b12
      exact Gr.run_load_row rfl e12 (H.row hrn) Try.underlying35 (by rw [hN.1]; exact Bg.info27)
    · refine Gr.ask_call hmono trivial Try.func22 rfl rfl rfl rfl (fun a W H => ?_)
      have e69 : a.eval (.tmp 69) = .agg AS := H.facts 69 rfl
      have e70 : a.eval (.tmp 70) = .agg NS := H.facts 70 rfl
      simp only [List.map_toArray, List.map_cons, List.map_nil, e69, e70]
      refine (Bg.same_any _ _ UF G W ⟨AS, rfl, hA⟩ ⟨NS, rfl, hN⟩).mono ?_
      rintro e w' ⟨rfl, hg⟩
      exact ⟨_, rfl, by show _ = _; rw [hsame], Bg.gb_to hg⟩
    · refine Gr.ask_val trivial rfl (fun _ => rfl) (fun a W H => ?_)
      have e71 : a.eval (.tmp 71) = .bool (true) := H.facts 71 rfl
      exact run_move rfl e71
    · refine Gr.ask_val ⟨72, rfl, rfl, fun _ _ h => h⟩ rfl (fun _ => rfl) (fun a W H => ?_)
      have e11 : a.eval (.tmp 11) = .pointer (some ⟨pw, 0, none⟩) := (H.base 11 rfl).trans b11
      exact Gr.run_load_row rfl e11 (H.row hrw) Try.underlying35 (by rw [hW.1]; exact Bg.info27)
    · refine Gr.ask_val ⟨72, rfl, rfl, fun _ _ h => h⟩ rfl (fun _ => rfl) (fun a W H => ?_)
      have e1 : a.eval (.tmp 1) = .int .u8 x := (H.base 1 rfl).trans b1
      exact run_move rfl e1
    · refine Gr.ask_val ⟨72, rfl, rfl, fun _ _ h => h⟩ rfl (fun _ => rfl) (fun a W H => ?_)
      have e74 : a.eval (.tmp 74) = .int .u8 x := H.facts 74 rfl
      have hx1 := hx0
      have hx2 := hx256
      (simp only [execOp]; try simp only [Option.map]); (try simp only [List.map_toArray, List.map_cons, List.map_nil]); (simp only [e74]; go_simp)
      (rw [IntKind.wrap_i64]; omega)
    · refine Gr.ask_val ⟨72, rfl, rfl, fun _ _ h => h⟩ rfl (fun _ => rfl) (fun a W H => ?_)
      have e8 : a.eval (.tmp 8) = .pointer (some ⟨g8, 0, none⟩) := (H.base 8 rfl).trans b8
      (simp only [execOp]; try simp only [Option.map]); (try simp only [List.map_toArray, List.map_cons, List.map_nil]); (simp only [e8]; go_simp)
    · refine Gr.ask_val ⟨72, rfl, rfl, fun _ _ h => h⟩ rfl (fun _ => rfl) (fun a W H => ?_)
      have e76 : a.eval (.tmp 76) = .pointer (some ⟨g8, 2, none⟩) := H.facts 76 rfl
      have hcell : W.cell? ⟨g8, 2, none⟩ = some (.slice al m cl) := by rw [cell_of_row _ _ _ _ _ _ (H.row hr8)]; rfl
      (simp only [execOp]; try simp only [Option.map]); (try simp only [List.map_toArray, List.map_cons, List.map_nil]); (simp only [e76]; go_simp)
    · refine Gr.ask_val ⟨72, rfl, rfl, fun _ _ h => h⟩ rfl (fun _ => rfl) (fun a W H => ?_)
      have e77 : a.eval (.tmp 77) = .slice al m cl := H.facts 77 rfl
      have ea : (#[.tmp 77] : Array Operand).map a.eval = #[.slice al m cl] := by simp [e77]
      exact ex_len26 rfl ea
    · refine Gr.ask_val ⟨72, rfl, rfl, fun _ _ h => h⟩ rfl (fun _ => rfl) (fun a W H => ?_)
      have e75 : a.eval (.tmp 75) = .int .i64 x := H.facts 75 rfl
      have e78 : a.eval (.tmp 78) = .int .i64 (m : Nat) := H.facts 78 rfl
      have hr := hrem
      have hm1 := hm0
      have hm2 := hmn
      (simp only [execOp]; try simp only [Option.map]); (try simp only [List.map_toArray, List.map_cons, List.map_nil]); (simp only [e75, e78]; go_simp)
    · refine Gr.ask_call hmono ⟨72, rfl, rfl, fun _ _ h => h⟩ Try.func18 rfl rfl rfl rfl (fun a W H => ?_)
      have e73 : a.eval (.tmp 73) = .agg WS := H.facts 73 rfl
      have e79 : a.eval (.tmp 79) = .int .i64 (bb : Nat) := H.facts 79 rfl
      simp only [List.map_toArray, List.map_cons, List.map_nil, e73, e79]
      refine (has_nat (.agg WS) F bb W ⟨WS, rfl, hW⟩ hbb).mono ?_
      rintro e w' ⟨rfl, hB⟩
      exact ⟨_, rfl, by show _ = _; rw [hFb], hB⟩
    · refine Gr.ask_val ⟨72, rfl, rfl, fun _ _ h => h⟩ rfl (fun _ => rfl) (fun a W H => ?_)
      have e80 : a.eval (.tmp 80) = .bool (false) := H.facts 80 rfl
      (simp only [execOp]; try simp only [Option.map]); (try simp only [List.map_toArray, List.map_cons, List.map_nil]); (simp only [e80]; go_simp)
    · refine Gr.ask_val ⟨72, rfl, rfl, fun _ _ h => h⟩ rfl (fun _ => rfl) (fun a W H => ?_)
      have e81 : a.eval (.tmp 81) = .bool (true) := H.facts 81 rfl
      exact run_move rfl e81
    · exact Gr.ask_left ⟨82, rfl, rfl, fun u _ h => by rw [show u = _ from h]; simp⟩ rfl (fun _ => rfl)
    · exact Gr.ask_left ⟨82, rfl, rfl, fun u _ h => by rw [show u = _ from h]; simp⟩ rfl (fun _ => rfl)
    · exact Gr.ask_left ⟨82, rfl, rfl, fun u _ h => by rw [show u = _ from h]; simp⟩ rfl (fun _ => rfl)
    · refine Gr.ask_val ⟨72, rfl, rfl, fun _ _ h => h⟩ rfl (fun _ => rfl) (fun a W H => ?_)
      have e82 : a.eval (.tmp 82) = .bool (true) := H.facts 82 rfl
      (simp only [execOp]); (simp only [e82]; go_simp)
    · refine Gr.ask_val trivial rfl (fun _ => rfl) (fun a W H => ?_)
      have e72 : a.eval (.tmp 72) = .bool (true) := H.facts 72 rfl
      have e86 : a.eval (.tmp 86) = .bool (true) := H.facts 86 rfl
      (simp only [execOp]); (simp only [e72, e86]; go_simp)
    · refine Gr.ask_val trivial rfl (fun _ => rfl) (fun a W H => ?_)
      have e87 : a.eval (.tmp 87) = .bool (true) := H.facts 87 rfl
      exact run_assign rfl e87
  · intro s W hB hs
    exact hend s W (hs 6 rfl) hB
end Go.Proofs.Ytgckpmaajmlijaa
