/- What was written against what the document writes. -/
import Derived.Test.YtbjnhicikkjadaaAw
import Derived.Test.YtbjnhicikkjadaaRf
import Derived.Test.YtbjnhicikkjadaaGr
namespace Go.Proofs.Ytbjnhicikkjadaa
open Go Go.RowKit Ir Wire

theorem size24 (a b c : Value) : (Try.prog.info? 24).map (·.size) = some (#[a, b, c] : Array Value).size := by kernel_rfl
theorem size42 (a b c d : Value) : (Try.prog.info? 42).map (·.size) = some (#[a, b, c, d] : Array Value).size := by kernel_rfl
theorem run_neq9_same {a : Act} {w : World} {o : Oper} {x y : Operand} {t : TypeId} {s : ByteArray} (hop : o.op = .binOp .neq 9 x y t) (ex : a.eval x = .string s) (ey : a.eval y = .string s) : (execOp a.eval o).run Try.prog w = .ok (.value (.bool false)) w := by
  have hd : (s.toList == s.toList) = true := by simp
  unfold execOp
  rw [hop]
  simp only [ex, ey]
  go_simp
def ops_sf_ok : Array Oper := #[⟨some 58, .move (.tmp 17), 33, "law.go:48", #[], none⟩, ⟨some 59, .binOp .neq 33 (.tmp 58) (.const (.int .i64 0)) 33, 4, "law.go:48", #[⟨0, .data⟩], none⟩, ⟨some 60, .move (.tmp 59), 4, "law.go:48", #[⟨1, .data⟩], none⟩, ⟨some 61, .move (.tmp 16), 25, "law.go:48", #[⟨2, .guard⟩], some (2, false)⟩, ⟨some 62, .convert 25 9 (.tmp 61), 9, "law.go:48", #[⟨3, .data⟩, ⟨2, .guard⟩], some (2, false)⟩, ⟨some 63, .load 24 (.tmp 15), 24, "law.go:48", #[⟨2, .guard⟩], some (2, false)⟩, ⟨some 64, .call { callee := Callee.value (Operand.func 15), args := #[.tmp 63], argTypes := #[24] }, 25, "law.go:48", #[⟨5, .data⟩, ⟨2, .chain⟩, ⟨2, .guard⟩], some (2, false)⟩, ⟨some 65, .convert 25 9 (.tmp 64), 9, "law.go:48", #[⟨6, .data⟩, ⟨2, .guard⟩], some (2, false)⟩, ⟨some 66, .binOp .neq 9 (.tmp 62) (.tmp 65) 9, 4, "law.go:48", #[⟨4, .data⟩, ⟨7, .data⟩, ⟨2, .guard⟩], some (2, false)⟩, ⟨some 67, .pick (.tmp 60) (.const (.bool true)) (.tmp 66), 4, "law.go:48", #[⟨2, .data⟩, ⟨8, .data⟩], none⟩]
/-- What is known of each temporary. -/
def G_sf_ok (ys : List Int) (va : Value) (ub : Value) (X : Fun) : Tmp → Value → World → Prop
  | 58, xx, _ => xx = .int .i64 0
  | 59, xx, _ => xx = .bool (false)
  | 60, xx, _ => xx = .bool (false)
  | 61, xx, _ => xx = va
  | 62, xx, _ => xx = .string (strOfNums ys)
  | 63, xx, _ => xx = .agg #[.int .i64 X.p, .int .i64 X.v, ub]
  | 64, xx, ww => Lb.Byt ww xx ys
  | 65, xx, _ => xx = .string (strOfNums ys)
  | 66, xx, _ => xx = .bool (false)
  | 67, xx, _ => xx = .bool (false)
  | _, _, _ => True
theorem Gm_sf_ok {ys : List Int} {va : Value} {ub : Value} {X : Fun} : ∀ d u W W', Below W.heap.size W W' → G_sf_ok ys va ub X d u W → G_sf_ok ys va ub X d u W' := by
  intro d u W W' hB h
  unfold G_sf_ok at h ⊢
  split at h
  all_goals first | exact h | exact Lb.Byt.below h hB
set_option maxHeartbeats 1000000 in
set_option maxRecDepth 100000 in
theorem sf_ok {Q : Exit → Act → World → Prop} {a0 : Act} {wa : World} {gy : Nat} {ys : List Int} {va : Value} {ub : Value} {X : Fun} (hz : a0.tmps.size = 69) (b17 : a0.eval (.tmp 17) = .int .i64 0) (b16 : a0.eval (.tmp 16) = va) (b15 : a0.eval (.tmp 15) = .pointer (some ⟨gy, 0, none⟩))
    (hry : wa.heap[gy]? = some (Obj.cells #[.int .i64 X.p, .int .i64 X.v, ub] 24 (0, 0))) (hva : Lb.Byt wa va ys) (hG : ∀ W, Below wa.heap.size wa W → Calls Try.prog 15 #[.agg #[.int .i64 X.p, .int .i64 X.v, ub]] W fun r w' => ∃ u, r = .returned u ∧ Lb.Byt w' u ys ∧ Below W.heap.size W w')
    (hend : ∀ (s : Tmp → Value) (W : World), s 67 = .bool (false) → Below wa.heap.size wa W → Q .normal (overlay a0 (dstsOf ops_sf_ok) s) W) : (Code.region 14 ops_sf_ok true).wp Try.prog Q a0 wa := by
  have hmono := @Gm_sf_ok ys va ub X
  refine Gr.wp_region_grow (by kernel_rfl) (G_sf_ok ys va ub X) (by rw [hz]; kernel_rfl) ?_ ?_
  · refine And.intro ?_ (And.intro ?_ (And.intro ?_ (And.intro ?_ (And.intro ?_ (And.intro ?_ (And.intro ?_ (And.intro ?_ (And.intro ?_ (And.intro ?_ trivial)))))))))
    · refine Gr.ask_val trivial rfl (fun _ => rfl) (fun a W H => ?_)
      have e17 : a.eval (.tmp 17) = .int .i64 0 := (H.base 17 rfl).trans b17
      exact run_move rfl e17
    · refine Gr.ask_val trivial rfl (fun _ => rfl) (fun a W H => ?_)
      have e58 : a.eval (.tmp 58) = .int .i64 0 := H.facts 58 rfl
      (simp only [execOp]; try simp only [Option.map]); (try simp only [List.map_toArray, List.map_cons, List.map_nil]); (simp only [e58]; go_simp)
    · refine Gr.ask_val trivial rfl (fun _ => rfl) (fun a W H => ?_)
      have e59 : a.eval (.tmp 59) = .bool (false) := H.facts 59 rfl
      exact run_move rfl e59
    · refine Gr.ask_val ⟨60, rfl, rfl, fun _ _ h => h⟩ rfl (fun _ => rfl) (fun a W H => ?_)
      have e16 : a.eval (.tmp 16) = va := (H.base 16 rfl).trans b16
      exact run_move rfl e16
    · refine Gr.ask_val ⟨60, rfl, rfl, fun _ _ h => h⟩ rfl (fun _ => rfl) (fun a W H => ?_)
      have e61 : a.eval (.tmp 61) = va := H.facts 61 rfl
      have hv := str_conv (hva.below H.below)
      (simp only [execOp]; try simp only [Option.map]); (simp only [e61]; go_simp)
    · refine Gr.ask_val ⟨60, rfl, rfl, fun _ _ h => h⟩ rfl (fun _ => rfl) (fun a W H => ?_)
      have e15 : a.eval (.tmp 15) = .pointer (some ⟨gy, 0, none⟩) := (H.base 15 rfl).trans b15
      exact Gr.run_load_row rfl e15 (H.row hry) Try.underlying24 (size24 _ _ _)
    · refine Gr.ask_call hmono ⟨60, rfl, rfl, fun _ _ h => h⟩ Try.func15 rfl rfl rfl rfl (fun a W H => ?_)
      have e63 : a.eval (.tmp 63) = .agg #[.int .i64 X.p, .int .i64 X.v, ub] := H.facts 63 rfl
      simp only [List.map_toArray, List.map_cons, List.map_nil, e63]
      refine (hG W H.below).mono ?_
      rintro e w' ⟨u, rfl, hO, hB⟩
      exact ⟨u, rfl, hO, hB⟩
    · refine Gr.ask_val ⟨60, rfl, rfl, fun _ _ h => h⟩ rfl (fun _ => rfl) (fun a W H => ?_)
      have e64 : Lb.Byt W (a.eval (.tmp 64)) ys := H.facts 64 rfl
      have hv := str_conv e64
      (simp only [execOp]; try simp only [Option.map])
      generalize a.eval (.tmp 64) = z at *
      go_simp
    · refine Gr.ask_val ⟨60, rfl, rfl, fun _ _ h => h⟩ rfl (fun _ => rfl) (fun a W H => ?_)
      have e62 : a.eval (.tmp 62) = .string (strOfNums ys) := H.facts 62 rfl
      have e65 : a.eval (.tmp 65) = .string (strOfNums ys) := H.facts 65 rfl
      exact run_neq9_same rfl e62 e65
    · refine Gr.ask_val trivial rfl (fun _ => rfl) (fun a W H => ?_)
      have e60 : a.eval (.tmp 60) = .bool (false) := H.facts 60 rfl
      have e66 : a.eval (.tmp 66) = .bool (false) := H.facts 66 rfl
      (simp only [execOp]); (simp only [e60, e66]; go_simp)
  · intro s W hB hs
    exact hend s W (hs 67 rfl) hB
def ops_sc_ok : Array Oper := #[⟨some 66, .move (.tmp 19), 33, "law.go:71", #[], none⟩, ⟨some 67, .binOp .neq 33 (.tmp 66) (.const (.int .i64 0)) 33, 4, "law.go:71", #[⟨0, .data⟩], none⟩, ⟨some 68, .move (.tmp 67), 4, "law.go:71", #[⟨1, .data⟩], none⟩, ⟨some 69, .move (.tmp 18), 25, "law.go:71", #[⟨2, .guard⟩], some (2, false)⟩, ⟨some 70, .convert 25 9 (.tmp 69), 9, "law.go:71", #[⟨3, .data⟩, ⟨2, .guard⟩], some (2, false)⟩, ⟨some 71, .load 42 (.tmp 17), 42, "law.go:71", #[⟨2, .guard⟩], some (2, false)⟩, ⟨some 72, .call { callee := Callee.value (Operand.func 19), args := #[.tmp 71], argTypes := #[42] }, 25, "law.go:71", #[⟨5, .data⟩, ⟨2, .chain⟩, ⟨2, .guard⟩], some (2, false)⟩, ⟨some 73, .convert 25 9 (.tmp 72), 9, "law.go:71", #[⟨6, .data⟩, ⟨2, .guard⟩], some (2, false)⟩, ⟨some 74, .binOp .neq 9 (.tmp 70) (.tmp 73) 9, 4, "law.go:71", #[⟨4, .data⟩, ⟨7, .data⟩, ⟨2, .guard⟩], some (2, false)⟩, ⟨some 75, .pick (.tmp 68) (.const (.bool true)) (.tmp 74), 4, "law.go:71", #[⟨2, .data⟩, ⟨8, .data⟩], none⟩]
/-- What is known of each temporary. -/
def G_sc_ok (ys : List Int) (va : Value) (ub : Value) (X : Cod) : Tmp → Value → World → Prop
  | 66, xx, _ => xx = .int .i64 0
  | 67, xx, _ => xx = .bool (false)
  | 68, xx, _ => xx = .bool (false)
  | 69, xx, _ => xx = va
  | 70, xx, _ => xx = .string (strOfNums ys)
  | 71, xx, _ => xx = .agg #[.int .i64 X.p, .int .i64 X.r, .int .i64 X.s, ub]
  | 72, xx, ww => Lb.Byt ww xx ys
  | 73, xx, _ => xx = .string (strOfNums ys)
  | 74, xx, _ => xx = .bool (false)
  | 75, xx, _ => xx = .bool (false)
  | _, _, _ => True
theorem Gm_sc_ok {ys : List Int} {va : Value} {ub : Value} {X : Cod} : ∀ d u W W', Below W.heap.size W W' → G_sc_ok ys va ub X d u W → G_sc_ok ys va ub X d u W' := by
  intro d u W W' hB h
  unfold G_sc_ok at h ⊢
  split at h
  all_goals first | exact h | exact Lb.Byt.below h hB
set_option maxHeartbeats 1000000 in
set_option maxRecDepth 100000 in
theorem sc_ok {Q : Exit → Act → World → Prop} {a0 : Act} {wa : World} {gy : Nat} {ys : List Int} {va : Value} {ub : Value} {X : Cod} (hz : a0.tmps.size = 77) (b19 : a0.eval (.tmp 19) = .int .i64 0) (b18 : a0.eval (.tmp 18) = va) (b17 : a0.eval (.tmp 17) = .pointer (some ⟨gy, 0, none⟩))
    (hry : wa.heap[gy]? = some (Obj.cells #[.int .i64 X.p, .int .i64 X.r, .int .i64 X.s, ub] 42 (0, 0))) (hva : Lb.Byt wa va ys) (hG : ∀ W, Below wa.heap.size wa W → Calls Try.prog 19 #[.agg #[.int .i64 X.p, .int .i64 X.r, .int .i64 X.s, ub]] W fun r w' => ∃ u, r = .returned u ∧ Lb.Byt w' u ys ∧ Below W.heap.size W w')
    (hend : ∀ (s : Tmp → Value) (W : World), s 75 = .bool (false) → Below wa.heap.size wa W → Q .normal (overlay a0 (dstsOf ops_sc_ok) s) W) : (Code.region 14 ops_sc_ok true).wp Try.prog Q a0 wa := by
  have hmono := @Gm_sc_ok ys va ub X
  refine Gr.wp_region_grow (by kernel_rfl) (G_sc_ok ys va ub X) (by rw [hz]; kernel_rfl) ?_ ?_
  · refine And.intro ?_ (And.intro ?_ (And.intro ?_ (And.intro ?_ (And.intro ?_ (And.intro ?_ (And.intro ?_ (And.intro ?_ (And.intro ?_ (And.intro ?_ trivial)))))))))
    · refine Gr.ask_val trivial rfl (fun _ => rfl) (fun a W H => ?_)
      have e19 : a.eval (.tmp 19) = .int .i64 0 := (H.base 19 rfl).trans b19
      exact run_move rfl e19
    · refine Gr.ask_val trivial rfl (fun _ => rfl) (fun a W H => ?_)
      have e66 : a.eval (.tmp 66) = .int .i64 0 := H.facts 66 rfl
      (simp only [execOp]; try simp only [Option.map]); (try simp only [List.map_toArray, List.map_cons, List.map_nil]); (simp only [e66]; go_simp)
    · refine Gr.ask_val trivial rfl (fun _ => rfl) (fun a W H => ?_)
      have e67 : a.eval (.tmp 67) = .bool (false) := H.facts 67 rfl
      exact run_move rfl e67
    · refine Gr.ask_val ⟨68, rfl, rfl, fun _ _ h => h⟩ rfl (fun _ => rfl) (fun a W H => ?_)
      have e18 : a.eval (.tmp 18) = va := (H.base 18 rfl).trans b18
      exact run_move rfl e18
    · refine Gr.ask_val ⟨68, rfl, rfl, fun _ _ h => h⟩ rfl (fun _ => rfl) (fun a W H => ?_)
      have e69 : a.eval (.tmp 69) = va := H.facts 69 rfl
      have hv := str_conv (hva.below H.below)
      (simp only [execOp]; try simp only [Option.map]); (simp only [e69]; go_simp)
    · refine Gr.ask_val ⟨68, rfl, rfl, fun _ _ h => h⟩ rfl (fun _ => rfl) (fun a W H => ?_)
      have e17 : a.eval (.tmp 17) = .pointer (some ⟨gy, 0, none⟩) := (H.base 17 rfl).trans b17
      exact Gr.run_load_row rfl e17 (H.row hry) Try.underlying42 (size42 _ _ _ _)
    · refine Gr.ask_call hmono ⟨68, rfl, rfl, fun _ _ h => h⟩ Try.func19 rfl rfl rfl rfl (fun a W H => ?_)
      have e71 : a.eval (.tmp 71) = .agg #[.int .i64 X.p, .int .i64 X.r, .int .i64 X.s, ub] := H.facts 71 rfl
      simp only [List.map_toArray, List.map_cons, List.map_nil, e71]
      refine (hG W H.below).mono ?_
      rintro e w' ⟨u, rfl, hO, hB⟩
      exact ⟨u, rfl, hO, hB⟩
    · refine Gr.ask_val ⟨68, rfl, rfl, fun _ _ h => h⟩ rfl (fun _ => rfl) (fun a W H => ?_)
      have e72 : Lb.Byt W (a.eval (.tmp 72)) ys := H.facts 72 rfl
      have hv := str_conv e72
      (simp only [execOp]; try simp only [Option.map])
      generalize a.eval (.tmp 72) = z at *
      go_simp
    · refine Gr.ask_val ⟨68, rfl, rfl, fun _ _ h => h⟩ rfl (fun _ => rfl) (fun a W H => ?_)
      have e70 : a.eval (.tmp 70) = .string (strOfNums ys) := H.facts 70 rfl
      have e73 : a.eval (.tmp 73) = .string (strOfNums ys) := H.facts 73 rfl
      exact run_neq9_same rfl e70 e73
    · refine Gr.ask_val trivial rfl (fun _ => rfl) (fun a W H => ?_)
      have e68 : a.eval (.tmp 68) = .bool (false) := H.facts 68 rfl
      have e74 : a.eval (.tmp 74) = .bool (false) := H.facts 74 rfl
      (simp only [execOp]); (simp only [e68, e74]; go_simp)
  · intro s W hB hs
    exact hend s W (hs 75 rfl) hB
end Go.Proofs.Ytbjnhicikkjadaa
