/- PathsAll: what is held of one block: a region that draws its order. -/
import Derived.Test.YtgckpmaajmlijaaLw
import Derived.Test.YtgckpmaajmlijaaR4
import Derived.Test.YtgckpmaajmlijaaGr
namespace Go.Proofs.Ytgckpmaajmlijaa
open Go Go.RowKit Ir Wy

def ops_pa13_ok : Array Oper := #[⟨some 44, .move (.tmp 4), 30, "law.go:33", #[], none⟩, ⟨some 45, .move (.tmp 8), 3, "law.go:33", #[], none⟩, ⟨some 46, .indexAddr 30 (.tmp 44) (.tmp 45), 0, "law.go:33", #[⟨0, .data⟩, ⟨1, .data⟩], none⟩, ⟨some 47, .load 40 (.tmp 46), 40, "law.go:33", #[⟨2, .data⟩], none⟩, ⟨some 48, .move (.tmp 3), 26, "law.go:33", #[], none⟩, ⟨some 49, .move (.tmp 8), 3, "law.go:33", #[], none⟩, ⟨some 50, .call { callee := Callee.value (Operand.func 15), args := #[.tmp 48, .tmp 49], argTypes := #[26, 3] }, 40, "law.go:33", #[⟨4, .data⟩, ⟨5, .data⟩], none⟩, ⟨some 51, .call { callee := Callee.value (Operand.func 12), args := #[.tmp 47, .tmp 50], argTypes := #[40, 40] }, 4, "law.go:33", #[⟨3, .data⟩, ⟨6, .data⟩, ⟨6, .chain⟩], none⟩, ⟨some 52, .unOp .not 4 (.tmp 51), 4, "law.go:33", #[⟨7, .data⟩], none⟩, ⟨some 53, .move (.tmp 52), 4, "law.go:33", #[⟨8, .data⟩, ⟨7, .chain⟩], none⟩, ⟨some 54, .move (.tmp 3), 26, "law.go:33", #[⟨9, .guard⟩], some (9, false)⟩, ⟨some 55, .move (.tmp 8), 3, "law.go:33", #[⟨9, .guard⟩], some (9, false)⟩, ⟨some 56, .indexAddr 26 (.tmp 54) (.tmp 55), 0, "law.go:33", #[⟨10, .data⟩, ⟨11, .data⟩, ⟨9, .guard⟩], some (9, false)⟩, ⟨some 57, .fieldAddr 49 (.tmp 56) 1, 0, "law.go:33", #[⟨12, .data⟩, ⟨9, .guard⟩], some (9, false)⟩, ⟨some 58, .load 47 (.tmp 57), 47, "law.go:33", #[⟨13, .data⟩, ⟨9, .guard⟩], some (9, false)⟩, ⟨some 59, .call { callee := Callee.value (Operand.func 16), args := #[.tmp 58], argTypes := #[47] }, 40, "law.go:33", #[⟨14, .data⟩, ⟨9, .chain⟩, ⟨9, .guard⟩], some (9, false)⟩, ⟨some 60, .move (.tmp 3), 26, "law.go:33", #[⟨9, .guard⟩], some (9, false)⟩, ⟨some 61, .move (.tmp 8), 3, "law.go:33", #[⟨9, .guard⟩], some (9, false)⟩, ⟨some 62, .indexAddr 26 (.tmp 60) (.tmp 61), 0, "law.go:33", #[⟨16, .data⟩, ⟨17, .data⟩, ⟨9, .guard⟩], some (9, false)⟩, ⟨some 63, .fieldAddr 49 (.tmp 62) 1, 0, "law.go:33", #[⟨18, .data⟩, ⟨9, .guard⟩], some (9, false)⟩, ⟨some 64, .load 47 (.tmp 63), 47, "law.go:33", #[⟨19, .data⟩, ⟨9, .guard⟩], some (9, false)⟩, ⟨some 65, .call { callee := Callee.value (Operand.func 17), args := #[.tmp 64], argTypes := #[47] }, 40, "law.go:33", #[⟨20, .data⟩, ⟨15, .chain⟩, ⟨9, .guard⟩], some (9, false)⟩, ⟨some 66, .call { callee := Callee.value (Operand.func 12), args := #[.tmp 59, .tmp 65], argTypes := #[40, 40] }, 4, "law.go:33", #[⟨15, .data⟩, ⟨21, .data⟩, ⟨21, .chain⟩, ⟨9, .guard⟩], some (9, false)⟩, ⟨some 67, .unOp .not 4 (.tmp 66), 4, "law.go:33", #[⟨22, .data⟩, ⟨9, .guard⟩], some (9, false)⟩, ⟨some 68, .pick (.tmp 53) (.const (.bool true)) (.tmp 67), 4, "law.go:33", #[⟨9, .data⟩, ⟨23, .data⟩], none⟩, ⟨some 69, .move (.tmp 68), 4, "law.go:33", #[⟨24, .data⟩, ⟨22, .chain⟩], none⟩, ⟨some 70, .load 35 (.tmp 5), 35, "law.go:33", #[⟨25, .guard⟩], some (25, false)⟩, ⟨some 71, .move (.tmp 8), 3, "law.go:33", #[⟨25, .guard⟩], some (25, false)⟩, ⟨some 72, .call { callee := Callee.value (Operand.func 18), args := #[.tmp 70, .tmp 71], argTypes := #[35, 3] }, 4, "law.go:33", #[⟨26, .data⟩, ⟨27, .data⟩, ⟨25, .chain⟩, ⟨25, .guard⟩], some (25, false)⟩, ⟨some 73, .move (.tmp 6), 37, "law.go:33", #[⟨25, .guard⟩], some (25, false)⟩, ⟨some 74, .move (.tmp 8), 3, "law.go:33", #[⟨25, .guard⟩], some (25, false)⟩, ⟨some 75, .indexAddr 37 (.tmp 73) (.tmp 74), 0, "law.go:33", #[⟨29, .data⟩, ⟨30, .data⟩, ⟨25, .guard⟩], some (25, false)⟩, ⟨some 76, .load 4 (.tmp 75), 4, "law.go:33", #[⟨31, .data⟩, ⟨25, .guard⟩], some (25, false)⟩, ⟨some 77, .binOp .neq 4 (.tmp 72) (.tmp 76) 4, 4, "law.go:33", #[⟨28, .data⟩, ⟨32, .data⟩, ⟨25, .guard⟩], some (25, false)⟩, ⟨some 78, .pick (.tmp 69) (.const (.bool true)) (.tmp 77), 4, "law.go:33", #[⟨25, .data⟩, ⟨33, .data⟩], none⟩]
/-- What is known of each temporary. -/
def G_pa13_ok (ga oa ca gl ol cl sb i : Nat) (es : List En) (ee : En) (xr : Value) (CS : Array Value) : Tmp → Value → World → Prop
  | 44, xx, _ => xx = .slice (some ⟨ga, oa, none⟩) es.length ca
  | 45, xx, _ => xx = .int .i64 (i : Nat)
  | 46, xx, _ => xx = .pointer (some ⟨ga, oa + i, none⟩)
  | 47, xx, _ => xx = xr
  | 48, xx, _ => xx = .slice (some ⟨gl, ol, none⟩) es.length cl
  | 49, xx, _ => xx = .int .i64 (i : Nat)
  | 50, xx, ww => IntsV ww xx (ci (ahd (nxE es) es.length i))
  | 51, xx, _ => xx = .bool (true)
  | 52, xx, _ => xx = .bool (false)
  | 53, xx, _ => xx = .bool (false)
  | 54, xx, _ => xx = .slice (some ⟨gl, ol, none⟩) es.length cl
  | 55, xx, _ => xx = .int .i64 (i : Nat)
  | 56, xx, _ => xx = .pointer (some ⟨gl, ol + i * 5, none⟩)
  | 57, xx, _ => xx = .pointer (some ⟨gl, ol + i * 5 + 1, none⟩)
  | 58, xx, _ => xx = .agg #[.int .u8 ee.k, .int .i64 ee.a, .int .i64 ee.to, .int .i64 ee.el]
  | 59, xx, ww => IntsV ww xx (fol ee)
  | 60, xx, _ => xx = .slice (some ⟨gl, ol, none⟩) es.length cl
  | 61, xx, _ => xx = .int .i64 (i : Nat)
  | 62, xx, _ => xx = .pointer (some ⟨gl, ol + i * 5, none⟩)
  | 63, xx, _ => xx = .pointer (some ⟨gl, ol + i * 5 + 1, none⟩)
  | 64, xx, _ => xx = .agg #[.int .u8 ee.k, .int .i64 ee.a, .int .i64 ee.to, .int .i64 ee.el]
  | 65, xx, ww => IntsV ww xx (fol ee)
  | 66, xx, _ => xx = .bool (true)
  | 67, xx, _ => xx = .bool (false)
  | 68, xx, _ => xx = .bool (false)
  | 69, xx, _ => xx = .bool (false)
  | 70, xx, _ => xx = .agg CS
  | 71, xx, _ => xx = .int .i64 (i : Nat)
  | 72, xx, _ => xx = .bool (rF es i)
  | 73, xx, _ => xx = .slice (some ⟨sb, 0, none⟩) es.length es.length
  | 74, xx, _ => xx = .int .i64 (i : Nat)
  | 75, xx, _ => xx = .pointer (some ⟨sb, i, none⟩)
  | 76, xx, _ => xx = .bool (rF es i)
  | 77, xx, _ => xx = .bool (false)
  | 78, xx, _ => xx = .bool (false)
  | _, _, _ => True
theorem Gm_pa13_ok {ga oa ca gl ol cl sb i : Nat} {es : List En} {ee : En} {xr : Value} {CS : Array Value} : ∀ d u W W', Below W.heap.size W W' → G_pa13_ok ga oa ca gl ol cl sb i es ee xr CS d u W → G_pa13_ok ga oa ca gl ol cl sb i es ee xr CS d u W' := by
  intro d u W W' hB h
  unfold G_pa13_ok at h ⊢
  split at h
  all_goals first | exact h | exact IntsV.below h hB
set_option maxHeartbeats 1000000 in
set_option maxRecDepth 100000 in
theorem pa13_ok {Q : Exit → Act → World → Prop} {a0 : Act} {wa : World} {ga oa ca gl ol cl pg sb i : Nat} {es : List En} {ee : En} {xr : Value} {CS : Array Value} (hz : a0.tmps.size = 84) (b4 : a0.eval (.tmp 4) = .slice (some ⟨ga, oa, none⟩) es.length ca) (b8 : a0.eval (.tmp 8) = .int .i64 (i : Nat)) (b3 : a0.eval (.tmp 3) = .slice (some ⟨gl, ol, none⟩) es.length cl) (b5 : a0.eval (.tmp 5) = .pointer (some ⟨pg, 0, none⟩)) (b6 : a0.eval (.tmp 6) = .slice (some ⟨sb, 0, none⟩) es.length es.length)
    (hpg : wa.heap[pg]? = some (Obj.cells CS 35 (0, 0))) (hsz35 : (Try.prog.info? 35).map (·.size) = some CS.size) (hCS : Bg.SetC CS (rF es)) (hi : i < es.length) (hn : es.length ≤ 1000) (hin : EndsIn es) (hE0 : EndsV wa (.slice (some ⟨gl, ol, none⟩) es.length cl) es) (hE : EndCells wa gl (ol + i * 5) ee) (hra : wa.cell? ⟨ga, oa + i, none⟩ = some xr) (hI : IntsV wa xr (ci (ahd (nxE es) es.length i))) (hAl : (ci (ahd (nxE es) es.length i)).length ≤ 1000000000) (hBo : BoolsAt wa sb es.length (rF es))
    (hend : ∀ (s : Tmp → Value) (W : World), s 78 = .bool (false) → Below wa.heap.size wa W → Q .normal (overlay a0 (dstsOf ops_pa13_ok) s) W) : (Code.region 13 ops_pa13_ok true).wp Try.prog Q a0 wa := by
  have hmono := @Gm_pa13_ok ga oa ca gl ol cl sb i es ee xr CS
  refine Gr.wp_region_grow (by kernel_rfl) (G_pa13_ok ga oa ca gl ol cl sb i es ee xr CS) (by rw [hz]; kernel_rfl) ?_ ?_
  · refine And.intro ?_ (And.intro ?_ (And.intro ?_ (And.intro ?_ (And.intro ?_ (And.intro ?_ (And.intro ?_ (And.intro ?_ (And.intro ?_ (And.intro ?_ (And.intro ?_ (And.intro ?_ (And.intro ?_ (And.intro ?_ (And.intro ?_ (And.intro ?_ (And.intro ?_ (And.intro ?_ (And.intro ?_ (And.intro ?_ (And.intro ?_ (And.intro ?_ (And.intro ?_ (And.intro ?_ (And.intro ?_ (And.intro ?_ (And.intro ?_ (And.intro ?_ (And.intro ?_ (And.intro ?_ (And.intro ?_ (And.intro ?_ (And.intro ?_ (And.intro ?_ (And.intro ?_ trivial))))))))))))))))))))))))))))))))))
    · refine Gr.ask_val trivial rfl (fun _ => rfl) (fun a W H => ?_)
      have e4 : a.eval (.tmp 4) = .slice (some ⟨ga, oa, none⟩) es.length ca := (H.base 4 rfl).trans b4
      exact run_move rfl e4
    · refine Gr.ask_val trivial rfl (fun _ => rfl) (fun a W H => ?_)
      have e8 : a.eval (.tmp 8) = .int .i64 (i : Nat) := (H.base 8 rfl).trans b8
      exact run_move rfl e8
    · refine Gr.ask_val trivial rfl (fun _ => rfl) (fun a W H => ?_)
      have e44 : a.eval (.tmp 44) = .slice (some ⟨ga, oa, none⟩) es.length ca := H.facts 44 rfl
      have e45 : a.eval (.tmp 45) = .int .i64 (i : Nat) := H.facts 45 rfl
      have hi' : (i : Int) < (es.length : Int) := by omega
      (simp only [execOp]; try simp only [Option.map]); (try simp only [List.map_toArray, List.map_cons, List.map_nil]); (simp only [e44, e45]; go_simp)
    · refine Gr.ask_val trivial rfl (fun _ => rfl) (fun a W H => ?_)
      have e46 : a.eval (.tmp 46) = .pointer (some ⟨ga, oa + i, none⟩) := H.facts 46 rfl
      have hcell := cell_below H.below hra
      (simp only [execOp]; try simp only [Option.map]); (try simp only [List.map_toArray, List.map_cons, List.map_nil]); (simp only [e46]; go_simp)
    · refine Gr.ask_val trivial rfl (fun _ => rfl) (fun a W H => ?_)
      have e3 : a.eval (.tmp 3) = .slice (some ⟨gl, ol, none⟩) es.length cl := (H.base 3 rfl).trans b3
      exact run_move rfl e3
    · refine Gr.ask_val trivial rfl (fun _ => rfl) (fun a W H => ?_)
      have e8 : a.eval (.tmp 8) = .int .i64 (i : Nat) := (H.base 8 rfl).trans b8
      exact run_move rfl e8
    · refine Gr.ask_call hmono trivial Try.func15 rfl rfl rfl rfl (fun a W H => ?_)
      have e48 : a.eval (.tmp 48) = .slice (some ⟨gl, ol, none⟩) es.length cl := H.facts 48 rfl
      have e49 : a.eval (.tmp 49) = .int .i64 (i : Nat) := H.facts 49 rfl
      simp only [List.map_toArray, List.map_cons, List.map_nil, e48, e49]
      refine (refAhead_any _ es i W (hE0.below H.below) hin (by omega)).mono ?_
      rintro e w' ⟨u, rfl, hO, hB⟩
      exact ⟨u, rfl, hO.v, hB⟩
    · refine Gr.ask_call hmono trivial Try.func12 rfl rfl rfl rfl (fun a W H => ?_)
      have e47 : a.eval (.tmp 47) = xr := H.facts 47 rfl
      have e50 : IntsV W (a.eval (.tmp 50)) (ci (ahd (nxE es) es.length i)) := H.facts 50 rfl
      simp only [List.map_toArray, List.map_cons, List.map_nil, e47]
      refine (sameInts_any _ _ (ci (ahd (nxE es) es.length i)) W (hI.below H.below) e50 hAl).mono ?_
      rintro e w' ⟨rfl, hB⟩
      exact ⟨_, rfl, rfl, hB⟩
    · refine Gr.ask_val trivial rfl (fun _ => rfl) (fun a W H => ?_)
      have e51 : a.eval (.tmp 51) = .bool (true) := H.facts 51 rfl
      (simp only [execOp]; try simp only [Option.map]); (try simp only [List.map_toArray, List.map_cons, List.map_nil]); (simp only [e51]; go_simp)
    · refine Gr.ask_val trivial rfl (fun _ => rfl) (fun a W H => ?_)
      have e52 : a.eval (.tmp 52) = .bool (false) := H.facts 52 rfl
      exact run_move rfl e52
    · refine Gr.ask_val ⟨53, rfl, rfl, fun _ _ h => h⟩ rfl (fun _ => rfl) (fun a W H => ?_)
      have e3 : a.eval (.tmp 3) = .slice (some ⟨gl, ol, none⟩) es.length cl := (H.base 3 rfl).trans b3
      exact run_move rfl e3
    · refine Gr.ask_val ⟨53, rfl, rfl, fun _ _ h => h⟩ rfl (fun _ => rfl) (fun a W H => ?_)
      have e8 : a.eval (.tmp 8) = .int .i64 (i : Nat) := (H.base 8 rfl).trans b8
      exact run_move rfl e8
    · refine Gr.ask_val ⟨53, rfl, rfl, fun _ _ h => h⟩ rfl (fun _ => rfl) (fun a W H => ?_)
      have e54 : a.eval (.tmp 54) = .slice (some ⟨gl, ol, none⟩) es.length cl := H.facts 54 rfl
      have e55 : a.eval (.tmp 55) = .int .i64 (i : Nat) := H.facts 55 rfl
      have hi' : (i : Int) < (es.length : Int) := by omega
      (simp only [execOp]; try simp only [Option.map]); (try simp only [List.map_toArray, List.map_cons, List.map_nil]); (simp only [e54, e55]; go_simp)
    · refine Gr.ask_val ⟨53, rfl, rfl, fun _ _ h => h⟩ rfl (fun _ => rfl) (fun a W H => ?_)
      have e56 : a.eval (.tmp 56) = .pointer (some ⟨gl, ol + i * 5, none⟩) := H.facts 56 rfl
      (simp only [execOp]; try simp only [Option.map]); (try simp only [List.map_toArray, List.map_cons, List.map_nil]); (simp only [e56]; go_simp)
    · refine Gr.ask_val ⟨53, rfl, rfl, fun _ _ h => h⟩ rfl (fun _ => rfl) (fun a W H => ?_)
      have e57 : a.eval (.tmp 57) = .pointer (some ⟨gl, ol + i * 5 + 1, none⟩) := H.facts 57 rfl
      obtain ⟨c1, c2, c3, c4⟩ := hE.below H.below
      (simp only [execOp]; try simp only [Option.map]); (try simp only [List.map_toArray, List.map_cons, List.map_nil]); (simp only [e57]; go_simp)
    · refine Gr.ask_call hmono ⟨53, rfl, rfl, fun _ _ h => h⟩ Try.func16 rfl rfl rfl rfl (fun a W H => ?_)
      have e58 : a.eval (.tmp 58) = .agg #[.int .u8 ee.k, .int .i64 ee.a, .int .i64 ee.to, .int .i64 ee.el] := H.facts 58 rfl
      simp only [List.map_toArray, List.map_cons, List.map_nil, e58]
      refine (next16 ee W).mono ?_
      rintro e w' ⟨u, rfl, hO, hB⟩
      exact ⟨u, rfl, hO.v, hB⟩
    · refine Gr.ask_val ⟨53, rfl, rfl, fun _ _ h => h⟩ rfl (fun _ => rfl) (fun a W H => ?_)
      have e3 : a.eval (.tmp 3) = .slice (some ⟨gl, ol, none⟩) es.length cl := (H.base 3 rfl).trans b3
      exact run_move rfl e3
    · refine Gr.ask_val ⟨53, rfl, rfl, fun _ _ h => h⟩ rfl (fun _ => rfl) (fun a W H => ?_)
      have e8 : a.eval (.tmp 8) = .int .i64 (i : Nat) := (H.base 8 rfl).trans b8
      exact run_move rfl e8
    · refine Gr.ask_val ⟨53, rfl, rfl, fun _ _ h => h⟩ rfl (fun _ => rfl) (fun a W H => ?_)
      have e60 : a.eval (.tmp 60) = .slice (some ⟨gl, ol, none⟩) es.length cl := H.facts 60 rfl
      have e61 : a.eval (.tmp 61) = .int .i64 (i : Nat) := H.facts 61 rfl
      have hi' : (i : Int) < (es.length : Int) := by omega
      (simp only [execOp]; try simp only [Option.map]); (try simp only [List.map_toArray, List.map_cons, List.map_nil]); (simp only [e60, e61]; go_simp)
    · refine Gr.ask_val ⟨53, rfl, rfl, fun _ _ h => h⟩ rfl (fun _ => rfl) (fun a W H => ?_)
      have e62 : a.eval (.tmp 62) = .pointer (some ⟨gl, ol + i * 5, none⟩) := H.facts 62 rfl
      (simp only [execOp]; try simp only [Option.map]); (try simp only [List.map_toArray, List.map_cons, List.map_nil]); (simp only [e62]; go_simp)
    · refine Gr.ask_val ⟨53, rfl, rfl, fun _ _ h => h⟩ rfl (fun _ => rfl) (fun a W H => ?_)
      have e63 : a.eval (.tmp 63) = .pointer (some ⟨gl, ol + i * 5 + 1, none⟩) := H.facts 63 rfl
      obtain ⟨c1, c2, c3, c4⟩ := hE.below H.below
      (simp only [execOp]; try simp only [Option.map]); (try simp only [List.map_toArray, List.map_cons, List.map_nil]); (simp only [e63]; go_simp)
    · refine Gr.ask_call hmono ⟨53, rfl, rfl, fun _ _ h => h⟩ Try.func17 rfl rfl rfl rfl (fun a W H => ?_)
      have e64 : a.eval (.tmp 64) = .agg #[.int .u8 ee.k, .int .i64 ee.a, .int .i64 ee.to, .int .i64 ee.el] := H.facts 64 rfl
      simp only [List.map_toArray, List.map_cons, List.map_nil, e64]
      refine (next17 ee W).mono ?_
      rintro e w' ⟨u, rfl, hO, hB⟩
      exact ⟨u, rfl, hO.v, hB⟩
    · refine Gr.ask_call hmono ⟨53, rfl, rfl, fun _ _ h => h⟩ Try.func12 rfl rfl rfl rfl (fun a W H => ?_)
      have e59 : IntsV W (a.eval (.tmp 59)) (fol ee) := H.facts 59 rfl
      have e65 : IntsV W (a.eval (.tmp 65)) (fol ee) := H.facts 65 rfl
      simp only [List.map_toArray, List.map_cons, List.map_nil]
      refine (sameInts_any _ _ (fol ee) W e59 e65 (by have := fol_len ee; omega)).mono ?_
      rintro e w' ⟨rfl, hB⟩
      exact ⟨_, rfl, rfl, hB⟩
    · refine Gr.ask_val ⟨53, rfl, rfl, fun _ _ h => h⟩ rfl (fun _ => rfl) (fun a W H => ?_)
      have e66 : a.eval (.tmp 66) = .bool (true) := H.facts 66 rfl
      (simp only [execOp]; try simp only [Option.map]); (try simp only [List.map_toArray, List.map_cons, List.map_nil]); (simp only [e66]; go_simp)
    · refine Gr.ask_val trivial rfl (fun _ => rfl) (fun a W H => ?_)
      have e53 : a.eval (.tmp 53) = .bool (false) := H.facts 53 rfl
      have e67 : a.eval (.tmp 67) = .bool (false) := H.facts 67 rfl
      (simp only [execOp]); (simp only [e53, e67]; go_simp)
    · refine Gr.ask_val trivial rfl (fun _ => rfl) (fun a W H => ?_)
      have e68 : a.eval (.tmp 68) = .bool (false) := H.facts 68 rfl
      exact run_move rfl e68
    · refine Gr.ask_val ⟨69, rfl, rfl, fun _ _ h => h⟩ rfl (fun _ => rfl) (fun a W H => ?_)
      have e5 : a.eval (.tmp 5) = .pointer (some ⟨pg, 0, none⟩) := (H.base 5 rfl).trans b5
      exact Gr.run_load_row rfl e5 (H.row hpg) Try.underlying35 hsz35
    · refine Gr.ask_val ⟨69, rfl, rfl, fun _ _ h => h⟩ rfl (fun _ => rfl) (fun a W H => ?_)
      have e8 : a.eval (.tmp 8) = .int .i64 (i : Nat) := (H.base 8 rfl).trans b8
      exact run_move rfl e8
    · refine Gr.ask_call hmono ⟨69, rfl, rfl, fun _ _ h => h⟩ Try.func18 rfl rfl rfl rfl (fun a W H => ?_)
      have e70 : a.eval (.tmp 70) = .agg CS := H.facts 70 rfl
      have e71 : a.eval (.tmp 71) = .int .i64 (i : Nat) := H.facts 71 rfl
      simp only [List.map_toArray, List.map_cons, List.map_nil, e70, e71]
      refine (has_nat (.agg CS) (rF es) i W ⟨CS, rfl, hCS⟩ (by omega)).mono ?_
      rintro e w' ⟨rfl, hB⟩
      exact ⟨_, rfl, rfl, hB⟩
    · refine Gr.ask_val ⟨69, rfl, rfl, fun _ _ h => h⟩ rfl (fun _ => rfl) (fun a W H => ?_)
      have e6 : a.eval (.tmp 6) = .slice (some ⟨sb, 0, none⟩) es.length es.length := (H.base 6 rfl).trans b6
      exact run_move rfl e6
    · refine Gr.ask_val ⟨69, rfl, rfl, fun _ _ h => h⟩ rfl (fun _ => rfl) (fun a W H => ?_)
      have e8 : a.eval (.tmp 8) = .int .i64 (i : Nat) := (H.base 8 rfl).trans b8
      exact run_move rfl e8
    · refine Gr.ask_val ⟨69, rfl, rfl, fun _ _ h => h⟩ rfl (fun _ => rfl) (fun a W H => ?_)
      have e73 : a.eval (.tmp 73) = .slice (some ⟨sb, 0, none⟩) es.length es.length := H.facts 73 rfl
      have e74 : a.eval (.tmp 74) = .int .i64 (i : Nat) := H.facts 74 rfl
      have hi' : (i : Int) < (es.length : Int) := by omega
      (simp only [execOp]; try simp only [Option.map]); (try simp only [List.map_toArray, List.map_cons, List.map_nil]); (simp only [e73, e74]; go_simp)
    · refine Gr.ask_val ⟨69, rfl, rfl, fun _ _ h => h⟩ rfl (fun _ => rfl) (fun a W H => ?_)
      have e75 : a.eval (.tmp 75) = .pointer (some ⟨sb, i, none⟩) := H.facts 75 rfl
      have hcell := ((hBo.below H.below).cell i hi).1
      (simp only [execOp]; try simp only [Option.map]); (try simp only [List.map_toArray, List.map_cons, List.map_nil]); (simp only [e75]; go_simp)
    · refine Gr.ask_val ⟨69, rfl, rfl, fun _ _ h => h⟩ rfl (fun _ => rfl) (fun a W H => ?_)
      have e72 : a.eval (.tmp 72) = .bool (rF es i) := H.facts 72 rfl
      have e76 : a.eval (.tmp 76) = .bool (rF es i) := H.facts 76 rfl
      (simp only [execOp]; try simp only [Option.map]); (try simp only [List.map_toArray, List.map_cons, List.map_nil]); (simp only [e72, e76]; go_simp)
    · refine Gr.ask_val trivial rfl (fun _ => rfl) (fun a W H => ?_)
      have e69 : a.eval (.tmp 69) = .bool (false) := H.facts 69 rfl
      have e77 : a.eval (.tmp 77) = .bool (false) := H.facts 77 rfl
      (simp only [execOp]); (simp only [e69, e77]; go_simp)
  · intro s W hB hs
    exact hend s W (hs 78 rfl) hB
end Go.Proofs.Ytgckpmaajmlijaa
