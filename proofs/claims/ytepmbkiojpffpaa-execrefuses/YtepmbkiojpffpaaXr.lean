/- ExecRefuses: any code, any input. -/
import Derived.Test.YtepmbkiojpffpaaPy
import Derived.Test.YtepmbkiojpffpaaGr
import Derived.Test.YtepmbkiojpffpaaSo
import Derived.Test.YtepmbkiojpffpaaAw
import Derived.Test.YtepmbkiojpffpaaRCode
import Derived.Test.YtepmbkiojpffpaaMd5
import Derived.Test.YtepmbkiojpffpaaTurn
namespace Go.Proofs.Ytepmbkiojpffpaa
open Go Go.RowKit Ir

theorem mF_args {i : Ins} {r s : Int} (h : mF i r s = 0) : i.args.length ≤ 3 := by
  unfold mF at h
  by_cases k7 : i.k = 7
  · rw [if_pos k7] at h
    have := (slF_all h).1.2.2.2
    omega
  · rw [if_neg k7] at h
    by_cases k8 : i.k = 8
    · rw [if_pos k8] at h
      have := (slF_all h).1.2.2.2
      omega
    · rw [if_neg k8] at h
      exact (inF_all (ofR_zero.1 h)).2.1
theorem code_small {D : Cod} (h : mchk D = (0, 0, 0)) : ∀ x ∈ D.bs, x.ins.length < 100000 ∧ ∀ i ∈ x.ins, i.args.length ≤ 1000000 := by
  intro x hx
  obtain ⟨_, h2⟩ := mchk_all (C := D) (by rw [h])
  obtain ⟨h3, h4, _⟩ := mbF_all (h2 x hx)
  exact ⟨by omega, fun i hi => by have := mF_args (h4 i hi); omega⟩
/-- Three boxes, behind. -/
theorem three_rows (w : World) (a b c : Array Value) (ta tb tc : TypeId) : ∀ W, Below (((w.alloc (.cells a ta)).alloc (.cells b tb)).alloc (.cells c tc)).heap.size (((w.alloc (.cells a ta)).alloc (.cells b tb)).alloc (.cells c tc)) W →
    W.heap[w.heap.size]? = some (Obj.cells a ta (0, 0)) ∧ W.heap[w.heap.size + 1]? = some (Obj.cells b tb (0, 0)) ∧ W.heap[w.heap.size + 2]? = some (Obj.cells c tc (0, 0)) ∧ Below w.heap.size w W := by
  intro W hB
  have h1 := heap_alloc_new w (.cells a ta)
  have h2 := heap_alloc_new (w.alloc (.cells a ta)) (.cells b tb)
  have h3 := heap_alloc_new ((w.alloc (.cells a ta)).alloc (.cells b tb)) (.cells c tc)
  have b1 := bel1' w (.cells a ta)
  have b2 := bel1' (w.alloc (.cells a ta)) (.cells b tb)
  have b3 := bel1' ((w.alloc (.cells a ta)).alloc (.cells b tb)) (.cells c tc)
  have e1 : (w.alloc (.cells a ta)).heap.size = w.heap.size + 1 := by simp
  have e2 : ((w.alloc (.cells a ta)).alloc (.cells b tb)).heap.size = w.heap.size + 2 := by simp
  have e3 : (((w.alloc (.cells a ta)).alloc (.cells b tb)).alloc (.cells c tc)).heap.size = w.heap.size + 3 := by simp
  rw [e1] at h2 b2
  rw [e2] at h3 b3
  refine ⟨?_, ?_, ?_, bel_of b1 (by rw [e1]; exact b2.trans ((b3.mono (by omega)).trans (hB.mono (by rw [e3]; omega))))⟩
  · rw [hB.block _ (by rw [e3]; omega), b3.block _ (by omega), b2.block _ (by omega)]
    exact h1
  · rw [hB.block _ (by rw [e3]; omega), b3.block _ (by omega)]
    exact h2
  · rw [hB.block _ (by rw [e3]; omega)]
    exact h3
theorem row_cells3 {W : World} {g : Nat} {a b c : Value} {t : TypeId} (h : W.heap[g]? = some (Obj.cells #[a, b, c] t (0, 0))) : W.cell? ⟨g, 0, none⟩ = some a ∧ W.cell? ⟨g, 1, none⟩ = some b ∧ W.cell? ⟨g, 2, none⟩ = some c := by
  refine ⟨?_, ?_, ?_⟩
  all_goals (rw [cell_of_row _ _ _ _ _ _ h]; rfl)
theorem row_cells4 {W : World} {g : Nat} {a b c d : Value} {t : TypeId} (h : W.heap[g]? = some (Obj.cells #[a, b, c, d] t (0, 0))) : W.cell? ⟨g, 0, none⟩ = some a ∧ W.cell? ⟨g, 1, none⟩ = some b ∧ W.cell? ⟨g, 2, none⟩ = some c ∧ W.cell? ⟨g, 3, none⟩ = some d := by
  refine ⟨?_, ?_, ?_, ?_⟩
  all_goals (rw [cell_of_row _ _ _ _ _ _ h]; rfl)
theorem size27 : (Try.prog.info? 27).map (·.size) = some 4 := by kernel_rfl
theorem play_anyI (u : Value) (bs : List Blk) (r slots : Int) (v : Value) (I : Inp) (n : Nat) (w : World) (hu : BlksV w u bs) (hI : InpV w v I) (hb : Okay r n bs) (hn : r + slots = (n : Int)) (hn2 : n ≤ 1000000) (hr : 0 ≤ r ∧ r ≤ 1000000) (hbl : 1 ≤ bs.length ∧ bs.length ≤ 1000) (hf : r + I.args.length ≤ n) (hfu : 0 ≤ I.fuel ∧ I.fuel ≤ 1048576) :
    Calls Try.prog 12 #[u, .int .i64 r, .int .i64 slots, .int .i64 r, v] w fun e w' => ∃ x, e = .returned x ∧ OutO w.heap.size w' x (play r bs 0 (st0 n r I)) ∧ Below w.heap.size w w' := by
  obtain ⟨f, rfl⟩ := Int.eq_ofNat_of_zero_le hr.1
  exact play_any u bs _ slots f v I n w hu hI hb hn hn2 hr hbl (by omega) hfu
set_option maxRecDepth 100000 in
open Go.ChangeShapes Go.WideShapes Go.ChangeAt Go.Deep in
theorem cod_in {H : Type} {enc : TypeId × Value → H} {W : World} {base : Nat} {v : Value} {d : DataW H} {p : List MemPlace} (o : Value.okWide Try.prog W .any base 31 v) (k : DataW.Trod enc Try.prog W 0 (fun _ => true) true 31 v d p) : ∃ C, CodV W v C := by
  obtain ⟨v0, v1, v2, v3, y0, y1, y2, y3, m, rfl, _, _, h0, h1, h2, h3⟩ := Go.Joins.open_agg4 Try.underlying31 (by kernel_rfl) (by kernel_rfl) o k
  obtain ⟨n0, e0, _⟩ := int_of Try.underlying3 h0
  obtain ⟨n1, e1, _⟩ := int_of Try.underlying3 h1
  obtain ⟨n2, e2, _⟩ := int_of Try.underlying3 h2
  obtain ⟨bs, hb⟩ := blks_of h3
  simp at e0 e1 e2
  exact ⟨⟨n0, n1, n2, bs⟩, v3, by rw [e0, e1, e2], hb⟩
def ops_rza_ok : Array Oper := #[⟨some 80, .move (.tmp 20), 38, "law.go:51", #[], none⟩, ⟨some 81, .move (.tmp 18), 3, "law.go:51", #[], none⟩, ⟨some 82, .binOp .neq 3 (.tmp 80) (.tmp 81) 3, 4, "law.go:51", #[⟨0, .data⟩, ⟨1, .data⟩], none⟩, ⟨some 83, .move (.tmp 82), 4, "law.go:51", #[⟨2, .data⟩], none⟩, ⟨some 84, .move (.tmp 18), 3, "law.go:51", #[⟨3, .guard⟩], some (3, false)⟩, ⟨some 85, .binOp .neq 3 (.tmp 84) (.const (.int .i64 0)) 3, 4, "law.go:51", #[⟨4, .data⟩, ⟨3, .guard⟩], some (3, false)⟩, ⟨some 86, .move (.tmp 85), 4, "law.go:51", #[⟨5, .data⟩, ⟨3, .chain⟩, ⟨3, .guard⟩], some (3, false)⟩, ⟨some 87, .load 37 (.tmp 19), 37, "law.go:51", #[⟨6, .guard⟩], some (6, true)⟩, ⟨some 88, .build 37 #[], 37, "law.go:51", #[⟨6, .guard⟩], some (6, true)⟩, ⟨some 89, .call { callee := Callee.value (Operand.func 11), args := #[.tmp 87, .tmp 88], argTypes := #[37, 37] }, 4, "law.go:51", #[⟨7, .data⟩, ⟨8, .data⟩, ⟨6, .chain⟩, ⟨6, .guard⟩], some (6, true)⟩, ⟨some 90, .unOp .not 4 (.tmp 89), 4, "law.go:51", #[⟨9, .data⟩, ⟨6, .guard⟩], some (6, true)⟩, ⟨some 91, .pick (.tmp 86) (.tmp 90) (.const (.bool false)), 4, "law.go:51", #[⟨6, .data⟩, ⟨10, .data⟩, ⟨3, .guard⟩], some (3, false)⟩, ⟨some 92, .pick (.tmp 83) (.const (.bool true)) (.tmp 91), 4, "law.go:51", #[⟨3, .data⟩, ⟨11, .data⟩], none⟩, ⟨some 93, .move (.tmp 92), 4, "law.go:51", #[⟨12, .data⟩, ⟨9, .chain⟩], none⟩, ⟨some 94, .move (.tmp 18), 3, "law.go:51", #[⟨13, .guard⟩], some (13, false)⟩, ⟨some 95, .binOp .eql 3 (.tmp 94) (.const (.int .i64 0)) 3, 4, "law.go:51", #[⟨14, .data⟩, ⟨13, .guard⟩], some (13, false)⟩, ⟨some 96, .move (.tmp 95), 4, "law.go:51", #[⟨15, .data⟩, ⟨13, .chain⟩, ⟨13, .guard⟩], some (13, false)⟩, ⟨some 97, .load 37 (.tmp 19), 37, "law.go:51", #[⟨16, .guard⟩], some (16, true)⟩, ⟨some 98, .fieldAddr 31 (.tmp 17) 3, 0, "law.go:51", #[⟨16, .guard⟩], some (16, true)⟩, ⟨some 99, .load 29 (.tmp 98), 29, "law.go:51", #[⟨18, .data⟩, ⟨16, .guard⟩], some (16, true)⟩, ⟨some 100, .fieldAddr 31 (.tmp 17) 1, 0, "law.go:51", #[⟨16, .guard⟩], some (16, true)⟩, ⟨some 101, .load 3 (.tmp 100), 3, "law.go:51", #[⟨20, .data⟩, ⟨16, .guard⟩], some (16, true)⟩, ⟨some 102, .fieldAddr 31 (.tmp 17) 2, 0, "law.go:51", #[⟨16, .guard⟩], some (16, true)⟩, ⟨some 103, .load 3 (.tmp 102), 3, "law.go:51", #[⟨22, .data⟩, ⟨16, .guard⟩], some (16, true)⟩, ⟨some 104, .fieldAddr 31 (.tmp 17) 1, 0, "law.go:51", #[⟨16, .guard⟩], some (16, true)⟩, ⟨some 105, .load 3 (.tmp 104), 3, "law.go:51", #[⟨24, .data⟩, ⟨16, .guard⟩], some (16, true)⟩, ⟨some 106, .load 27 (.tmp 9), 27, "law.go:51", #[⟨16, .guard⟩], some (16, true)⟩, ⟨some 107, .call { callee := Callee.value (Operand.func 12), args := #[.tmp 99, .tmp 101, .tmp 103, .tmp 105, .tmp 106], argTypes := #[29, 3, 3, 3, 27] }, 37, "law.go:51", #[⟨19, .data⟩, ⟨21, .data⟩, ⟨23, .data⟩, ⟨25, .data⟩, ⟨26, .data⟩, ⟨16, .chain⟩, ⟨16, .guard⟩], some (16, true)⟩, ⟨some 108, .call { callee := Callee.value (Operand.func 11), args := #[.tmp 97, .tmp 107], argTypes := #[37, 37] }, 4, "law.go:51", #[⟨17, .data⟩, ⟨27, .data⟩, ⟨27, .chain⟩, ⟨16, .guard⟩], some (16, true)⟩, ⟨some 109, .unOp .not 4 (.tmp 108), 4, "law.go:51", #[⟨28, .data⟩, ⟨16, .guard⟩], some (16, true)⟩, ⟨some 110, .pick (.tmp 96) (.tmp 109) (.const (.bool false)), 4, "law.go:51", #[⟨16, .data⟩, ⟨29, .data⟩, ⟨13, .guard⟩], some (13, false)⟩, ⟨some 111, .pick (.tmp 93) (.const (.bool true)) (.tmp 110), 4, "law.go:51", #[⟨13, .data⟩, ⟨30, .data⟩], none⟩]
/-- What is known of each temporary. -/
def G_rza_ok (cc : Int) (OA : List Value) : Tmp → Value → World → Prop
  | 80, xx, _ => xx = .int .i64 cc
  | 81, xx, _ => xx = .int .i64 cc
  | 82, xx, _ => xx = .bool (false)
  | 83, xx, _ => xx = .bool (false)
  | 84, xx, _ => xx = .int .i64 cc
  | 85, xx, _ => xx = .bool (true)
  | 86, xx, _ => xx = .bool (true)
  | 87, xx, _ => xx = .agg OA.toArray
  | 88, xx, _ => xx = .agg (out0 0).toArray
  | 89, xx, _ => xx = .bool (true)
  | 90, xx, _ => xx = .bool (false)
  | 91, xx, _ => xx = .bool (false)
  | 92, xx, _ => xx = .bool (false)
  | 93, xx, _ => xx = .bool (false)
  | 94, xx, _ => xx = .int .i64 cc
  | 95, xx, _ => xx = .bool (false)
  | 96, xx, _ => xx = .bool (false)
  | 97, xx, _ => xx = undef
  | 98, xx, _ => xx = undef
  | 99, xx, _ => xx = undef
  | 100, xx, _ => xx = undef
  | 101, xx, _ => xx = undef
  | 102, xx, _ => xx = undef
  | 103, xx, _ => xx = undef
  | 104, xx, _ => xx = undef
  | 105, xx, _ => xx = undef
  | 106, xx, _ => xx = undef
  | 107, xx, _ => xx = undef
  | 108, xx, _ => xx = undef
  | 109, xx, _ => xx = undef
  | 110, xx, _ => xx = .bool (false)
  | 111, xx, _ => xx = .bool (false)
  | _, _, _ => True
theorem Gm_rza_ok {cc : Int} {OA : List Value} : ∀ d u W W', Below W.heap.size W W' → G_rza_ok cc OA d u W → G_rza_ok cc OA d u W' := by
  intro d u W W' hB h
  unfold G_rza_ok at h ⊢
  split at h
  all_goals first | exact h | exact h
set_option maxHeartbeats 1000000 in
set_option maxRecDepth 100000 in
theorem rza_ok {Q : Exit → Act → World → Prop} {a0 : Act} {wa : World} {ga : Nat} {cc : Int} {OA : List Value} (hz : a0.tmps.size = 113) (b20 : a0.eval (.tmp 20) = .int .i64 cc) (b18 : a0.eval (.tmp 18) = .int .i64 cc) (b19 : a0.eval (.tmp 19) = .pointer (some ⟨ga, 0, none⟩))
    (hra : wa.heap[ga]? = some (Obj.cells OA.toArray 37 (0, 0))) (hsz37 : (Try.prog.info? 37).map (·.size) = some OA.toArray.size) (hOA : OutV wa (.agg OA.toArray) out00) (hcc : (cc == 0) = false)
    (hend : ∀ (s : Tmp → Value) (W : World), s 111 = .bool (false) → Below wa.heap.size wa W → Q .normal (overlay a0 (dstsOf ops_rza_ok) s) W) : (Code.region 15 ops_rza_ok true).wp Try.prog Q a0 wa := by
  have hmono := @Gm_rza_ok cc OA
  refine Gr.wp_region_grow (by kernel_rfl) (G_rza_ok cc OA) (by rw [hz]; kernel_rfl) ?_ ?_
  · refine And.intro ?_ (And.intro ?_ (And.intro ?_ (And.intro ?_ (And.intro ?_ (And.intro ?_ (And.intro ?_ (And.intro ?_ (And.intro ?_ (And.intro ?_ (And.intro ?_ (And.intro ?_ (And.intro ?_ (And.intro ?_ (And.intro ?_ (And.intro ?_ (And.intro ?_ (And.intro ?_ (And.intro ?_ (And.intro ?_ (And.intro ?_ (And.intro ?_ (And.intro ?_ (And.intro ?_ (And.intro ?_ (And.intro ?_ (And.intro ?_ (And.intro ?_ (And.intro ?_ (And.intro ?_ (And.intro ?_ (And.intro ?_ trivial)))))))))))))))))))))))))))))))
    · refine Gr.ask_val trivial rfl (fun _ => rfl) (fun a W H => ?_)
      have e20 : a.eval (.tmp 20) = .int .i64 cc := (H.base 20 rfl).trans b20
      exact run_move rfl e20
    · refine Gr.ask_val trivial rfl (fun _ => rfl) (fun a W H => ?_)
      have e18 : a.eval (.tmp 18) = .int .i64 cc := (H.base 18 rfl).trans b18
      exact run_move rfl e18
    · refine Gr.ask_val trivial rfl (fun _ => rfl) (fun a W H => ?_)
      have e80 : a.eval (.tmp 80) = .int .i64 cc := H.facts 80 rfl
      have e81 : a.eval (.tmp 81) = .int .i64 cc := H.facts 81 rfl
      (simp only [execOp]; try simp only [Option.map]); (try simp only [List.map_toArray, List.map_cons, List.map_nil]); (simp only [e80, e81]; go_simp)
    · refine Gr.ask_val trivial rfl (fun _ => rfl) (fun a W H => ?_)
      have e82 : a.eval (.tmp 82) = .bool (false) := H.facts 82 rfl
      exact run_move rfl e82
    · refine Gr.ask_val ⟨83, rfl, rfl, fun _ _ h => h⟩ rfl (fun _ => rfl) (fun a W H => ?_)
      have e18 : a.eval (.tmp 18) = .int .i64 cc := (H.base 18 rfl).trans b18
      exact run_move rfl e18
    · refine Gr.ask_val ⟨83, rfl, rfl, fun _ _ h => h⟩ rfl (fun _ => rfl) (fun a W H => ?_)
      have e84 : a.eval (.tmp 84) = .int .i64 cc := H.facts 84 rfl
      (simp only [execOp]; try simp only [Option.map]); (try simp only [List.map_toArray, List.map_cons, List.map_nil]); (simp only [e84]; go_simp)
      simpa using hcc
    · refine Gr.ask_val ⟨83, rfl, rfl, fun _ _ h => h⟩ rfl (fun _ => rfl) (fun a W H => ?_)
      have e85 : a.eval (.tmp 85) = .bool (true) := H.facts 85 rfl
      exact run_move rfl e85
    · refine Gr.ask_val ⟨86, rfl, rfl, fun _ _ h => h⟩ rfl (fun _ => rfl) (fun a W H => ?_)
      have e19 : a.eval (.tmp 19) = .pointer (some ⟨ga, 0, none⟩) := (H.base 19 rfl).trans b19
      exact Gr.run_load_row rfl e19 (H.row hra) Try.underlying37 hsz37
    · refine Gr.ask_val ⟨86, rfl, rfl, fun _ _ h => h⟩ rfl (fun _ => rfl) (fun a W H => ?_)
      (simp only [execOp, List.map_toArray, List.map_nil, Sem.run_bind, build37z, Result.andThen_ok, Sem.run_pure])
    · refine Gr.ask_call hmono ⟨86, rfl, rfl, fun _ _ h => h⟩ Try.func11 rfl rfl rfl rfl (fun a W H => ?_)
      have e87 : a.eval (.tmp 87) = .agg OA.toArray := H.facts 87 rfl
      have e88 : a.eval (.tmp 88) = .agg (out0 0).toArray := H.facts 88 rfl
      have hZ : OutV W (.agg (out0 0).toArray) out00 := ⟨.slice none 0 0, rfl, SlV.nil, by simp [out00]⟩
      simp only [List.map_toArray, List.map_cons, List.map_nil, e87, e88]
      refine (same_any out00 _ _ W (hOA.below H.below) hZ).mono ?_
      rintro e w' ⟨rfl, hB⟩
      exact ⟨_, rfl, rfl, hB⟩
    · refine Gr.ask_val ⟨86, rfl, rfl, fun _ _ h => h⟩ rfl (fun _ => rfl) (fun a W H => ?_)
      have e89 : a.eval (.tmp 89) = .bool (true) := H.facts 89 rfl
      (simp only [execOp]; try simp only [Option.map]); (try simp only [List.map_toArray, List.map_cons, List.map_nil]); (simp only [e89]; go_simp)
    · refine Gr.ask_val ⟨83, rfl, rfl, fun _ _ h => h⟩ rfl (fun _ => rfl) (fun a W H => ?_)
      have e86 : a.eval (.tmp 86) = .bool (true) := H.facts 86 rfl
      have e90 : a.eval (.tmp 90) = .bool (false) := H.facts 90 rfl
      (simp only [execOp]); (simp only [e86, e90]; go_simp)
    · refine Gr.ask_val trivial rfl (fun _ => rfl) (fun a W H => ?_)
      have e83 : a.eval (.tmp 83) = .bool (false) := H.facts 83 rfl
      have e91 : a.eval (.tmp 91) = .bool (false) := H.facts 91 rfl
      (simp only [execOp]); (simp only [e83, e91]; go_simp)
    · refine Gr.ask_val trivial rfl (fun _ => rfl) (fun a W H => ?_)
      have e92 : a.eval (.tmp 92) = .bool (false) := H.facts 92 rfl
      exact run_move rfl e92
    · refine Gr.ask_val ⟨93, rfl, rfl, fun _ _ h => h⟩ rfl (fun _ => rfl) (fun a W H => ?_)
      have e18 : a.eval (.tmp 18) = .int .i64 cc := (H.base 18 rfl).trans b18
      exact run_move rfl e18
    · refine Gr.ask_val ⟨93, rfl, rfl, fun _ _ h => h⟩ rfl (fun _ => rfl) (fun a W H => ?_)
      have e94 : a.eval (.tmp 94) = .int .i64 cc := H.facts 94 rfl
      (simp only [execOp]; try simp only [Option.map]); (try simp only [List.map_toArray, List.map_cons, List.map_nil]); (simp only [e94]; go_simp)
    · refine Gr.ask_val ⟨93, rfl, rfl, fun _ _ h => h⟩ rfl (fun _ => rfl) (fun a W H => ?_)
      have e95 : a.eval (.tmp 95) = .bool (false) := H.facts 95 rfl
      exact run_move rfl e95
    · exact Gr.ask_left ⟨96, rfl, rfl, fun u _ h => by rw [show u = _ from h]; simp⟩ rfl (fun _ => rfl)
    · exact Gr.ask_left ⟨96, rfl, rfl, fun u _ h => by rw [show u = _ from h]; simp⟩ rfl (fun _ => rfl)
    · exact Gr.ask_left ⟨96, rfl, rfl, fun u _ h => by rw [show u = _ from h]; simp⟩ rfl (fun _ => rfl)
    · exact Gr.ask_left ⟨96, rfl, rfl, fun u _ h => by rw [show u = _ from h]; simp⟩ rfl (fun _ => rfl)
    · exact Gr.ask_left ⟨96, rfl, rfl, fun u _ h => by rw [show u = _ from h]; simp⟩ rfl (fun _ => rfl)
    · exact Gr.ask_left ⟨96, rfl, rfl, fun u _ h => by rw [show u = _ from h]; simp⟩ rfl (fun _ => rfl)
    · exact Gr.ask_left ⟨96, rfl, rfl, fun u _ h => by rw [show u = _ from h]; simp⟩ rfl (fun _ => rfl)
    · exact Gr.ask_left ⟨96, rfl, rfl, fun u _ h => by rw [show u = _ from h]; simp⟩ rfl (fun _ => rfl)
    · exact Gr.ask_left ⟨96, rfl, rfl, fun u _ h => by rw [show u = _ from h]; simp⟩ rfl (fun _ => rfl)
    · exact Gr.ask_left ⟨96, rfl, rfl, fun u _ h => by rw [show u = _ from h]; simp⟩ rfl (fun _ => rfl)
    · exact Gr.ask_left ⟨96, rfl, rfl, fun u _ h => by rw [show u = _ from h]; simp⟩ rfl (fun _ => rfl)
    · exact Gr.ask_left ⟨96, rfl, rfl, fun u _ h => by rw [show u = _ from h]; simp⟩ rfl (fun _ => rfl)
    · exact Gr.ask_left ⟨96, rfl, rfl, fun u _ h => by rw [show u = _ from h]; simp⟩ rfl (fun _ => rfl)
    · refine Gr.ask_val ⟨93, rfl, rfl, fun _ _ h => h⟩ rfl (fun _ => rfl) (fun a W H => ?_)
      have e96 : a.eval (.tmp 96) = .bool (false) := H.facts 96 rfl
      (simp only [execOp]); (simp only [e96]; go_simp)
    · refine Gr.ask_val trivial rfl (fun _ => rfl) (fun a W H => ?_)
      have e93 : a.eval (.tmp 93) = .bool (false) := H.facts 93 rfl
      have e110 : a.eval (.tmp 110) = .bool (false) := H.facts 110 rfl
      (simp only [execOp]); (simp only [e93, e110]; go_simp)
  · intro s W hB hs
    exact hend s W (hs 111 rfl) hB
def ops_rzb_ok : Array Oper := #[⟨some 80, .move (.tmp 20), 38, "law.go:51", #[], none⟩, ⟨some 81, .move (.tmp 18), 3, "law.go:51", #[], none⟩, ⟨some 82, .binOp .neq 3 (.tmp 80) (.tmp 81) 3, 4, "law.go:51", #[⟨0, .data⟩, ⟨1, .data⟩], none⟩, ⟨some 83, .move (.tmp 82), 4, "law.go:51", #[⟨2, .data⟩], none⟩, ⟨some 84, .move (.tmp 18), 3, "law.go:51", #[⟨3, .guard⟩], some (3, false)⟩, ⟨some 85, .binOp .neq 3 (.tmp 84) (.const (.int .i64 0)) 3, 4, "law.go:51", #[⟨4, .data⟩, ⟨3, .guard⟩], some (3, false)⟩, ⟨some 86, .move (.tmp 85), 4, "law.go:51", #[⟨5, .data⟩, ⟨3, .chain⟩, ⟨3, .guard⟩], some (3, false)⟩, ⟨some 87, .load 37 (.tmp 19), 37, "law.go:51", #[⟨6, .guard⟩], some (6, true)⟩, ⟨some 88, .build 37 #[], 37, "law.go:51", #[⟨6, .guard⟩], some (6, true)⟩, ⟨some 89, .call { callee := Callee.value (Operand.func 11), args := #[.tmp 87, .tmp 88], argTypes := #[37, 37] }, 4, "law.go:51", #[⟨7, .data⟩, ⟨8, .data⟩, ⟨6, .chain⟩, ⟨6, .guard⟩], some (6, true)⟩, ⟨some 90, .unOp .not 4 (.tmp 89), 4, "law.go:51", #[⟨9, .data⟩, ⟨6, .guard⟩], some (6, true)⟩, ⟨some 91, .pick (.tmp 86) (.tmp 90) (.const (.bool false)), 4, "law.go:51", #[⟨6, .data⟩, ⟨10, .data⟩, ⟨3, .guard⟩], some (3, false)⟩, ⟨some 92, .pick (.tmp 83) (.const (.bool true)) (.tmp 91), 4, "law.go:51", #[⟨3, .data⟩, ⟨11, .data⟩], none⟩, ⟨some 93, .move (.tmp 92), 4, "law.go:51", #[⟨12, .data⟩, ⟨9, .chain⟩], none⟩, ⟨some 94, .move (.tmp 18), 3, "law.go:51", #[⟨13, .guard⟩], some (13, false)⟩, ⟨some 95, .binOp .eql 3 (.tmp 94) (.const (.int .i64 0)) 3, 4, "law.go:51", #[⟨14, .data⟩, ⟨13, .guard⟩], some (13, false)⟩, ⟨some 96, .move (.tmp 95), 4, "law.go:51", #[⟨15, .data⟩, ⟨13, .chain⟩, ⟨13, .guard⟩], some (13, false)⟩, ⟨some 97, .load 37 (.tmp 19), 37, "law.go:51", #[⟨16, .guard⟩], some (16, true)⟩, ⟨some 98, .fieldAddr 31 (.tmp 17) 3, 0, "law.go:51", #[⟨16, .guard⟩], some (16, true)⟩, ⟨some 99, .load 29 (.tmp 98), 29, "law.go:51", #[⟨18, .data⟩, ⟨16, .guard⟩], some (16, true)⟩, ⟨some 100, .fieldAddr 31 (.tmp 17) 1, 0, "law.go:51", #[⟨16, .guard⟩], some (16, true)⟩, ⟨some 101, .load 3 (.tmp 100), 3, "law.go:51", #[⟨20, .data⟩, ⟨16, .guard⟩], some (16, true)⟩, ⟨some 102, .fieldAddr 31 (.tmp 17) 2, 0, "law.go:51", #[⟨16, .guard⟩], some (16, true)⟩, ⟨some 103, .load 3 (.tmp 102), 3, "law.go:51", #[⟨22, .data⟩, ⟨16, .guard⟩], some (16, true)⟩, ⟨some 104, .fieldAddr 31 (.tmp 17) 1, 0, "law.go:51", #[⟨16, .guard⟩], some (16, true)⟩, ⟨some 105, .load 3 (.tmp 104), 3, "law.go:51", #[⟨24, .data⟩, ⟨16, .guard⟩], some (16, true)⟩, ⟨some 106, .load 27 (.tmp 9), 27, "law.go:51", #[⟨16, .guard⟩], some (16, true)⟩, ⟨some 107, .call { callee := Callee.value (Operand.func 12), args := #[.tmp 99, .tmp 101, .tmp 103, .tmp 105, .tmp 106], argTypes := #[29, 3, 3, 3, 27] }, 37, "law.go:51", #[⟨19, .data⟩, ⟨21, .data⟩, ⟨23, .data⟩, ⟨25, .data⟩, ⟨26, .data⟩, ⟨16, .chain⟩, ⟨16, .guard⟩], some (16, true)⟩, ⟨some 108, .call { callee := Callee.value (Operand.func 11), args := #[.tmp 97, .tmp 107], argTypes := #[37, 37] }, 4, "law.go:51", #[⟨17, .data⟩, ⟨27, .data⟩, ⟨27, .chain⟩, ⟨16, .guard⟩], some (16, true)⟩, ⟨some 109, .unOp .not 4 (.tmp 108), 4, "law.go:51", #[⟨28, .data⟩, ⟨16, .guard⟩], some (16, true)⟩, ⟨some 110, .pick (.tmp 96) (.tmp 109) (.const (.bool false)), 4, "law.go:51", #[⟨16, .data⟩, ⟨29, .data⟩, ⟨13, .guard⟩], some (13, false)⟩, ⟨some 111, .pick (.tmp 93) (.const (.bool true)) (.tmp 110), 4, "law.go:51", #[⟨13, .data⟩, ⟨30, .data⟩], none⟩]
/-- What is known of each temporary. -/
def G_rzb_ok (gk kc n : Nat) (ka : Option Addr) (K : Cod) (I : Inp) (OA : List Value) (XV : Array Value) : Tmp → Value → World → Prop
  | 80, xx, _ => xx = .int .i64 0
  | 81, xx, _ => xx = .int .i64 0
  | 82, xx, _ => xx = .bool (false)
  | 83, xx, _ => xx = .bool (false)
  | 84, xx, _ => xx = .int .i64 0
  | 85, xx, _ => xx = .bool (false)
  | 86, xx, _ => xx = .bool (false)
  | 87, xx, _ => xx = undef
  | 88, xx, _ => xx = undef
  | 89, xx, _ => xx = undef
  | 90, xx, _ => xx = undef
  | 91, xx, _ => xx = .bool (false)
  | 92, xx, _ => xx = .bool (false)
  | 93, xx, _ => xx = .bool (false)
  | 94, xx, _ => xx = .int .i64 0
  | 95, xx, _ => xx = .bool (true)
  | 96, xx, _ => xx = .bool (true)
  | 97, xx, _ => xx = .agg OA.toArray
  | 98, xx, _ => xx = .pointer (some ⟨gk, 3, none⟩)
  | 99, xx, _ => xx = .slice ka K.bs.length kc
  | 100, xx, _ => xx = .pointer (some ⟨gk, 1, none⟩)
  | 101, xx, _ => xx = .int .i64 K.r
  | 102, xx, _ => xx = .pointer (some ⟨gk, 2, none⟩)
  | 103, xx, _ => xx = .int .i64 K.s
  | 104, xx, _ => xx = .pointer (some ⟨gk, 1, none⟩)
  | 105, xx, _ => xx = .int .i64 K.r
  | 106, xx, _ => xx = .agg XV
  | 107, xx, ww => OutV ww xx (play K.r K.bs 0 (st0 n K.r I))
  | 108, xx, _ => xx = .bool (true)
  | 109, xx, _ => xx = .bool (false)
  | 110, xx, _ => xx = .bool (false)
  | 111, xx, _ => xx = .bool (false)
  | _, _, _ => True
theorem Gm_rzb_ok {gk kc n : Nat} {ka : Option Addr} {K : Cod} {I : Inp} {OA : List Value} {XV : Array Value} : ∀ d u W W', Below W.heap.size W W' → G_rzb_ok gk kc n ka K I OA XV d u W → G_rzb_ok gk kc n ka K I OA XV d u W' := by
  intro d u W W' hB h
  unfold G_rzb_ok at h ⊢
  split at h
  all_goals first | exact h | exact OutV.below h hB
set_option maxHeartbeats 1000000 in
set_option maxRecDepth 100000 in
theorem rzb_ok {Q : Exit → Act → World → Prop} {a0 : Act} {wa : World} {ga gk gi kc n : Nat} {ka : Option Addr} {K : Cod} {I : Inp} {OA : List Value} {XV : Array Value} (hz : a0.tmps.size = 113) (b20 : a0.eval (.tmp 20) = .int .i64 0) (b18 : a0.eval (.tmp 18) = .int .i64 0) (b19 : a0.eval (.tmp 19) = .pointer (some ⟨ga, 0, none⟩)) (b17 : a0.eval (.tmp 17) = .pointer (some ⟨gk, 0, none⟩)) (b9 : a0.eval (.tmp 9) = .pointer (some ⟨gi, 0, none⟩))
    (hra : wa.heap[ga]? = some (Obj.cells OA.toArray 37 (0, 0))) (hrk : wa.heap[gk]? = some (Obj.cells #[.int .i64 K.p, .int .i64 K.r, .int .i64 K.s, .slice ka K.bs.length kc] 31 (0, 0))) (hrx : wa.heap[gi]? = some (Obj.cells XV 27 (0, 0))) (hsz37 : (Try.prog.info? 37).map (·.size) = some OA.toArray.size) (size27 : (Try.prog.info? 27).map (·.size) = some XV.size) (hOA : OutV wa (.agg OA.toArray) (play K.r K.bs 0 (st0 n K.r I))) (hK : BlksV wa (.slice ka K.bs.length kc) K.bs) (hI : InpV wa (.agg XV) I)
    (hok : Okay K.r n K.bs) (hn : K.r + K.s = (n : Int)) (hn2 : n ≤ 1000000) (hr : 0 ≤ K.r ∧ K.r ≤ 1000000) (hbl : 1 ≤ K.bs.length ∧ K.bs.length ≤ 1000) (hargs : K.r + I.args.length ≤ n) (hfu : 0 ≤ I.fuel ∧ I.fuel ≤ 1048576)
    (hend : ∀ (s : Tmp → Value) (W : World), s 111 = .bool (false) → Below wa.heap.size wa W → Q .normal (overlay a0 (dstsOf ops_rzb_ok) s) W) : (Code.region 15 ops_rzb_ok true).wp Try.prog Q a0 wa := by
  have hmono := @Gm_rzb_ok gk kc n ka K I OA XV
  refine Gr.wp_region_grow (by kernel_rfl) (G_rzb_ok gk kc n ka K I OA XV) (by rw [hz]; kernel_rfl) ?_ ?_
  · refine And.intro ?_ (And.intro ?_ (And.intro ?_ (And.intro ?_ (And.intro ?_ (And.intro ?_ (And.intro ?_ (And.intro ?_ (And.intro ?_ (And.intro ?_ (And.intro ?_ (And.intro ?_ (And.intro ?_ (And.intro ?_ (And.intro ?_ (And.intro ?_ (And.intro ?_ (And.intro ?_ (And.intro ?_ (And.intro ?_ (And.intro ?_ (And.intro ?_ (And.intro ?_ (And.intro ?_ (And.intro ?_ (And.intro ?_ (And.intro ?_ (And.intro ?_ (And.intro ?_ (And.intro ?_ (And.intro ?_ (And.intro ?_ trivial)))))))))))))))))))))))))))))))
    · refine Gr.ask_val trivial rfl (fun _ => rfl) (fun a W H => ?_)
      have e20 : a.eval (.tmp 20) = .int .i64 0 := (H.base 20 rfl).trans b20
      exact run_move rfl e20
    · refine Gr.ask_val trivial rfl (fun _ => rfl) (fun a W H => ?_)
      have e18 : a.eval (.tmp 18) = .int .i64 0 := (H.base 18 rfl).trans b18
      exact run_move rfl e18
    · refine Gr.ask_val trivial rfl (fun _ => rfl) (fun a W H => ?_)
      have e80 : a.eval (.tmp 80) = .int .i64 0 := H.facts 80 rfl
      have e81 : a.eval (.tmp 81) = .int .i64 0 := H.facts 81 rfl
      (simp only [execOp]; try simp only [Option.map]); (try simp only [List.map_toArray, List.map_cons, List.map_nil]); (simp only [e80, e81]; go_simp)
    · refine Gr.ask_val trivial rfl (fun _ => rfl) (fun a W H => ?_)
      have e82 : a.eval (.tmp 82) = .bool (false) := H.facts 82 rfl
      exact run_move rfl e82
    · refine Gr.ask_val ⟨83, rfl, rfl, fun _ _ h => h⟩ rfl (fun _ => rfl) (fun a W H => ?_)
      have e18 : a.eval (.tmp 18) = .int .i64 0 := (H.base 18 rfl).trans b18
      exact run_move rfl e18
    · refine Gr.ask_val ⟨83, rfl, rfl, fun _ _ h => h⟩ rfl (fun _ => rfl) (fun a W H => ?_)
      have e84 : a.eval (.tmp 84) = .int .i64 0 := H.facts 84 rfl
      (simp only [execOp]; try simp only [Option.map]); (try simp only [List.map_toArray, List.map_cons, List.map_nil]); (simp only [e84]; go_simp)
    · refine Gr.ask_val ⟨83, rfl, rfl, fun _ _ h => h⟩ rfl (fun _ => rfl) (fun a W H => ?_)
      have e85 : a.eval (.tmp 85) = .bool (false) := H.facts 85 rfl
      exact run_move rfl e85
    · exact Gr.ask_left ⟨86, rfl, rfl, fun u _ h => by rw [show u = _ from h]; simp⟩ rfl (fun _ => rfl)
    · exact Gr.ask_left ⟨86, rfl, rfl, fun u _ h => by rw [show u = _ from h]; simp⟩ rfl (fun _ => rfl)
    · exact Gr.ask_left ⟨86, rfl, rfl, fun u _ h => by rw [show u = _ from h]; simp⟩ rfl (fun _ => rfl)
    · exact Gr.ask_left ⟨86, rfl, rfl, fun u _ h => by rw [show u = _ from h]; simp⟩ rfl (fun _ => rfl)
    · refine Gr.ask_val ⟨83, rfl, rfl, fun _ _ h => h⟩ rfl (fun _ => rfl) (fun a W H => ?_)
      have e86 : a.eval (.tmp 86) = .bool (false) := H.facts 86 rfl
      (simp only [execOp]); (simp only [e86]; go_simp)
    · refine Gr.ask_val trivial rfl (fun _ => rfl) (fun a W H => ?_)
      have e83 : a.eval (.tmp 83) = .bool (false) := H.facts 83 rfl
      have e91 : a.eval (.tmp 91) = .bool (false) := H.facts 91 rfl
      (simp only [execOp]); (simp only [e83, e91]; go_simp)
    · refine Gr.ask_val trivial rfl (fun _ => rfl) (fun a W H => ?_)
      have e92 : a.eval (.tmp 92) = .bool (false) := H.facts 92 rfl
      exact run_move rfl e92
    · refine Gr.ask_val ⟨93, rfl, rfl, fun _ _ h => h⟩ rfl (fun _ => rfl) (fun a W H => ?_)
      have e18 : a.eval (.tmp 18) = .int .i64 0 := (H.base 18 rfl).trans b18
      exact run_move rfl e18
    · refine Gr.ask_val ⟨93, rfl, rfl, fun _ _ h => h⟩ rfl (fun _ => rfl) (fun a W H => ?_)
      have e94 : a.eval (.tmp 94) = .int .i64 0 := H.facts 94 rfl
      (simp only [execOp]; try simp only [Option.map]); (try simp only [List.map_toArray, List.map_cons, List.map_nil]); (simp only [e94]; go_simp)
    · refine Gr.ask_val ⟨93, rfl, rfl, fun _ _ h => h⟩ rfl (fun _ => rfl) (fun a W H => ?_)
      have e95 : a.eval (.tmp 95) = .bool (true) := H.facts 95 rfl
      exact run_move rfl e95
    · refine Gr.ask_val ⟨96, rfl, rfl, fun _ _ h => h⟩ rfl (fun _ => rfl) (fun a W H => ?_)
      have e19 : a.eval (.tmp 19) = .pointer (some ⟨ga, 0, none⟩) := (H.base 19 rfl).trans b19
      exact Gr.run_load_row rfl e19 (H.row hra) Try.underlying37 hsz37
    · refine Gr.ask_val ⟨96, rfl, rfl, fun _ _ h => h⟩ rfl (fun _ => rfl) (fun a W H => ?_)
      have e17 : a.eval (.tmp 17) = .pointer (some ⟨gk, 0, none⟩) := (H.base 17 rfl).trans b17
      (simp only [execOp]; try simp only [Option.map]); (try simp only [List.map_toArray, List.map_cons, List.map_nil]); (simp only [e17]; go_simp)
    · refine Gr.ask_val ⟨96, rfl, rfl, fun _ _ h => h⟩ rfl (fun _ => rfl) (fun a W H => ?_)
      have e98 : a.eval (.tmp 98) = .pointer (some ⟨gk, 3, none⟩) := H.facts 98 rfl
      have hcell : W.cell? ⟨gk, 3, none⟩ = some (.slice ka K.bs.length kc) := by rw [cell_of_row _ _ _ _ _ _ (H.row hrk)]; rfl
      (simp only [execOp]; try simp only [Option.map]); (try simp only [List.map_toArray, List.map_cons, List.map_nil]); (simp only [e98]; go_simp)
    · refine Gr.ask_val ⟨96, rfl, rfl, fun _ _ h => h⟩ rfl (fun _ => rfl) (fun a W H => ?_)
      have e17 : a.eval (.tmp 17) = .pointer (some ⟨gk, 0, none⟩) := (H.base 17 rfl).trans b17
      (simp only [execOp]; try simp only [Option.map]); (try simp only [List.map_toArray, List.map_cons, List.map_nil]); (simp only [e17]; go_simp)
    · refine Gr.ask_val ⟨96, rfl, rfl, fun _ _ h => h⟩ rfl (fun _ => rfl) (fun a W H => ?_)
      have e100 : a.eval (.tmp 100) = .pointer (some ⟨gk, 1, none⟩) := H.facts 100 rfl
      have hcell : W.cell? ⟨gk, 1, none⟩ = some (.int .i64 K.r) := by rw [cell_of_row _ _ _ _ _ _ (H.row hrk)]; rfl
      (simp only [execOp]; try simp only [Option.map]); (try simp only [List.map_toArray, List.map_cons, List.map_nil]); (simp only [e100]; go_simp)
    · refine Gr.ask_val ⟨96, rfl, rfl, fun _ _ h => h⟩ rfl (fun _ => rfl) (fun a W H => ?_)
      have e17 : a.eval (.tmp 17) = .pointer (some ⟨gk, 0, none⟩) := (H.base 17 rfl).trans b17
      (simp only [execOp]; try simp only [Option.map]); (try simp only [List.map_toArray, List.map_cons, List.map_nil]); (simp only [e17]; go_simp)
    · refine Gr.ask_val ⟨96, rfl, rfl, fun _ _ h => h⟩ rfl (fun _ => rfl) (fun a W H => ?_)
      have e102 : a.eval (.tmp 102) = .pointer (some ⟨gk, 2, none⟩) := H.facts 102 rfl
      have hcell : W.cell? ⟨gk, 2, none⟩ = some (.int .i64 K.s) := by rw [cell_of_row _ _ _ _ _ _ (H.row hrk)]; rfl
      (simp only [execOp]; try simp only [Option.map]); (try simp only [List.map_toArray, List.map_cons, List.map_nil]); (simp only [e102]; go_simp)
    · refine Gr.ask_val ⟨96, rfl, rfl, fun _ _ h => h⟩ rfl (fun _ => rfl) (fun a W H => ?_)
      have e17 : a.eval (.tmp 17) = .pointer (some ⟨gk, 0, none⟩) := (H.base 17 rfl).trans b17
      (simp only [execOp]; try simp only [Option.map]); (try simp only [List.map_toArray, List.map_cons, List.map_nil]); (simp only [e17]; go_simp)
    · refine Gr.ask_val ⟨96, rfl, rfl, fun _ _ h => h⟩ rfl (fun _ => rfl) (fun a W H => ?_)
      have e104 : a.eval (.tmp 104) = .pointer (some ⟨gk, 1, none⟩) := H.facts 104 rfl
      have hcell : W.cell? ⟨gk, 1, none⟩ = some (.int .i64 K.r) := by rw [cell_of_row _ _ _ _ _ _ (H.row hrk)]; rfl
      (simp only [execOp]; try simp only [Option.map]); (try simp only [List.map_toArray, List.map_cons, List.map_nil]); (simp only [e104]; go_simp)
    · refine Gr.ask_val ⟨96, rfl, rfl, fun _ _ h => h⟩ rfl (fun _ => rfl) (fun a W H => ?_)
      have e9 : a.eval (.tmp 9) = .pointer (some ⟨gi, 0, none⟩) := (H.base 9 rfl).trans b9
      exact Gr.run_load_row rfl e9 (H.row hrx) Try.underlying27 size27
    · refine Gr.ask_call hmono ⟨96, rfl, rfl, fun _ _ h => h⟩ Try.func12 rfl rfl rfl rfl (fun a W H => ?_)
      have e99 : a.eval (.tmp 99) = .slice ka K.bs.length kc := H.facts 99 rfl
      have e101 : a.eval (.tmp 101) = .int .i64 K.r := H.facts 101 rfl
      have e103 : a.eval (.tmp 103) = .int .i64 K.s := H.facts 103 rfl
      have e105 : a.eval (.tmp 105) = .int .i64 K.r := H.facts 105 rfl
      have e106 : a.eval (.tmp 106) = .agg XV := H.facts 106 rfl
      simp only [List.map_toArray, List.map_cons, List.map_nil, e99, e101, e103, e105, e106]
      refine (play_anyI (.slice ka K.bs.length kc) K.bs K.r K.s (.agg XV) I n W (hK.below H.below) (hI.below H.below) hok hn hn2 hr hbl hargs hfu).mono ?_
      rintro e w' ⟨x, rfl, hO, hB⟩
      exact ⟨x, rfl, hO.v, hB⟩
    · refine Gr.ask_call hmono ⟨96, rfl, rfl, fun _ _ h => h⟩ Try.func11 rfl rfl rfl rfl (fun a W H => ?_)
      have e97 : a.eval (.tmp 97) = .agg OA.toArray := H.facts 97 rfl
      have e107 : OutV W (a.eval (.tmp 107)) (play K.r K.bs 0 (st0 n K.r I)) := H.facts 107 rfl
      simp only [List.map_toArray, List.map_cons, List.map_nil, e97]
      refine (same_any _ _ _ W (hOA.below H.below) e107).mono ?_
      rintro e w' ⟨rfl, hB⟩
      exact ⟨_, rfl, rfl, hB⟩
    · refine Gr.ask_val ⟨96, rfl, rfl, fun _ _ h => h⟩ rfl (fun _ => rfl) (fun a W H => ?_)
      have e108 : a.eval (.tmp 108) = .bool (true) := H.facts 108 rfl
      (simp only [execOp]; try simp only [Option.map]); (try simp only [List.map_toArray, List.map_cons, List.map_nil]); (simp only [e108]; go_simp)
    · refine Gr.ask_val ⟨93, rfl, rfl, fun _ _ h => h⟩ rfl (fun _ => rfl) (fun a W H => ?_)
      have e96 : a.eval (.tmp 96) = .bool (true) := H.facts 96 rfl
      have e109 : a.eval (.tmp 109) = .bool (false) := H.facts 109 rfl
      (simp only [execOp]); (simp only [e96, e109]; go_simp)
    · refine Gr.ask_val trivial rfl (fun _ => rfl) (fun a W H => ?_)
      have e93 : a.eval (.tmp 93) = .bool (false) := H.facts 93 rfl
      have e110 : a.eval (.tmp 110) = .bool (false) := H.facts 110 rfl
      (simp only [execOp]); (simp only [e93, e110]; go_simp)
  · intro s W hB hs
    exact hend s W (hs 111 rfl) hB
set_option maxHeartbeats 4000000 in
set_option maxRecDepth 100000 in
theorem refuses_walk (v0 v1 v2 : Value) (C : Cod) (sa sb sc : Int) (bs : List Int) (I : Inp) (b k f n : Int) (w : World) (hF : CodV w v0 C) (hS : SpecV w v1 sa sb sc bs) (hI : InpV w v2 I) (hb : 0 ≤ b ∧ b < 256) (hk : 0 ≤ k ∧ k < 256) (hf : 0 ≤ f ∧ f < 256) : Calls Try.prog 4 #[v0, v1, v2, .int .u8 b, .int .u8 k, .int .u8 f, .int .i64 n] w fun e w' => e = .returned (.bool true) ∧ Below w.heap.size w w' := by
  have hF' := hF
  obtain ⟨fu, rfl, hfu⟩ := hF'
  obtain ⟨fa, fc, rfl⟩ := hfu.slice
  have hS' := hS
  obtain ⟨u, rfl, hsa, hsb, hsc, hu⟩ := hS'
  have hI' := hI
  obtain ⟨a, b0, c, rfl, ha, hm, hc⟩ := hI'
  obtain ⟨ua, uc, rfl⟩ := hu.slice
  obtain ⟨aa, ac, rfl⟩ := ha.slice
  obtain ⟨ba, bc, rfl⟩ := hm.slice
  obtain ⟨ca, cc, rfl⟩ := hc.slice
  have hbox := three_rows w #[.int .i64 C.p, .int .i64 C.r, .int .i64 C.s, .slice fa C.bs.length fc] #[.int .u8 sa, .int .u8 sb, .int .u8 sc, .slice ua bs.length uc] #[.slice aa I.args.length ac, .slice ba I.mem.length bc, .slice ca I.ans.length cc, .int .i64 I.fuel] 31 24 27
  have HA := hide (awake_any (((w.alloc (.cells #[.int .i64 C.p, .int .i64 C.r, .int .i64 C.s, .slice fa C.bs.length fc] 31)).alloc (.cells #[.int .u8 sa, .int .u8 sb, .int .u8 sc, .slice ua bs.length uc] 24)).alloc (.cells #[.slice aa I.args.length ac, .slice ba I.mem.length bc, .slice ca I.ans.length cc, .int .i64 I.fuel] 27)))
  have HBOX := hide hbox
  clear hbox ha hm hc hu hsa hsb hsc
  go_enter Try.func4, Try.ntmps4
  go_wp2_with fail
  refine HA.out.mono ?_
  rintro e W1 ⟨rfl, hB1⟩
  obtain ⟨hr1, hr2, hr3, hBw⟩ := HBOX.out W1 hB1
  clear HBOX HA hB1
  have HL := hide (long_any _ C.bs W1 (hfu.below hBw))
  obtain ⟨f0, f1, f2, f3⟩ := row_cells4 hr1
  have HR := hide (And.intro hr1 (And.intro hr2 (And.intro hr3 hBw)))
  clear hr1 hr2 hr3 hBw
  go_wp2_with fail
  refine HL.out.mono ?_
  rintro e W2 ⟨⟨lg, rfl⟩, hB2⟩
  obtain ⟨hr1, hr2, hr3, hBw⟩ := HR.out
  have hr1 := (hB2.block _ (Array.getElem?_eq_some_iff.1 hr1).1).trans hr1
  have hr2 := (hB2.block _ (Array.getElem?_eq_some_iff.1 hr2).1).trans hr2
  have hr3 := (hB2.block _ (Array.getElem?_eq_some_iff.1 hr3).1).trans hr3
  have HBW := hide (bel_of hBw hB2)
  obtain ⟨i0, i1, i2, i3⟩ := row_cells4 hr3
  obtain ⟨s0, s1, s2, s3⟩ := row_cells4 hr2
  have HR2 := hide (And.intro hr1 (And.intro hr2 hr3))
  clear HR HL f0 f1 f2 f3 hr1 hr2 hr3 hBw hB2
  cases lg with
  | true =>
    go_wp2_with fail
    go_ret
    exact ⟨rfl, HBW.out⟩
  | false =>
    by_cases hlong : 1000 < wrap64 (wrap64 ((I.args.length : Int) + (I.mem.length : Int)) + (I.ans.length : Int))
    · go_wp2_with fail
      go_ret
      exact ⟨rfl, HBW.out⟩
    · have hsh : wrap64 (wrap64 ((I.args.length : Int) + (I.mem.length : Int)) + (I.ans.length : Int)) ≤ 1000 := by omega
      have HM := hide (made5_any _ sa sb sc bs b k (.slice none 0 0) [] W2 (hS.below HBW.out) hb hk SlV.nil)
      have HSH := hide hsh
      go_wp2_with fail
      refine HM.out.mono ?_
      rintro e W3 ⟨D, ub, rfl, hO, hch, hins, hcd, hB3⟩
      clear hcd
      obtain ⟨da, dc, rfl⟩ := hO.v.slice
      have hsm := code_small hch
      have hBf := bel1' W3 (.cells #[.int .i64 D.p, .int .i64 D.r, .int .i64 D.s, .slice da D.bs.length dc] 31)
      have hrd := heap_alloc_new W3 (.cells #[.int .i64 D.p, .int .i64 D.r, .int .i64 D.s, .slice da D.bs.length dc] 31)
      have hbx := bel_of hB3 hBf
      have HT := hide (turn_any W2.heap.size _ D.bs b k f n (W3.alloc (.cells #[.int .i64 D.p, .int .i64 D.r, .int .i64 D.s, .slice da D.bs.length dc] 31)) (hO.below hBf) hbx.size hb.1 hb.2 hk.1 hk.2 hf.1 hsm)
      have HO := hide (hO.below hBf)
      have HX3 := hide (And.intro hbx hrd)
      obtain ⟨d0, d1, d2, d3⟩ := row_cells4 hrd
      clear HM s0 s1 s2 s3 i0 i1 i2 i3 hO hch hins hB3 hsm hBf hrd hbx
      go_wp2_with fail
      refine HT.out.mono ?_
      clear HT d0 d1 d2 d3
      generalize W3.alloc (.cells #[.int .i64 D.p, .int .i64 D.r, .int .i64 D.s, .slice da D.bs.length dc] 31) = W4 at *
      generalize W3.heap.size = gd at *
      rintro e U5 ⟨rfl, hSf, hB5, hK5, _⟩
      obtain ⟨bs', hbl, hO5⟩ := HO.out.soft hSf
      have hB25 : Below W2.heap.size W2 U5 := HX3.out.1.trans hB5
      have hrd : U5.heap[gd]? = _ := hK5 _ _ _ _ rfl HX3.out.2
      have hrc := (hB25.block _ (Array.getElem?_eq_some_iff.1 HR2.out.1).1).trans HR2.out.1
      obtain ⟨d0, d1, d2, d3⟩ := row_cells4 hrd
      obtain ⟨c0, c1, c2, c3⟩ := row_cells4 hrc
      have hbt := bel1' U5 (.cells #[.int .i64 C.p, .int .i64 C.r, .int .i64 C.s, .slice fa C.bs.length fc, .int .i64 D.p, .int .i64 D.r, .int .i64 D.s, .slice da D.bs.length dc] 31)
      have hrow := heap_alloc_new U5 (.cells #[.int .i64 C.p, .int .i64 C.r, .int .i64 C.s, .slice fa C.bs.length fc, .int .i64 D.p, .int .i64 D.r, .int .i64 D.s, .slice da D.bs.length dc] 31)
      have huM := hO5.v.below hbt
      have hBW4 := bel_of HBW.out (bel_of hB25 hbt)
      have hri := (bel_of hB25 hbt |>.block _ (Array.getElem?_eq_some_iff.1 HR2.out.2.2).1).trans HR2.out.2.2
      have HK : Hid (∀ j : Nat, j < 2 → ∃ K : Cod, ∃ (ka : Option Addr) (kc : Nat), (U5.alloc (.cells #[.int .i64 C.p, .int .i64 C.r, .int .i64 C.s, .slice fa C.bs.length fc, .int .i64 D.p, .int .i64 D.r, .int .i64 D.s, .slice da D.bs.length dc] 31)).cell? ⟨U5.heap.size, j * 4, none⟩ = some (.int .i64 K.p) ∧ (U5.alloc (.cells #[.int .i64 C.p, .int .i64 C.r, .int .i64 C.s, .slice fa C.bs.length fc, .int .i64 D.p, .int .i64 D.r, .int .i64 D.s, .slice da D.bs.length dc] 31)).cell? ⟨U5.heap.size, j * 4 + 1, none⟩ = some (.int .i64 K.r) ∧ (U5.alloc (.cells #[.int .i64 C.p, .int .i64 C.r, .int .i64 C.s, .slice fa C.bs.length fc, .int .i64 D.p, .int .i64 D.r, .int .i64 D.s, .slice da D.bs.length dc] 31)).cell? ⟨U5.heap.size, j * 4 + 2, none⟩ = some (.int .i64 K.s) ∧ (U5.alloc (.cells #[.int .i64 C.p, .int .i64 C.r, .int .i64 C.s, .slice fa C.bs.length fc, .int .i64 D.p, .int .i64 D.r, .int .i64 D.s, .slice da D.bs.length dc] 31)).cell? ⟨U5.heap.size, j * 4 + 3, none⟩ = some (.slice ka K.bs.length kc) ∧ BlksV (U5.alloc (.cells #[.int .i64 C.p, .int .i64 C.r, .int .i64 C.s, .slice fa C.bs.length fc, .int .i64 D.p, .int .i64 D.r, .int .i64 D.s, .slice da D.bs.length dc] 31)) (.slice ka K.bs.length kc) K.bs) := by
        intro j hj
        have hj2 : j = 0 ∨ j = 1 := by omega
        rcases hj2 with rfl | rfl
        · refine ⟨C, fa, fc, ?_, ?_, ?_, ?_, hfu.below hBW4⟩
          all_goals (rw [cell_of_row _ _ _ _ _ _ hrow]; rfl)
        · refine ⟨⟨D.p, D.r, D.s, bs'⟩, da, dc, ?_, ?_, ?_, ?_, ?_⟩
          · rw [cell_of_row _ _ _ _ _ _ hrow]; rfl
          · rw [cell_of_row _ _ _ _ _ _ hrow]; rfl
          · rw [cell_of_row _ _ _ _ _ _ hrow]; rfl
          · rw [cell_of_row _ _ _ _ _ _ hrow]; simp only [hbl]; rfl
          · simp only [hbl]; exact huM
      have HW4 := hide (And.intro hBW4 hri)
      have HI := hide (hI.below hBW4)
      clear hrow huM hBW4 hri hbt hB5 hK5 hSf hB25 hrd hrc hO5 hbl HR2 HBW HX3 HO hF hfu hS hI HSH hsh
      go_wp2_with fail
      clear d0 d1 d2 d3 c0 c1 c2 c3
      generalize U5.alloc (.cells #[.int .i64 C.p, .int .i64 C.r, .int .i64 C.s, .slice fa C.bs.length fc, .int .i64 D.p, .int .i64 D.r, .int .i64 D.s, .slice da D.bs.length dc] 31) = U6 at *
      generalize U5.heap.size = gb at *
      go_loopw [55] (fun iv wr => ∃ j : Nat, j ≤ 2 ∧ iv = .int .i64 j ∧ Below U6.heap.size U6 wr) (fun iv _ => 2 - (intOf iv).toNat)
      case atStart => exact ⟨0, by omega, rfl, Below.refl _ _⟩
      case round =>
        obtain ⟨j, hj, rfl, hBr⟩ := hrel
        by_cases hlt : j < 2
        · obtain ⟨K, ka, kc, k0, k1, k2, k3, hK⟩ := HK.out j hlt
          have k0 := cell_below hBr k0
          have k1 := cell_below hBr k1
          have k2 := cell_below hBr k2
          have k3 := cell_below hBr k3
          have hK := hK.below hBr
          have hlt' : (j : Int) < 2 := by omega
          have hbx := bel1' wr (.cells #[.int .i64 K.p, .int .i64 K.r, .int .i64 K.s, .slice ka K.bs.length kc] 31)
          have hrk : (wr.alloc (.cells #[.int .i64 K.p, .int .i64 K.r, .int .i64 K.s, .slice ka K.bs.length kc] 31)).heap[wr.heap.size]? = some (Obj.cells #[.int .i64 K.p, .int .i64 K.r, .int .i64 K.s, .slice ka K.bs.length kc] 31 (0, 0)) := heap_alloc_new wr _
          have hFK : CodV (wr.alloc (.cells #[.int .i64 K.p, .int .i64 K.r, .int .i64 K.s, .slice ka K.bs.length kc] 31)) (.agg #[.int .i64 K.p, .int .i64 K.r, .int .i64 K.s, .slice ka K.bs.length kc]) K := ⟨_, rfl, hK.below hbx⟩
          have HC := hide (rCode_any K _ _ hFK)
          have hri := (hbx.block _ (Nat.lt_of_lt_of_le (Array.getElem?_eq_some_iff.1 HW4.out.2).1 hBr.size)).trans ((hBr.block _ (Array.getElem?_eq_some_iff.1 HW4.out.2).1).trans HW4.out.2)
          have HX := hide (And.intro hrk (And.intro hri (And.intro (bel_of hBr hbx) hFK)))
          obtain ⟨r0, r1, r2, r3⟩ := row_cells4 hrk
          clear hK hbx hrk hFK hri hBr
          go_wp2_with fail
          refine HC.out.mono ?_
          clear HC r0 r1 r2 r3 k0 k1 k2 k3
          generalize wr.alloc (.cells #[.int .i64 K.p, .int .i64 K.r, .int .i64 K.s, .slice ka K.bs.length kc] 31) = A at *
          generalize wr.heap.size = gk at *
          rintro e W5 ⟨rfl, hB5⟩
          obtain ⟨xrk, xri, xbel, xfk⟩ := HX.out
          have xrk := (hB5.block _ (Array.getElem?_eq_some_iff.1 xrk).1).trans xrk
          have xri := (hB5.block _ (Array.getElem?_eq_some_iff.1 xri).1).trans xri
          have xbel := bel_of xbel hB5
          have xfk : CodV W5 (.agg #[.int .i64 K.p, .int .i64 K.r, .int .i64 K.s, .slice ka K.bs.length kc]) K := xfk.below hB5
          obtain ⟨r0, r1, r2, r3⟩ := row_cells4 xrk
          obtain ⟨x0, x1, x2, x3⟩ := row_cells4 xri
          have HX5 := hide (And.intro xrk (And.intro xri (And.intro xbel xfk)))
          clear HX xrk xri xbel xfk hB5
          obtain ⟨Z, hz, hzs⟩ := z37
          have HZ := hide (And.intro hz hzs)
          clear hz hzs
          unfold faultV
          obtain ⟨c0, hc0⟩ : ∃ c0, (mchk K).1 = c0 := ⟨_, rfl⟩
          obtain ⟨c1, hc1⟩ : ∃ c1, (mchk K).2.1 = c1 := ⟨_, rfl⟩
          obtain ⟨c2, hc2⟩ : ∃ c2, (mchk K).2.2 = c2 := ⟨_, rfl⟩
          rw [hc0, hc1, hc2]
          have hfld := run_field50 c0 c1 c2
          by_cases hck : c0 ≠ 0
          · have hckb : (c0 == 0) = false := by simpa using hck
            have HCC : Hid (((30 : Int) == 0) = false) := by show _ = _; decide
            have HRUN := hide (exec_any K I _ _ W5 HX5.out.2.2.2 (HI.out.below HX5.out.2.2.1))
            have HRF : Hid (execF K I = 30) := by show _ = _; unfold execF; rw [if_pos (by rw [hc0]; exact hck)]
            have HRO : Hid (execO K I = out00) := by show _ = _; unfold execO; rw [HRF.out]; rfl
            clear hck hc0 hc1 hc2
            go_wp2_with fail
            refine HRUN.out.mono ?_
            clear HRUN r0 r1 r2 r3 x0 x1 x2 x3
            rintro e W7 ⟨x, rfl, hOut, hB7⟩
            rw [HRF.out]
            rw [HRO.out] at hOut
            obtain ⟨OA, cva, rfl, hOA, hla, hoa, hca, hma⟩ := out_var hOut
            have HOV := hide hOut.v
            have HOA := hide (And.intro hla hoa)
            clear hOA hla hoa hca hma hOut
            go_wp2_with (refine wpList_var 37 19 rfl rfl rfl rfl (.tmp 78) rfl rfl Z OA.toArray HZ.out.1 (by simp) rfl (by simp only [List.size_toArray, HOA.out.1]; exact size37) (by simp only [List.size_toArray, HOA.out.1]; exact HZ.out.2) HOA.out.2 ?_; intro ga W8 hga)
            have hB8 : Below W7.heap.size W7 W8 := by have := hga.out.2.2; rwa [hga.out.1] at this
            have hB78 := bel_of hB7 hB8
            refine rza_ok (ga := ga) (cc := 30) (OA := OA) rfl rfl rfl rfl hga.out.2.1 (by simp only [List.size_toArray, HOA.out.1]; exact size37) (HOV.out.below hB8) HCC.out ?_
            intro s15 W9 hs97 hB9
            simp [overlay, dstsOf, ops_rza_ok, hs97]
            have HB9 := hide (bel_of HX5.out.2.2.1 (bel_of hB78 hB9))
            clear hB9 hB78 hB8 hB7 hga hs97
            go_wp2_with fail
            go_roundw
            case rel => exact ⟨j + 1, by omega, by go_num, HB9.out⟩
            case measure => simp [intOf]; omega
          · have hck : c0 = 0 := by simpa using hck
            subst hck
            have HP := hide (refInp_any K.p _ I W5 (HI.out.below HX5.out.2.2.1))
            have HCK : Hid ((mchk K).1 = 0) := hc0
            clear hc0 hc1 hc2
            go_wp2_with fail
            refine HP.out.mono ?_
            rintro e W6 ⟨rfl, hB6⟩
            obtain ⟨xrk, xri, xbel, xfk⟩ := HX5.out
            have xrk := (hB6.block _ (Array.getElem?_eq_some_iff.1 xrk).1).trans xrk
            have xri := (hB6.block _ (Array.getElem?_eq_some_iff.1 xri).1).trans xri
            have xbel := bel_of xbel hB6
            have xfk : CodV W6 (.agg #[.int .i64 K.p, .int .i64 K.r, .int .i64 K.s, .slice ka K.bs.length kc]) K := xfk.below hB6
            clear r0 r1 r2 r3 x0 x1 x2 x3
            obtain ⟨r0, r1, r2, r3⟩ := row_cells4 xrk
            obtain ⟨x0, x1, x2, x3⟩ := row_cells4 xri
            have HX6 := hide (And.intro xrk (And.intro xri (And.intro xbel xfk)))
            clear HX5 HP xrk xri xbel xfk hB6
            obtain ⟨ci, hci⟩ : ∃ ci, inpF K.p I = ci := ⟨_, rfl⟩
            rw [hci]
            have hc0 := HCK.out
            by_cases hcz : ci = 0
            · subst hcz
              by_cases hfuel : 10000 < I.fuel
              · have HB6 := hide HX6.out.2.2.1
                clear hci hc0
                go_wp2_with fail
                go_roundw
                case rel => exact ⟨j + 1, by omega, by go_num, HB6.out⟩
                case measure => simp [intOf]; omega
              · have hfuel2 : I.fuel ≤ 10000 := by omega
                have HRUN := hide (exec_any K I _ _ W6 HX6.out.2.2.2 (HI.out.below HX6.out.2.2.1))
                have HRF : Hid (execF K I = 0) := by show _ = _; unfold execF; rw [if_neg (by rw [hc0]; simp)]; exact hci
                have HRO : Hid (execO K I = play K.r K.bs 0 (st0 (K.r + K.s).toNat K.r I)) := execO_play HRF.out
                clear hci hc0 hfuel
                go_wp2_with fail
                refine HRUN.out.mono ?_
                clear HRUN r0 r1 r2 r3 x0 x1 x2 x3
                rintro e W7 ⟨x, rfl, hOut, hB7⟩
                rw [HRF.out]
                rw [HRO.out] at hOut
                obtain ⟨OA, cva, rfl, hOA, hla, hoa, hca, hma⟩ := out_var hOut
                have HOV := hide hOut.v
                have HOA := hide (And.intro hla hoa)
                clear hOA hla hoa hca hma hOut
                go_wp2_with (refine wpList_var 37 19 rfl rfl rfl rfl (.tmp 78) rfl rfl Z OA.toArray HZ.out.1 (by simp) rfl (by simp only [List.size_toArray, HOA.out.1]; exact size37) (by simp only [List.size_toArray, HOA.out.1]; exact HZ.out.2) HOA.out.2 ?_; intro ga W8 hga)
                have hB8 : Below W7.heap.size W7 W8 := by have := hga.out.2.2; rwa [hga.out.1] at this
                have hB78 := bel_of hB7 hB8
                obtain ⟨hck1, hin1, hin2⟩ := execF_zero HRF.out
                have hkn := (mchk_all hck1).1
                simp only [msz, decide_eq_true_eq] at hkn
                obtain ⟨vn, hvn⟩ : ∃ vn : Nat, K.r + K.s = (vn : Int) := ⟨(K.r + K.s).toNat, by omega⟩
                have hrm := rm_le (bs := K.bs) (s := K.s) (by omega)
                have hmz : mchk K = (0, 0, 0) := mchk_zero (mchk_all hck1).1 (mchk_all hck1).2
                have hok := okay_cod hmz (n := vn) (by omega)
                have hov : OutV W8 (.agg OA.toArray) (play K.r K.bs 0 (st0 vn K.r I)) := by
                  have := HOV.out.below hB8
                  rw [hvn, Int.toNat_natCast] at this
                  exact this
                refine rzb_ok (ga := ga) (gk := gk) (gi := w.heap.size + 2) (n := vn) (K := K) (I := I) (OA := OA) rfl rfl rfl rfl rfl rfl hga.out.2.1 ((hB78.block _ (Array.getElem?_eq_some_iff.1 HX6.out.1).1).trans HX6.out.1) ((hB78.block _ (Array.getElem?_eq_some_iff.1 HX6.out.2.1).1).trans HX6.out.2.1) (by simp only [List.size_toArray, HOA.out.1]; exact size37) (by kernel_rfl) hov (by obtain ⟨ub, e1, h1⟩ := HX6.out.2.2.2; simp only [Value.agg.injEq, Array.mk.injEq, List.cons.injEq, and_true, true_and] at e1; rw [e1]; exact h1.below hB78) ((HI.out.below HX6.out.2.2.1).below hB78) hok hvn (by omega) ⟨by omega, by omega⟩ ⟨by omega, by omega⟩ (by omega) ⟨by omega, by omega⟩ ?_
                clear hkn hin1 hin2 hvn hok hov hrm hck1 hmz
                intro s15 W9 hs97 hB9
                simp [overlay, dstsOf, ops_rzb_ok, hs97]
                have HB9 := hide (bel_of HX6.out.2.2.1 (bel_of hB78 hB9))
                clear hB9 hB78 hB8 hB7 hga hs97
                go_wp2_with fail
                go_roundw
                case rel => exact ⟨j + 1, by omega, by go_num, HB9.out⟩
                case measure => simp [intOf]; omega
            · have hczb : (ci == 0) = false := by simpa using hcz
              have HCC := hide hczb
              have HRUN := hide (exec_any K I _ _ W6 HX6.out.2.2.2 (HI.out.below HX6.out.2.2.1))
              have HRF : Hid (execF K I = ci) := by show _ = _; unfold execF; rw [if_neg (by rw [hc0]; simp)]; exact hci
              have HRO : Hid (execO K I = out00) := by show _ = _; unfold execO; rw [HRF.out, if_neg hcz]
              clear hci hc0 hcz
              go_wp2_with fail
              refine HRUN.out.mono ?_
              clear HRUN r0 r1 r2 r3 x0 x1 x2 x3
              rintro e W7 ⟨x, rfl, hOut, hB7⟩
              rw [HRF.out]
              rw [HRO.out] at hOut
              obtain ⟨OA, cva, rfl, hOA, hla, hoa, hca, hma⟩ := out_var hOut
              have HOV := hide hOut.v
              have HOA := hide (And.intro hla hoa)
              clear hOA hla hoa hca hma hOut
              go_wp2_with (refine wpList_var 37 19 rfl rfl rfl rfl (.tmp 78) rfl rfl Z OA.toArray HZ.out.1 (by simp) rfl (by simp only [List.size_toArray, HOA.out.1]; exact size37) (by simp only [List.size_toArray, HOA.out.1]; exact HZ.out.2) HOA.out.2 ?_; intro ga W8 hga)
              have hB8 : Below W7.heap.size W7 W8 := by have := hga.out.2.2; rwa [hga.out.1] at this
              have hB78 := bel_of hB7 hB8
              refine rza_ok (ga := ga) (cc := ci) (OA := OA) rfl rfl rfl rfl hga.out.2.1 (by simp only [List.size_toArray, HOA.out.1]; exact size37) (HOV.out.below hB8) HCC.out ?_
              intro s15 W9 hs97 hB9
              simp [overlay, dstsOf, ops_rza_ok, hs97]
              have HB9 := hide (bel_of HX6.out.2.2.1 (bel_of hB78 hB9))
              clear hB9 hB78 hB8 hB7 hga hs97
              go_wp2_with fail
              go_roundw
              case rel => exact ⟨j + 1, by omega, by go_num, HB9.out⟩
              case measure => simp [intOf]; omega
        · obtain rfl : j = 2 := by omega
          have HBF := hide (bel_of HW4.out.1 hBr)
          clear hBr
          go_wp2_with fail
          go_ret
          exact ⟨rfl, HBF.out⟩
end Go.Proofs.Ytepmbkiojpffpaa
