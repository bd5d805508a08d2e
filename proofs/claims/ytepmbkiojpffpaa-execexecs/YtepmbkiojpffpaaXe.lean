/- ExecExecs: right code, with right inputs: exec.Exec answers as the document's Play. -/
import Derived.Test.YtepmbkiojpffpaaPy
import Derived.Test.YtepmbkiojpffpaaGr
import Derived.Test.YtepmbkiojpffpaaSo
import Derived.Test.YtepmbkiojpffpaaAw
import Derived.Test.YtepmbkiojpffpaaIn
import Derived.Test.YtepmbkiojpffpaaMd5
namespace Go.Proofs.Ytepmbkiojpffpaa
open Go Go.RowKit Ir

theorem play_anyI (u : Value) (bs : List Blk) (r slots : Int) (v : Value) (I : Inp) (n : Nat) (w : World) (hu : BlksV w u bs) (hI : InpV w v I) (hb : Okay r n bs) (hn : r + slots = (n : Int)) (hn2 : n ≤ 1000000) (hr : 0 ≤ r ∧ r ≤ 1000000) (hbl : 1 ≤ bs.length ∧ bs.length ≤ 1000) (hf : r + I.args.length ≤ n) (hfu : 0 ≤ I.fuel ∧ I.fuel ≤ 1048576) :
    Calls Try.prog 12 #[u, .int .i64 r, .int .i64 slots, .int .i64 r, v] w fun e w' => ∃ x, e = .returned x ∧ OutO w.heap.size w' x (play r bs 0 (st0 n r I)) ∧ Below w.heap.size w w' := by
  obtain ⟨f, rfl⟩ := Int.eq_ofNat_of_zero_le hr.1
  exact play_any u bs _ slots f v I n w hu hI hb hn hn2 hr hbl (by omega) hfu
set_option maxRecDepth 100000 in
open Go.ChangeShapes Go.WideShapes Go.ChangeAt Go.Deep in
theorem byts_in {H : Type} {enc : TypeId × Value → H} {W : World} {base : Nat} {v : Value} {d : DataW H} {p : List MemPlace} (o : Value.okWide Try.prog W .any base 22 v) (k : DataW.Trod enc Try.prog W 0 (fun _ => true) true 22 v d p) : ∃ xs, Byt W v xs := by
  obtain ⟨fuel, hf⟩ := k
  obtain ⟨ao, n, c, rfl⟩ := okWide_slice Try.underlying22 o
  exact byt_of (by simpa [Value.cells] using hf)
def ops_xe6_ok : Array Oper := #[⟨some 32, .move (.tmp 14), 38, "law.go:29", #[], none⟩, ⟨some 33, .binOp .eql 38 (.tmp 32) (.const (.int .i64 0)) 38, 4, "law.go:29", #[⟨0, .data⟩], none⟩, ⟨some 34, .move (.tmp 33), 4, "law.go:29", #[⟨1, .data⟩], none⟩, ⟨some 35, .load 37 (.tmp 13), 37, "law.go:29", #[⟨2, .guard⟩], some (2, true)⟩, ⟨some 36, .fieldAddr 31 (.tmp 11) 3, 0, "law.go:29", #[⟨2, .guard⟩], some (2, true)⟩, ⟨some 37, .load 29 (.tmp 36), 29, "law.go:29", #[⟨4, .data⟩, ⟨2, .guard⟩], some (2, true)⟩, ⟨some 38, .fieldAddr 31 (.tmp 11) 1, 0, "law.go:29", #[⟨2, .guard⟩], some (2, true)⟩, ⟨some 39, .load 3 (.tmp 38), 3, "law.go:29", #[⟨6, .data⟩, ⟨2, .guard⟩], some (2, true)⟩, ⟨some 40, .fieldAddr 31 (.tmp 11) 2, 0, "law.go:29", #[⟨2, .guard⟩], some (2, true)⟩, ⟨some 41, .load 3 (.tmp 40), 3, "law.go:29", #[⟨8, .data⟩, ⟨2, .guard⟩], some (2, true)⟩, ⟨some 42, .fieldAddr 31 (.tmp 11) 1, 0, "law.go:29", #[⟨2, .guard⟩], some (2, true)⟩, ⟨some 43, .load 3 (.tmp 42), 3, "law.go:29", #[⟨10, .data⟩, ⟨2, .guard⟩], some (2, true)⟩, ⟨some 44, .load 27 (.tmp 12), 27, "law.go:29", #[⟨2, .guard⟩], some (2, true)⟩, ⟨some 45, .call { callee := Callee.value (Operand.func 12), args := #[.tmp 37, .tmp 39, .tmp 41, .tmp 43, .tmp 44], argTypes := #[29, 3, 3, 3, 27] }, 37, "law.go:29", #[⟨5, .data⟩, ⟨7, .data⟩, ⟨9, .data⟩, ⟨11, .data⟩, ⟨12, .data⟩, ⟨2, .chain⟩, ⟨2, .guard⟩], some (2, true)⟩, ⟨some 46, .call { callee := Callee.value (Operand.func 11), args := #[.tmp 35, .tmp 45], argTypes := #[37, 37] }, 4, "law.go:29", #[⟨3, .data⟩, ⟨13, .data⟩, ⟨13, .chain⟩, ⟨2, .guard⟩], some (2, true)⟩, ⟨some 47, .pick (.tmp 34) (.tmp 46) (.const (.bool false)), 4, "law.go:29", #[⟨2, .data⟩, ⟨14, .data⟩], none⟩, ⟨some 10, .assign (.tmp 47), 4, "law.go:29", #[⟨15, .data⟩, ⟨14, .chain⟩, ⟨0, .phase⟩, ⟨1, .phase⟩, ⟨2, .phase⟩, ⟨3, .phase⟩, ⟨4, .phase⟩, ⟨5, .phase⟩, ⟨6, .phase⟩, ⟨7, .phase⟩, ⟨8, .phase⟩, ⟨9, .phase⟩, ⟨10, .phase⟩, ⟨11, .phase⟩, ⟨12, .phase⟩, ⟨13, .phase⟩, ⟨14, .phase⟩, ⟨15, .phase⟩], none⟩]
/-- What is known of each temporary. -/
def G_xe6_ok (gk kc n : Nat) (ka : Option Addr) (C : Cod) (I : Inp) (OA : List Value) (XV : Array Value) : Tmp → Value → World → Prop
  | 32, xx, _ => xx = .int .i64 0
  | 33, xx, _ => xx = .bool (true)
  | 34, xx, _ => xx = .bool (true)
  | 35, xx, _ => xx = .agg OA.toArray
  | 36, xx, _ => xx = .pointer (some ⟨gk, 3, none⟩)
  | 37, xx, _ => xx = .slice ka C.bs.length kc
  | 38, xx, _ => xx = .pointer (some ⟨gk, 1, none⟩)
  | 39, xx, _ => xx = .int .i64 C.r
  | 40, xx, _ => xx = .pointer (some ⟨gk, 2, none⟩)
  | 41, xx, _ => xx = .int .i64 C.s
  | 42, xx, _ => xx = .pointer (some ⟨gk, 1, none⟩)
  | 43, xx, _ => xx = .int .i64 C.r
  | 44, xx, _ => xx = .agg XV
  | 45, xx, ww => OutV ww xx (play C.r C.bs 0 (st0 n C.r I))
  | 46, xx, _ => xx = .bool (true)
  | 47, xx, _ => xx = .bool (true)
  | 10, xx, _ => xx = .bool (true)
  | _, _, _ => True
theorem Gm_xe6_ok {gk kc n : Nat} {ka : Option Addr} {C : Cod} {I : Inp} {OA : List Value} {XV : Array Value} : ∀ d u W W', Below W.heap.size W W' → G_xe6_ok gk kc n ka C I OA XV d u W → G_xe6_ok gk kc n ka C I OA XV d u W' := by
  intro d u W W' hB h
  unfold G_xe6_ok at h ⊢
  split at h
  all_goals first | exact h | exact OutV.below h hB
set_option maxHeartbeats 1000000 in
set_option maxRecDepth 100000 in
theorem xe6_ok {Q : Exit → Act → World → Prop} {a0 : Act} {wa : World} {ga gk gx kc n : Nat} {ka : Option Addr} {C : Cod} {I : Inp} {OA : List Value} {XV : Array Value} (hz : a0.tmps.size = 48) (b14 : a0.eval (.tmp 14) = .int .i64 0) (b13 : a0.eval (.tmp 13) = .pointer (some ⟨ga, 0, none⟩)) (b11 : a0.eval (.tmp 11) = .pointer (some ⟨gk, 0, none⟩)) (b12 : a0.eval (.tmp 12) = .pointer (some ⟨gx, 0, none⟩))
    (hra : wa.heap[ga]? = some (Obj.cells OA.toArray 37 (0, 0))) (hrk : wa.heap[gk]? = some (Obj.cells #[.int .i64 C.p, .int .i64 C.r, .int .i64 C.s, .slice ka C.bs.length kc] 31 (0, 0))) (hrx : wa.heap[gx]? = some (Obj.cells XV 27 (0, 0))) (hsz37 : (Try.prog.info? 37).map (·.size) = some OA.toArray.size) (size27 : (Try.prog.info? 27).map (·.size) = some XV.size) (hOA : OutV wa (.agg OA.toArray) (play C.r C.bs 0 (st0 n C.r I))) (hK : BlksV wa (.slice ka C.bs.length kc) C.bs) (hI : InpV wa (.agg XV) I)
    (hok : Okay C.r n C.bs) (hn : C.r + C.s = (n : Int)) (hn2 : n ≤ 1000000) (hr : 0 ≤ C.r ∧ C.r ≤ 1000000) (hbl : 1 ≤ C.bs.length ∧ C.bs.length ≤ 1000) (hargs : C.r + I.args.length ≤ n) (hfu : 0 ≤ I.fuel ∧ I.fuel ≤ 1048576)
    (hend : ∀ (s : Tmp → Value) (W : World), s 10 = .bool (true) → Below wa.heap.size wa W → Q .normal (overlay a0 (dstsOf ops_xe6_ok) s) W) : (Code.region 6 ops_xe6_ok true).wp Try.prog Q a0 wa := by
  have hmono := @Gm_xe6_ok gk kc n ka C I OA XV
  refine Gr.wp_region_grow (by kernel_rfl) (G_xe6_ok gk kc n ka C I OA XV) (by rw [hz]; kernel_rfl) ?_ ?_
  · refine And.intro ?_ (And.intro ?_ (And.intro ?_ (And.intro ?_ (And.intro ?_ (And.intro ?_ (And.intro ?_ (And.intro ?_ (And.intro ?_ (And.intro ?_ (And.intro ?_ (And.intro ?_ (And.intro ?_ (And.intro ?_ (And.intro ?_ (And.intro ?_ (And.intro ?_ trivial))))))))))))))))
    · refine Gr.ask_val trivial rfl (fun _ => rfl) (fun a W H => ?_)
      have e14 : a.eval (.tmp 14) = .int .i64 0 := (H.base 14 rfl).trans b14
      exact run_move rfl e14
    · refine Gr.ask_val trivial rfl (fun _ => rfl) (fun a W H => ?_)
      have e32 : a.eval (.tmp 32) = .int .i64 0 := H.facts 32 rfl
      (simp only [execOp]; try simp only [Option.map]); (try simp only [List.map_toArray, List.map_cons, List.map_nil]); (simp only [e32]; go_simp)
    · refine Gr.ask_val trivial rfl (fun _ => rfl) (fun a W H => ?_)
      have e33 : a.eval (.tmp 33) = .bool (true) := H.facts 33 rfl
      exact run_move rfl e33
    · refine Gr.ask_val ⟨34, rfl, rfl, fun _ _ h => h⟩ rfl (fun _ => rfl) (fun a W H => ?_)
      have e13 : a.eval (.tmp 13) = .pointer (some ⟨ga, 0, none⟩) := (H.base 13 rfl).trans b13
      exact Gr.run_load_row rfl e13 (H.row hra) Try.underlying37 hsz37
    · refine Gr.ask_val ⟨34, rfl, rfl, fun _ _ h => h⟩ rfl (fun _ => rfl) (fun a W H => ?_)
      have e11 : a.eval (.tmp 11) = .pointer (some ⟨gk, 0, none⟩) := (H.base 11 rfl).trans b11
      (simp only [execOp]; try simp only [Option.map]); (try simp only [List.map_toArray, List.map_cons, List.map_nil]); (simp only [e11]; go_simp)
    · refine Gr.ask_val ⟨34, rfl, rfl, fun _ _ h => h⟩ rfl (fun _ => rfl) (fun a W H => ?_)
      have e36 : a.eval (.tmp 36) = .pointer (some ⟨gk, 3, none⟩) := H.facts 36 rfl
      have hcell : W.cell? ⟨gk, 3, none⟩ = some (.slice ka C.bs.length kc) := by rw [cell_of_row _ _ _ _ _ _ (H.row hrk)]; rfl
      (simp only [execOp]; try simp only [Option.map]); (try simp only [List.map_toArray, List.map_cons, List.map_nil]); (simp only [e36]; go_simp)
    · refine Gr.ask_val ⟨34, rfl, rfl, fun _ _ h => h⟩ rfl (fun _ => rfl) (fun a W H => ?_)
      have e11 : a.eval (.tmp 11) = .pointer (some ⟨gk, 0, none⟩) := (H.base 11 rfl).trans b11
      (simp only [execOp]; try simp only [Option.map]); (try simp only [List.map_toArray, List.map_cons, List.map_nil]); (simp only [e11]; go_simp)
    · refine Gr.ask_val ⟨34, rfl, rfl, fun _ _ h => h⟩ rfl (fun _ => rfl) (fun a W H => ?_)
      have e38 : a.eval (.tmp 38) = .pointer (some ⟨gk, 1, none⟩) := H.facts 38 rfl
      have hcell : W.cell? ⟨gk, 1, none⟩ = some (.int .i64 C.r) := by rw [cell_of_row _ _ _ _ _ _ (H.row hrk)]; rfl
      (simp only [execOp]; try simp only [Option.map]); (try simp only [List.map_toArray, List.map_cons, List.map_nil]); (simp only [e38]; go_simp)
    · refine Gr.ask_val ⟨34, rfl, rfl, fun _ _ h => h⟩ rfl (fun _ => rfl) (fun a W H => ?_)
      have e11 : a.eval (.tmp 11) = .pointer (some ⟨gk, 0, none⟩) := (H.base 11 rfl).trans b11
      (simp only [execOp]; try simp only [Option.map]); (try simp only [List.map_toArray, List.map_cons, List.map_nil]); (simp only [e11]; go_simp)
    · refine Gr.ask_val ⟨34, rfl, rfl, fun _ _ h => h⟩ rfl (fun _ => rfl) (fun a W H => ?_)
      have e40 : a.eval (.tmp 40) = .pointer (some ⟨gk, 2, none⟩) := H.facts 40 rfl
      have hcell : W.cell? ⟨gk, 2, none⟩ = some (.int .i64 C.s) := by rw [cell_of_row _ _ _ _ _ _ (H.row hrk)]; rfl
      (simp only [execOp]; try simp only [Option.map]); (try simp only [List.map_toArray, List.map_cons, List.map_nil]); (simp only [e40]; go_simp)
    · refine Gr.ask_val ⟨34, rfl, rfl, fun _ _ h => h⟩ rfl (fun _ => rfl) (fun a W H => ?_)
      have e11 : a.eval (.tmp 11) = .pointer (some ⟨gk, 0, none⟩) := (H.base 11 rfl).trans b11
      (simp only [execOp]; try simp only [Option.map]); (try simp only [List.map_toArray, List.map_cons, List.map_nil]); (simp only [e11]; go_simp)
    · refine Gr.ask_val ⟨34, rfl, rfl, fun _ _ h => h⟩ rfl (fun _ => rfl) (fun a W H => ?_)
      have e42 : a.eval (.tmp 42) = .pointer (some ⟨gk, 1, none⟩) := H.facts 42 rfl
      have hcell : W.cell? ⟨gk, 1, none⟩ = some (.int .i64 C.r) := by rw [cell_of_row _ _ _ _ _ _ (H.row hrk)]; rfl
      (simp only [execOp]; try simp only [Option.map]); (try simp only [List.map_toArray, List.map_cons, List.map_nil]); (simp only [e42]; go_simp)
    · refine Gr.ask_val ⟨34, rfl, rfl, fun _ _ h => h⟩ rfl (fun _ => rfl) (fun a W H => ?_)
      have e12 : a.eval (.tmp 12) = .pointer (some ⟨gx, 0, none⟩) := (H.base 12 rfl).trans b12
      exact Gr.run_load_row rfl e12 (H.row hrx) Try.underlying27 size27
    · refine Gr.ask_call hmono ⟨34, rfl, rfl, fun _ _ h => h⟩ Try.func12 rfl rfl rfl rfl (fun a W H => ?_)
      have e37 : a.eval (.tmp 37) = .slice ka C.bs.length kc := H.facts 37 rfl
      have e39 : a.eval (.tmp 39) = .int .i64 C.r := H.facts 39 rfl
      have e41 : a.eval (.tmp 41) = .int .i64 C.s := H.facts 41 rfl
      have e43 : a.eval (.tmp 43) = .int .i64 C.r := H.facts 43 rfl
      have e44 : a.eval (.tmp 44) = .agg XV := H.facts 44 rfl
      simp only [List.map_toArray, List.map_cons, List.map_nil, e37, e39, e41, e43, e44]
      refine (play_anyI (.slice ka C.bs.length kc) C.bs C.r C.s (.agg XV) I n W (hK.below H.below) (hI.below H.below) hok hn hn2 hr hbl hargs hfu).mono ?_
      rintro e w' ⟨x, rfl, hO, hB⟩
      exact ⟨x, rfl, hO.v, hB⟩
    · refine Gr.ask_call hmono ⟨34, rfl, rfl, fun _ _ h => h⟩ Try.func11 rfl rfl rfl rfl (fun a W H => ?_)
      have e35 : a.eval (.tmp 35) = .agg OA.toArray := H.facts 35 rfl
      have e45 : OutV W (a.eval (.tmp 45)) (play C.r C.bs 0 (st0 n C.r I)) := H.facts 45 rfl
      simp only [List.map_toArray, List.map_cons, List.map_nil, e35]
      refine (same_any _ _ _ W (hOA.below H.below) e45).mono ?_
      rintro e w' ⟨rfl, hB⟩
      exact ⟨_, rfl, rfl, hB⟩
    · refine Gr.ask_val trivial rfl (fun _ => rfl) (fun a W H => ?_)
      have e34 : a.eval (.tmp 34) = .bool (true) := H.facts 34 rfl
      have e46 : a.eval (.tmp 46) = .bool (true) := H.facts 46 rfl
      (simp only [execOp]); (simp only [e34, e46]; go_simp)
    · refine Gr.ask_val trivial rfl (fun _ => rfl) (fun a W H => ?_)
      have e47 : a.eval (.tmp 47) = .bool (true) := H.facts 47 rfl
      exact run_assign rfl e47
  · intro s W hB hs
    exact hend s W (hs 10 rfl) hB
set_option maxHeartbeats 4000000 in
set_option maxRecDepth 100000 in
theorem execs_walk (v0 v1 mv : Value) (sa sb sc : Int) (bs : List Int) (rg sl : Int) (ms : List Int) (I : Inp) (w : World) (hS : SpecV w v0 sa sb sc bs) (hI : InpV w v1 I) (hrg : 0 ≤ rg ∧ rg < 256) (hsl : 0 ≤ sl ∧ sl < 256) (hmv : Byt w mv ms) : Calls Try.prog 3 #[v0, .int .u8 rg, .int .u8 sl, mv, v1] w fun e w' => e = .returned (.bool true) ∧ Below w.heap.size w w' := by
  have hS' := hS
  obtain ⟨u, rfl, hsa, hsb, hsc, hu⟩ := hS'
  have hI' := hI
  obtain ⟨a, b, c, rfl, ha, hm, hc⟩ := hI'
  obtain ⟨ua, uc, rfl⟩ := hu.slice
  obtain ⟨aa, ac, rfl⟩ := ha.slice
  obtain ⟨ba, bc, rfl⟩ := hm.slice
  obtain ⟨ca, cc, rfl⟩ := hc.slice
  obtain ⟨va, vc, rfl⟩ := hmv.slice
  have hbox := law_box w (.int .u8 sa) (.int .u8 sb) (.int .u8 sc) (.slice ua bs.length uc) (.slice aa I.args.length ac) (.slice ba I.mem.length bc) (.slice ca I.ans.length cc) (.int .i64 I.fuel)
  have HA := hide (awake_any ((w.alloc (.cells #[.int .u8 sa, .int .u8 sb, .int .u8 sc, .slice ua bs.length uc] 24)).alloc (.cells #[.slice aa I.args.length ac, .slice ba I.mem.length bc, .slice ca I.ans.length cc, .int .i64 I.fuel] 27)))
  have HBOX := hide hbox
  clear hbox ha hm hc hu hsa hsb hsc
  go_enter Try.func3, Try.ntmps3
  go_wp2_with fail
  refine HA.out.mono ?_
  rintro e W1 ⟨rfl, hB1⟩
  obtain ⟨s0, s1, s2, s3, i0, i1, i2, i3, hBw⟩ := HBOX.out W1 hB1
  clear HBOX HA hB1
  have HM := hide (made5_any _ sa sb sc bs rg sl _ ms W1 (hS.below hBw) hrg hsl (hmv.below hBw))
  have HI1 := hide (hI.below hBw)
  have HB1 := hide hBw
  clear hS hI hBw hmv
  go_wp2_with fail
  refine HM.out.mono ?_
  rintro e W2 ⟨C, ub, rfl, hO, hch, hins, _, hB2⟩
  obtain ⟨fa, fc, rfl⟩ := hO.v.slice
  have hch1 := (mchk_all (C := C) (by rw [hch])).1
  simp only [msz, decide_eq_true_eq] at hch1
  obtain ⟨pn, hpn⟩ : ∃ pn : Nat, C.p = (pn : Int) := ⟨C.p.toNat, by omega⟩
  have HCH := hide (And.intro hch (And.intro hch1 hpn))
  have j0 := cell_below hB2 i0
  have j1 := cell_below hB2 i1
  have j2 := cell_below hB2 i2
  have j3 := cell_below hB2 i3
  clear HM s0 s1 s2 s3 i0 i1 i2 i3
  have hBf := bel1' W2 (.cells #[.int .i64 C.p, .int .i64 C.r, .int .i64 C.s, .slice fa C.bs.length fc] 31)
  have HV := hide (hO.v.below hBf)
  have HB3 := hide (bel_of HB1.out (bel_of hB2 hBf))
  have hIf := (HI1.out.below hB2).below hBf
  have HIN : Hid (Calls Try.prog 9 #[.agg #[.slice aa I.args.length ac, .slice ba I.mem.length bc, .slice ca I.ans.length cc, .int .i64 I.fuel], .int .i64 C.p] (W2.alloc (.cells #[.int .i64 C.p, .int .i64 C.r, .int .i64 C.s, .slice fa C.bs.length fc] 31)) fun e w' => ∃ x, e = .returned x ∧ InpV w' x (inpOf I pn) ∧ Below (W2.alloc (.cells #[.int .i64 C.p, .int .i64 C.r, .int .i64 C.s, .slice fa C.bs.length fc] 31)).heap.size (W2.alloc (.cells #[.int .i64 C.p, .int .i64 C.r, .int .i64 C.s, .slice fa C.bs.length fc] 31)) w') := by
    rw [hpn] at hIf ⊢
    exact input_any _ I pn _ hIf (by omega)
  have j0 := cell_below hBf j0
  have j1 := cell_below hBf j1
  have j2 := cell_below hBf j2
  have j3 := cell_below hBf j3
  have HRF := hide (heap_alloc_new W2 (.cells #[.int .i64 C.p, .int .i64 C.r, .int .i64 C.s, .slice fa C.bs.length fc] 31))
  clear hO hB2 hBf hIf HI1 HB1 hpn hch hch1 hins
  go_wp2_with fail
  refine HIN.out.mono ?_
  clear HIN j0 j1 j2 j3
  generalize W2.alloc (.cells #[.int .i64 C.p, .int .i64 C.r, .int .i64 C.s, .slice fa C.bs.length fc] 31) = A2 at *
  generalize W2.heap.size = gf at *
  rintro e W3 ⟨x, rfl, hX, hB3⟩
  have hX' := hX
  obtain ⟨x0, x1, x2, rfl, hx0, hx1, hx2⟩ := hX'
  obtain ⟨xa, xac, rfl⟩ := hx0.slice
  obtain ⟨xb, xbc, rfl⟩ := hx1.slice
  obtain ⟨xc, xcc, rfl⟩ := hx2.slice
  have hfu : 0 ≤ (inpOf I pn).fuel ∧ (inpOf I pn).fuel < 400 := by rw [show (inpOf I pn).fuel = (I.fuel % 18446744073709551616) % 400 from rfl]; omega
  have hxl : Hid ((inpOf I pn).args.length = pn) := argsOf_len _ _
  generalize inpOf I pn = X at *
  have hfr : W3.heap[gf]? = _ := (hB3.block gf (Array.getElem?_eq_some_iff.1 HRF.out).1).trans HRF.out
  have hbb := bel1' W3 (.cells #[.slice xa X.args.length xac, .slice xb X.mem.length xbc, .slice xc X.ans.length xcc, .int .i64 X.fuel] 27)
  have hfr3 := (hbb.block gf (Array.getElem?_eq_some_iff.1 hfr).1).trans hfr
  obtain ⟨g0, g1, g2, g3⟩ : (W3.alloc (.cells #[.slice xa X.args.length xac, .slice xb X.mem.length xbc, .slice xc X.ans.length xcc, .int .i64 X.fuel] 27)).cell? ⟨gf, 0, none⟩ = some (.int .i64 C.p) ∧ (W3.alloc (.cells #[.slice xa X.args.length xac, .slice xb X.mem.length xbc, .slice xc X.ans.length xcc, .int .i64 X.fuel] 27)).cell? ⟨gf, 1, none⟩ = some (.int .i64 C.r) ∧ (W3.alloc (.cells #[.slice xa X.args.length xac, .slice xb X.mem.length xbc, .slice xc X.ans.length xcc, .int .i64 X.fuel] 27)).cell? ⟨gf, 2, none⟩ = some (.int .i64 C.s) ∧ (W3.alloc (.cells #[.slice xa X.args.length xac, .slice xb X.mem.length xbc, .slice xc X.ans.length xcc, .int .i64 X.fuel] 27)).cell? ⟨gf, 3, none⟩ = some (.slice fa C.bs.length fc) := by
    refine ⟨?_, ?_, ?_, ?_⟩
    all_goals (rw [cell_of_row _ _ _ _ _ _ hfr3]; rfl)
  have hXA := hX.below hbb
  have hV3 := (HV.out.below hB3).below hbb
  have HRX := hide (heap_alloc_new W3 (.cells #[.slice xa X.args.length xac, .slice xb X.mem.length xbc, .slice xc X.ans.length xcc, .int .i64 X.fuel] 27))
  have HRF3 := hide hfr3
  have HB4 := hide (bel_of HB3.out (bel_of hB3 hbb))
  have hrx : execF C X = 0 := execF_of (by rw [HCH.out.1]) (by rw [hxl.out, HCH.out.2.2]) (by omega)
  have HC := hide (exec_any C X (.agg #[.int .i64 C.p, .int .i64 C.r, .int .i64 C.s, .slice fa C.bs.length fc]) _ _ ⟨_, rfl, hV3⟩ hXA)
  have HV3 := hide hV3
  have HXA := hide hXA
  have HRUNX := hide hrx
  obtain ⟨Z, hz, hzs⟩ := z37
  have HZ := hide (And.intro hz hzs)
  clear hz hzs hX hx0 hx1 hx2 hB3 hfr hbb HRF HB3 HV hfr3 hXA hV3 hrx
  go_wp2_with fail
  refine HC.out.mono ?_
  clear HC g0 g1 g2 g3
  generalize W3.alloc (.cells #[.slice xa X.args.length xac, .slice xb X.mem.length xbc, .slice xc X.ans.length xcc, .int .i64 X.fuel] 27) = A3 at *
  generalize W3.heap.size = gx at *
  rintro e W4 ⟨x, rfl, hOut, hB4⟩
  rw [HRUNX.out]
  rw [execO_play HRUNX.out] at hOut
  obtain ⟨n, hn⟩ : ∃ n : Nat, C.r + C.s = (n : Int) := ⟨(C.r + C.s).toNat, by have := HCH.out.2.1; omega⟩
  rw [hn, Int.toNat_natCast] at hOut
  obtain ⟨OA, cva, rfl, hOA, hla, hoa, hca, hma⟩ := out_var hOut
  have HOV := hide hOut.v
  have HOA := hide (And.intro hla hoa)
  have HB5 := hide hB4
  have HN := hide hn
  clear hOA hla hoa hca hma hOut hB4 hn
  go_wp2_with (refine wpList_var 37 13 rfl rfl rfl rfl (.tmp 30) rfl rfl Z OA.toArray HZ.out.1 (by simp) rfl (by simp only [List.size_toArray, HOA.out.1]; exact size37) (by simp only [List.size_toArray, HOA.out.1]; exact HZ.out.2) HOA.out.2 ?_; intro ga W5 hga)
  have hB5 : Below W4.heap.size W4 W5 := by have := hga.out.2.2; rwa [hga.out.1] at this
  have hBA := bel_of HB5.out hB5
  obtain ⟨hch, hch1, hpn⟩ := HCH.out
  have hxl := hxl.out
  have hn := HN.out
  have hrm := rm_le (bs := C.bs) (s := C.s) (by omega)
  refine xe6_ok (C := C) (I := X) (n := n) (gk := gf) (gx := gx) (ga := ga) rfl rfl rfl rfl rfl hga.out.2.1 ((hBA.block gf (Array.getElem?_eq_some_iff.1 HRF3.out).1).trans HRF3.out) ((hBA.block gx (Array.getElem?_eq_some_iff.1 HRX.out).1).trans HRX.out) (by simp only [List.size_toArray, HOA.out.1]; exact size37) (by kernel_rfl) (HOV.out.below hB5) (HV3.out.below hBA) (HXA.out.below hBA) (okay_cod hch (by omega)) hn (by omega) ⟨by omega, by omega⟩ ⟨by omega, by omega⟩ (by omega) ⟨by omega, by omega⟩ ?_
  intro s W hs10 hBW
  have HBF := hide (bel_of HB4.out (bel_of hBA hBW))
  simp [overlay, dstsOf, ops_xe6_ok, hs10]
  clear hBW hs10 hrm hn hxl hch hch1 hpn hBA hB5
  go_wp2_with fail
  go_ret
  exact ⟨rfl, HBF.out⟩
end Go.Proofs.Ytepmbkiojpffpaa
