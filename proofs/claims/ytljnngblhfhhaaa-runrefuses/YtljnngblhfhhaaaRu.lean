/- RunRuns: run.Run answers as the document's Play. -/
import Derived.Test.YtljnngblhfhhaaaPy
import Derived.Test.YtljnngblhfhhaaaGr
import Derived.Test.YtljnngblhfhhaaaSame
import Derived.Test.YtljnngblhfhhaaaRf
namespace Go.Proofs.Ytljnngblhfhhaaa
open Go Go.RowKit Ir

theorem size31 : (Try.prog.info? 31).map (·.size) = some 3 := by kernel_rfl
def ops_rr6_ok : Array Oper := #[{ dst := some 23, op := Op.move (Operand.tmp 8), type := 38, pos := "law.go:41", after := #[], guard := none }, { dst := some 24, op := Op.binOp BinOp.eql 38 (Operand.tmp 23) (Operand.const (Value.int IntKind.i64 0)) 38, type := 4, pos := "law.go:41", after := #[{ on := 0, ground := Ground.data }], guard := none }, { dst := some 25, op := Op.move (Operand.tmp 24), type := 4, pos := "law.go:41", after := #[{ on := 1, ground := Ground.data }], guard := none }, { dst := some 26, op := Op.load 37 (Operand.tmp 7), type := 37, pos := "law.go:41", after := #[{ on := 2, ground := Ground.guard }], guard := some (2, true) }, { dst := some 27, op := Op.fieldAddr 31 (Operand.tmp 5) 2, type := 0, pos := "law.go:41", after := #[{ on := 2, ground := Ground.guard }], guard := some (2, true) }, { dst := some 28, op := Op.load 29 (Operand.tmp 27), type := 29, pos := "law.go:41", after := #[{ on := 4, ground := Ground.data }, { on := 2, ground := Ground.guard }], guard := some (2, true) }, { dst := some 29, op := Op.fieldAddr 31 (Operand.tmp 5) 1, type := 0, pos := "law.go:41", after := #[{ on := 2, ground := Ground.guard }], guard := some (2, true) }, { dst := some 30, op := Op.load 3 (Operand.tmp 29), type := 3, pos := "law.go:41", after := #[{ on := 6, ground := Ground.data }, { on := 2, ground := Ground.guard }], guard := some (2, true) }, { dst := some 31, op := Op.load 27 (Operand.tmp 6), type := 27, pos := "law.go:41", after := #[{ on := 2, ground := Ground.guard }], guard := some (2, true) }, { dst := some 32, op := Op.call { callee := Callee.value (Operand.func 14), args := #[Operand.tmp 28, Operand.tmp 30, Operand.const (Value.int IntKind.i64 0), Operand.const (Value.int IntKind.i64 0), Operand.tmp 31], argTypes := #[29, 3, 3, 3, 27] }, type := 37, pos := "law.go:41", after := #[{ on := 5, ground := Ground.data }, { on := 7, ground := Ground.data }, { on := 8, ground := Ground.data }, { on := 2, ground := Ground.chain }, { on := 2, ground := Ground.guard }], guard := some (2, true) }, { dst := some 33, op := Op.call { callee := Callee.value (Operand.func 13), args := #[Operand.tmp 26, Operand.tmp 32], argTypes := #[37, 37] }, type := 4, pos := "law.go:41", after := #[{ on := 3, ground := Ground.data }, { on := 9, ground := Ground.data }, { on := 9, ground := Ground.chain }, { on := 2, ground := Ground.guard }], guard := some (2, true) }, { dst := some 34, op := Op.pick (Operand.tmp 25) (Operand.tmp 33) (Operand.const (Value.bool false)), type := 4, pos := "law.go:41", after := #[{ on := 2, ground := Ground.data }, { on := 10, ground := Ground.data }], guard := none }, { dst := some 35, op := Op.move (Operand.tmp 34), type := 4, pos := "law.go:41", after := #[{ on := 11, ground := Ground.data }, { on := 10, ground := Ground.chain }], guard := none }, { dst := some 36, op := Op.load 31 (Operand.tmp 5), type := 31, pos := "law.go:41", after := #[{ on := 12, ground := Ground.guard }], guard := some (12, true) }, { dst := some 37, op := Op.load 24 (Operand.tmp 2), type := 24, pos := "law.go:41", after := #[{ on := 12, ground := Ground.guard }], guard := some (12, true) }, { dst := some 38, op := Op.call { callee := Callee.value (Operand.func 10), args := #[Operand.tmp 37], argTypes := #[24] }, type := 31, pos := "law.go:41", after := #[{ on := 14, ground := Ground.data }, { on := 12, ground := Ground.chain }, { on := 12, ground := Ground.guard }], guard := some (12, true) }, { dst := some 39, op := Op.call { callee := Callee.value (Operand.func 15), args := #[Operand.tmp 36, Operand.tmp 38], argTypes := #[31, 31] }, type := 4, pos := "law.go:41", after := #[{ on := 13, ground := Ground.data }, { on := 15, ground := Ground.data }, { on := 15, ground := Ground.chain }, { on := 12, ground := Ground.guard }], guard := some (12, true) }, { dst := some 40, op := Op.pick (Operand.tmp 35) (Operand.tmp 39) (Operand.const (Value.bool false)), type := 4, pos := "law.go:41", after := #[{ on := 12, ground := Ground.data }, { on := 16, ground := Ground.data }], guard := none }, { dst := some 4, op := Op.assign (Operand.tmp 40), type := 4, pos := "law.go:41", after := #[{ on := 17, ground := Ground.data }, { on := 16, ground := Ground.chain }, { on := 0, ground := Ground.phase }, { on := 1, ground := Ground.phase }, { on := 2, ground := Ground.phase }, { on := 3, ground := Ground.phase }, { on := 4, ground := Ground.phase }, { on := 5, ground := Ground.phase }, { on := 6, ground := Ground.phase }, { on := 7, ground := Ground.phase }, { on := 8, ground := Ground.phase }, { on := 9, ground := Ground.phase }, { on := 10, ground := Ground.phase }, { on := 11, ground := Ground.phase }, { on := 12, ground := Ground.phase }, { on := 13, ground := Ground.phase }, { on := 14, ground := Ground.phase }, { on := 15, ground := Ground.phase }, { on := 16, ground := Ground.phase }, { on := 17, ground := Ground.phase }], guard := none }]
/-- What is known of each temporary. -/
def G_rr6_ok (gf fc n : Nat) (fa : Option Addr) (F : Fun) (I : Inp) (OA : List Value) (XV SV : Array Value) : Tmp → Value → World → Prop
  | 23, xx, _ => xx = .int .i64 0
  | 24, xx, _ => xx = .bool (true)
  | 25, xx, _ => xx = .bool (true)
  | 26, xx, _ => xx = .agg OA.toArray
  | 27, xx, _ => xx = .pointer (some ⟨gf, 2, none⟩)
  | 28, xx, _ => xx = .slice fa F.bs.length fc
  | 29, xx, _ => xx = .pointer (some ⟨gf, 1, none⟩)
  | 30, xx, _ => xx = .int .i64 F.v
  | 31, xx, _ => xx = .agg XV
  | 32, xx, ww => OutV ww xx (play F.v F.bs 0 (st0 n (0 : Nat) I))
  | 33, xx, _ => xx = .bool (true)
  | 34, xx, _ => xx = .bool (true)
  | 35, xx, _ => xx = .bool (true)
  | 36, xx, _ => xx = .agg #[.int .i64 F.p, .int .i64 F.v, .slice fa F.bs.length fc]
  | 37, xx, _ => xx = .agg SV
  | 38, xx, ww => FunV ww xx F
  | 39, xx, _ => xx = .bool (true)
  | 40, xx, _ => xx = .bool (true)
  | 4, xx, _ => xx = .bool (true)
  | _, _, _ => True
theorem Gm_rr6_ok {gf fc n : Nat} {fa : Option Addr} {F : Fun} {I : Inp} {OA : List Value} {XV SV : Array Value} : ∀ d u W W', Below W.heap.size W W' → G_rr6_ok gf fc n fa F I OA XV SV d u W → G_rr6_ok gf fc n fa F I OA XV SV d u W' := by
  intro d u W W' hB h
  unfold G_rr6_ok at h ⊢
  split at h
  all_goals first | exact h | exact OutV.below h hB | (obtain ⟨ub, h1, h2⟩ := h; exact ⟨ub, h1, h2.below hB⟩)
set_option maxHeartbeats 1000000 in
set_option maxRecDepth 100000 in
theorem rr6_ok {Q : Exit → Act → World → Prop} {a0 : Act} {wa : World} {ga gf gx gs fc n : Nat} {fa : Option Addr} {F : Fun} {I : Inp} {OA : List Value} {XV SV : Array Value} {sa sb sc : Int} {bs : List Int} (hz : a0.tmps.size = 41) (b8 : a0.eval (.tmp 8) = .int .i64 0) (b7 : a0.eval (.tmp 7) = .pointer (some ⟨ga, 0, none⟩)) (b5 : a0.eval (.tmp 5) = .pointer (some ⟨gf, 0, none⟩)) (b6 : a0.eval (.tmp 6) = .pointer (some ⟨gx, 0, none⟩)) (b2 : a0.eval (.tmp 2) = .pointer (some ⟨gs, 0, none⟩))
    (hra : wa.heap[ga]? = some (Obj.cells OA.toArray 37 (0, 0))) (hrf : wa.heap[gf]? = some (Obj.cells #[.int .i64 F.p, .int .i64 F.v, .slice fa F.bs.length fc] 31 (0, 0))) (hrx : wa.heap[gx]? = some (Obj.cells XV 27 (0, 0))) (hrs : wa.heap[gs]? = some (Obj.cells SV 24 (0, 0))) (hsz37 : (Try.prog.info? 37).map (·.size) = some OA.toArray.size) (size27 : (Try.prog.info? 27).map (·.size) = some XV.size) (size24 : (Try.prog.info? 24).map (·.size) = some SV.size) (hOA : OutV wa (.agg OA.toArray) (play F.v F.bs 0 (st0 n (0 : Nat) I))) (hF : BlksV wa (.slice fa F.bs.length fc) F.bs) (hI : InpV wa (.agg XV) I) (hSp : SpecV wa (.agg SV) sa sb sc bs) (hmd : made sa sb sc bs = F)
    (hok : Okay F.v n F.bs) (hn : F.v = (n : Int)) (hn2 : n ≤ 1000000) (hbl : 1 ≤ F.bs.length ∧ F.bs.length ≤ 1000) (hargs : 0 + I.args.length ≤ n) (hfu : 0 ≤ I.fuel ∧ I.fuel ≤ 1048576) (hsm : ∀ b ∈ F.bs, ∀ i ∈ b.ins, i.args.length ≤ 1000000000)
    (hend : ∀ (s : Tmp → Value) (W : World), s 4 = .bool (true) → Below wa.heap.size wa W → Q .normal (overlay a0 (dstsOf ops_rr6_ok) s) W) : (Code.region 6 ops_rr6_ok true).wp Try.prog Q a0 wa := by
  have hmono := @Gm_rr6_ok gf fc n fa F I OA XV SV
  refine Gr.wp_region_grow (by kernel_rfl) (G_rr6_ok gf fc n fa F I OA XV SV) (by rw [hz]; kernel_rfl) ?_ ?_
  · refine And.intro ?_ (And.intro ?_ (And.intro ?_ (And.intro ?_ (And.intro ?_ (And.intro ?_ (And.intro ?_ (And.intro ?_ (And.intro ?_ (And.intro ?_ (And.intro ?_ (And.intro ?_ (And.intro ?_ (And.intro ?_ (And.intro ?_ (And.intro ?_ (And.intro ?_ (And.intro ?_ (And.intro ?_ trivial))))))))))))))))))
    · refine Gr.ask_val trivial rfl (fun _ => rfl) (fun a W H => ?_)
      have e8 : a.eval (.tmp 8) = .int .i64 0 := (H.base 8 rfl).trans b8
      exact run_move rfl e8
    · refine Gr.ask_val trivial rfl (fun _ => rfl) (fun a W H => ?_)
      have e23 : a.eval (.tmp 23) = .int .i64 0 := H.facts 23 rfl
      (simp only [execOp]; try simp only [Option.map]); (try simp only [List.map_toArray, List.map_cons, List.map_nil]); (simp only [e23]; go_simp)
    · refine Gr.ask_val trivial rfl (fun _ => rfl) (fun a W H => ?_)
      have e24 : a.eval (.tmp 24) = .bool (true) := H.facts 24 rfl
      exact run_move rfl e24
    · refine Gr.ask_val ⟨25, rfl, rfl, fun _ _ h => h⟩ rfl (fun _ => rfl) (fun a W H => ?_)
      have e7 : a.eval (.tmp 7) = .pointer (some ⟨ga, 0, none⟩) := (H.base 7 rfl).trans b7
      exact Gr.run_load_row rfl e7 (H.row hra) Try.underlying37 hsz37
    · refine Gr.ask_val ⟨25, rfl, rfl, fun _ _ h => h⟩ rfl (fun _ => rfl) (fun a W H => ?_)
      have e5 : a.eval (.tmp 5) = .pointer (some ⟨gf, 0, none⟩) := (H.base 5 rfl).trans b5
      (simp only [execOp]; try simp only [Option.map]); (try simp only [List.map_toArray, List.map_cons, List.map_nil]); (simp only [e5]; go_simp)
    · refine Gr.ask_val ⟨25, rfl, rfl, fun _ _ h => h⟩ rfl (fun _ => rfl) (fun a W H => ?_)
      have e27 : a.eval (.tmp 27) = .pointer (some ⟨gf, 2, none⟩) := H.facts 27 rfl
      have hcell : W.cell? ⟨gf, 2, none⟩ = some (.slice fa F.bs.length fc) := by rw [cell_of_row _ _ _ _ _ _ (H.row hrf)]; rfl
      (simp only [execOp]; try simp only [Option.map]); (try simp only [List.map_toArray, List.map_cons, List.map_nil]); (simp only [e27]; go_simp)
    · refine Gr.ask_val ⟨25, rfl, rfl, fun _ _ h => h⟩ rfl (fun _ => rfl) (fun a W H => ?_)
      have e5 : a.eval (.tmp 5) = .pointer (some ⟨gf, 0, none⟩) := (H.base 5 rfl).trans b5
      (simp only [execOp]; try simp only [Option.map]); (try simp only [List.map_toArray, List.map_cons, List.map_nil]); (simp only [e5]; go_simp)
    · refine Gr.ask_val ⟨25, rfl, rfl, fun _ _ h => h⟩ rfl (fun _ => rfl) (fun a W H => ?_)
      have e29 : a.eval (.tmp 29) = .pointer (some ⟨gf, 1, none⟩) := H.facts 29 rfl
      have hcell : W.cell? ⟨gf, 1, none⟩ = some (.int .i64 F.v) := by rw [cell_of_row _ _ _ _ _ _ (H.row hrf)]; rfl
      (simp only [execOp]; try simp only [Option.map]); (try simp only [List.map_toArray, List.map_cons, List.map_nil]); (simp only [e29]; go_simp)
    · refine Gr.ask_val ⟨25, rfl, rfl, fun _ _ h => h⟩ rfl (fun _ => rfl) (fun a W H => ?_)
      have e6 : a.eval (.tmp 6) = .pointer (some ⟨gx, 0, none⟩) := (H.base 6 rfl).trans b6
      exact Gr.run_load_row rfl e6 (H.row hrx) Try.underlying27 size27
    · refine Gr.ask_call hmono ⟨25, rfl, rfl, fun _ _ h => h⟩ Try.func14 rfl rfl rfl rfl (fun a W H => ?_)
      have e28 : a.eval (.tmp 28) = .slice fa F.bs.length fc := H.facts 28 rfl
      have e30 : a.eval (.tmp 30) = .int .i64 F.v := H.facts 30 rfl
      have e31 : a.eval (.tmp 31) = .agg XV := H.facts 31 rfl
      simp only [List.map_toArray, List.map_cons, List.map_nil, e28, e30, e31]
      refine (play_any (.slice fa F.bs.length fc) F.bs F.v 0 0 (.agg XV) I n W (hF.below H.below) (hI.below H.below) hok (by rw [hn]; omega) hn2 ⟨by omega, by omega⟩ hbl hargs hfu).mono ?_
      rintro e w' ⟨x, rfl, hO, hB⟩
      exact ⟨x, rfl, hO.v, hB⟩
    · refine Gr.ask_call hmono ⟨25, rfl, rfl, fun _ _ h => h⟩ Try.func13 rfl rfl rfl rfl (fun a W H => ?_)
      have e26 : a.eval (.tmp 26) = .agg OA.toArray := H.facts 26 rfl
      have e32 : OutV W (a.eval (.tmp 32)) (play F.v F.bs 0 (st0 n (0 : Nat) I)) := H.facts 32 rfl
      simp only [List.map_toArray, List.map_cons, List.map_nil, e26]
      refine (same_any _ _ _ W (hOA.below H.below) e32).mono ?_
      rintro e w' ⟨rfl, hB⟩
      exact ⟨_, rfl, rfl, hB⟩
    · refine Gr.ask_val trivial rfl (fun _ => rfl) (fun a W H => ?_)
      have e25 : a.eval (.tmp 25) = .bool (true) := H.facts 25 rfl
      have e33 : a.eval (.tmp 33) = .bool (true) := H.facts 33 rfl
      (simp only [execOp]); (simp only [e25, e33]; go_simp)
    · refine Gr.ask_val trivial rfl (fun _ => rfl) (fun a W H => ?_)
      have e34 : a.eval (.tmp 34) = .bool (true) := H.facts 34 rfl
      exact run_move rfl e34
    · refine Gr.ask_val ⟨35, rfl, rfl, fun _ _ h => h⟩ rfl (fun _ => rfl) (fun a W H => ?_)
      have e5 : a.eval (.tmp 5) = .pointer (some ⟨gf, 0, none⟩) := (H.base 5 rfl).trans b5
      exact Gr.run_load_row rfl e5 (H.row hrf) Try.underlying31 size31
    · refine Gr.ask_val ⟨35, rfl, rfl, fun _ _ h => h⟩ rfl (fun _ => rfl) (fun a W H => ?_)
      have e2 : a.eval (.tmp 2) = .pointer (some ⟨gs, 0, none⟩) := (H.base 2 rfl).trans b2
      exact Gr.run_load_row rfl e2 (H.row hrs) Try.underlying24 size24
    · refine Gr.ask_call hmono ⟨35, rfl, rfl, fun _ _ h => h⟩ Try.func10 rfl rfl rfl rfl (fun a W H => ?_)
      have e37 : a.eval (.tmp 37) = .agg SV := H.facts 37 rfl
      simp only [List.map_toArray, List.map_cons, List.map_nil, e37]
      refine (made_any _ sa sb sc bs W (hSp.below H.below)).mono ?_
      rintro e w' ⟨ub, rfl, hO, hB⟩
      rw [hmd] at hO ⊢
      exact ⟨_, rfl, ⟨ub, rfl, hO.v⟩, hB⟩
    · refine Gr.ask_call hmono ⟨35, rfl, rfl, fun _ _ h => h⟩ Try.func15 rfl rfl rfl rfl (fun a W H => ?_)
      have e36 : a.eval (.tmp 36) = .agg #[.int .i64 F.p, .int .i64 F.v, .slice fa F.bs.length fc] := H.facts 36 rfl
      have e38 : FunV W (a.eval (.tmp 38)) F := H.facts 38 rfl
      obtain ⟨ub2, e38, hu2⟩ := e38
      simp only [List.map_toArray, List.map_cons, List.map_nil, e36, e38]
      refine (sameFuncs_any F _ _ W (hF.below H.below) hu2 hsm).mono ?_
      rintro e w' ⟨rfl, hB⟩
      exact ⟨_, rfl, rfl, hB⟩
    · refine Gr.ask_val trivial rfl (fun _ => rfl) (fun a W H => ?_)
      have e35 : a.eval (.tmp 35) = .bool (true) := H.facts 35 rfl
      have e39 : a.eval (.tmp 39) = .bool (true) := H.facts 39 rfl
      (simp only [execOp]); (simp only [e35, e39]; go_simp)
    · refine Gr.ask_val trivial rfl (fun _ => rfl) (fun a W H => ?_)
      have e40 : a.eval (.tmp 40) = .bool (true) := H.facts 40 rfl
      exact run_assign rfl e40
  · intro s W hB hs
    exact hend s W (hs 4 rfl) hB
theorem sized_all {F : Fun} (h : chk F = (0, 0, 0)) : (0 ≤ F.p ∧ F.p ≤ 4) ∧ F.p ≤ F.v ∧ F.v ≤ 32 ∧ 1 ≤ F.bs.length ∧ F.bs.length ≤ 16 := by
  have h1 := (chk_all (F := F) (by rw [h])).1
  unfold sized at h1
  simp at h1
  omega
theorem made_small (a b c : Int) (bs : List Int) : ∀ b' ∈ (made a b c bs).bs, ∀ i ∈ b'.ins, i.args.length ≤ 1000000000 := by
  intro b' hb i hi
  obtain ⟨h1, h2⟩ := chk_all (F := made a b c bs) (by rw [made_right])
  obtain ⟨q1, q2, q3⟩ := blkF_all (h2 b' hb)
  have := (inF_all (q2 i hi)).2.1
  omega
set_option maxHeartbeats 4000000 in
set_option maxRecDepth 100000 in
theorem runs_walk (v0 v1 : Value) (sa sb sc : Int) (bs : List Int) (I : Inp) (w : World) (hS : SpecV w v0 sa sb sc bs) (hI : InpV w v1 I) : Calls Try.prog 3 #[v0, v1] w fun e w' => e = .returned (.bool true) ∧ Below w.heap.size w w' := by
  have hS' := hS
  obtain ⟨u, rfl, hsa, hsb, hsc, hu⟩ := hS'
  have hI' := hI
  obtain ⟨a, b, c, rfl, ha, hm, hc⟩ := hI'
  obtain ⟨ua, uc, rfl⟩ := hu.slice
  obtain ⟨aa, ac, rfl⟩ := ha.slice
  obtain ⟨ba, bc, rfl⟩ := hm.slice
  obtain ⟨ca, cc, rfl⟩ := hc.slice
  obtain ⟨pn, hpn, hpl⟩ := made_p sa sb sc bs
  have hbox := law_box w (.int .u8 sa) (.int .u8 sb) (.int .u8 sc) (.slice ua bs.length uc) (.slice aa I.args.length ac) (.slice ba I.mem.length bc) (.slice ca I.ans.length cc) (.int .i64 I.fuel)
  have hrs : ((w.alloc (.cells #[.int .u8 sa, .int .u8 sb, .int .u8 sc, .slice ua bs.length uc] 24)).alloc (.cells #[.slice aa I.args.length ac, .slice ba I.mem.length bc, .slice ca I.ans.length cc, .int .i64 I.fuel] 27)).heap[w.heap.size]? = some (Obj.cells #[.int .u8 sa, .int .u8 sb, .int .u8 sc, .slice ua bs.length uc] 24 (0, 0)) := by
    rw [(bel1' (w.alloc (.cells #[.int .u8 sa, .int .u8 sb, .int .u8 sc, .slice ua bs.length uc] 24)) _).block _ (by simp)]
    exact heap_alloc_new w _
  have HA := hide (awake_any ((w.alloc (.cells #[.int .u8 sa, .int .u8 sb, .int .u8 sc, .slice ua bs.length uc] 24)).alloc (.cells #[.slice aa I.args.length ac, .slice ba I.mem.length bc, .slice ca I.ans.length cc, .int .i64 I.fuel] 27)))
  have HBOX := hide hbox
  have HRS := hide hrs
  clear hbox ha hm hc hu hsa hsb hsc hrs
  go_enter Try.func3, Try.ntmps3
  go_wp2_with fail
  refine HA.out.mono ?_
  rintro e W1 ⟨rfl, hB1⟩
  obtain ⟨s0, s1, s2, s3, i0, i1, i2, i3, hBw⟩ := HBOX.out W1 hB1
  have HRS1 : Hid (W1.heap[w.heap.size]? = some (Obj.cells #[.int .u8 sa, .int .u8 sb, .int .u8 sc, .slice ua bs.length uc] 24 (0, 0))) := (hB1.block _ (Array.getElem?_eq_some_iff.1 HRS.out).1).trans HRS.out
  clear HBOX HA hB1 HRS
  have HM := hide (made_any _ sa sb sc bs W1 (hS.below hBw))
  have HI1 := hide (hI.below hBw)
  have HSP := hide (hS.below hBw)
  have HB1 := hide hBw
  clear hS hI hBw
  go_wp2_with fail
  refine HM.out.mono ?_
  rintro e W2 ⟨ub, rfl, hO, hB2⟩
  have HF := hide (made_right sa sb sc bs)
  have HSM := hide (made_small sa sb sc bs)
  obtain ⟨F, hFe⟩ : ∃ F, made sa sb sc bs = F := ⟨_, rfl⟩
  rw [hFe] at hO HF HSM hpn ⊢
  have HFE := hide hFe
  clear hFe
  obtain ⟨fa, fc, rfl⟩ := hO.v.slice
  have j0 := cell_below hB2 i0
  have j1 := cell_below hB2 i1
  have j2 := cell_below hB2 i2
  have j3 := cell_below hB2 i3
  clear HM s0 s1 s2 s3 i0 i1 i2 i3
  have hBf := bel1' W2 (.cells #[.int .i64 F.p, .int .i64 F.v, .slice fa F.bs.length fc] 31)
  have HV := hide (hO.v.below hBf)
  have HB3 := hide (bel_of HB1.out (bel_of hB2 hBf))
  have HSP2 := hide ((HSP.out.below hB2).below hBf)
  have hIf := (HI1.out.below hB2).below hBf
  have HRS2 : Hid ((W2.alloc (.cells #[.int .i64 F.p, .int .i64 F.v, .slice fa F.bs.length fc] 31)).heap[w.heap.size]? = _) := (hBf.block _ (Nat.lt_of_lt_of_le (Array.getElem?_eq_some_iff.1 HRS1.out).1 hB2.size)).trans ((hB2.block _ (Array.getElem?_eq_some_iff.1 HRS1.out).1).trans HRS1.out)
  have HIN : Hid (Calls Try.prog 11 #[.agg #[.slice aa I.args.length ac, .slice ba I.mem.length bc, .slice ca I.ans.length cc, .int .i64 I.fuel], .int .i64 F.p] (W2.alloc (.cells #[.int .i64 F.p, .int .i64 F.v, .slice fa F.bs.length fc] 31)) fun e w' => ∃ x, e = .returned x ∧ InpV w' x (inpOf I pn) ∧ Below (W2.alloc (.cells #[.int .i64 F.p, .int .i64 F.v, .slice fa F.bs.length fc] 31)).heap.size (W2.alloc (.cells #[.int .i64 F.p, .int .i64 F.v, .slice fa F.bs.length fc] 31)) w') := by
    rw [hpn] at hIf ⊢
    exact input_any _ I pn _ hIf hpl
  have j0 := cell_below hBf j0
  have j1 := cell_below hBf j1
  have j2 := cell_below hBf j2
  have j3 := cell_below hBf j3
  have HRF := hide (heap_alloc_new W2 (.cells #[.int .i64 F.p, .int .i64 F.v, .slice fa F.bs.length fc] 31))
  have HPN := hide hpn
  clear hO hB2 hBf hIf HI1 HB1 HSP HRS1 hpn
  go_wp2_with fail
  refine HIN.out.mono ?_
  clear HIN j0 j1 j2 j3
  generalize W2.alloc (.cells #[.int .i64 F.p, .int .i64 F.v, .slice fa F.bs.length fc] 31) = A2 at *
  generalize W2.heap.size = gf at *
  rintro e W3 ⟨x, rfl, hX, hB3⟩
  have hX' := hX
  obtain ⟨x0, x1, x2, rfl, hx0, hx1, hx2⟩ := hX'
  obtain ⟨xa, xac, rfl⟩ := hx0.slice
  obtain ⟨xb, xbc, rfl⟩ := hx1.slice
  obtain ⟨xc, xcc, rfl⟩ := hx2.slice
  have hfu : 0 ≤ (inpOf I pn).fuel ∧ (inpOf I pn).fuel < 400 := by rw [show (inpOf I pn).fuel = (I.fuel % 18446744073709551616) % 400 from rfl]; omega
  have hxl : Hid ((inpOf I pn).args.length = pn) := argsOf_len _ _
  generalize inpOf I pn = X at *
  have hfr : W3.heap[gf]? = _ := (hB3.block gf (Array.getElem?_eq_some_iff.1 HRF.out).1).trans HRF.out
  have hbb := bel1' W3 (.cells #[.slice xa X.args.length xac, .slice xb X.mem.length xbc, .slice xc X.ans.length xcc, .int .i64 X.fuel] 27)
  have f0 : W3.cell? ⟨gf, 0, none⟩ = some (.int .i64 F.p) := by rw [cell_of_row _ _ _ _ _ _ hfr]; rfl
  have f1 : W3.cell? ⟨gf, 1, none⟩ = some (.int .i64 F.v) := by rw [cell_of_row _ _ _ _ _ _ hfr]; rfl
  have f2 : W3.cell? ⟨gf, 2, none⟩ = some (.slice fa F.bs.length fc) := by rw [cell_of_row _ _ _ _ _ _ hfr]; rfl
  have g0 := cell_below hbb f0
  have g1 := cell_below hbb f1
  have g2 := cell_below hbb f2
  have hFA : FunV (W3.alloc (.cells #[.slice xa X.args.length xac, .slice xb X.mem.length xbc, .slice xc X.ans.length xcc, .int .i64 X.fuel] 27)) (.agg #[.int .i64 F.p, .int .i64 F.v, .slice fa F.bs.length fc]) F := ⟨_, rfl, (HV.out.below hB3).below hbb⟩
  have hXA := hX.below hbb
  have hrx : runF F X = 0 := runF_zero HF.out HPN.out hxl.out (by omega)
  have HC := hide (run_any F X _ _ _ hFA hXA)
  have HFA := hide hFA
  have HXA := hide hXA
  have HRX := hide (heap_alloc_new W3 (.cells #[.slice xa X.args.length xac, .slice xb X.mem.length xbc, .slice xc X.ans.length xcc, .int .i64 X.fuel] 27))
  have HRF3 : Hid ((W3.alloc (.cells #[.slice xa X.args.length xac, .slice xb X.mem.length xbc, .slice xc X.ans.length xcc, .int .i64 X.fuel] 27)).heap[gf]? = _) := (hbb.block gf (Array.getElem?_eq_some_iff.1 hfr).1).trans hfr
  have HB4 := hide (bel_of HB3.out (bel_of hB3 hbb))
  have HRS3 : Hid ((W3.alloc (.cells #[.slice xa X.args.length xac, .slice xb X.mem.length xbc, .slice xc X.ans.length xcc, .int .i64 X.fuel] 27)).heap[w.heap.size]? = _) := (hbb.block _ (Nat.lt_of_lt_of_le (Array.getElem?_eq_some_iff.1 HRS2.out).1 hB3.size)).trans ((hB3.block _ (Array.getElem?_eq_some_iff.1 HRS2.out).1).trans HRS2.out)
  have HSP3 := hide ((HSP2.out.below hB3).below hbb)
  obtain ⟨Z, hz, hzs⟩ := z37
  have HZ := hide (And.intro hz hzs)
  have HRUNX := hide hrx
  clear hz hzs hX hx0 hx1 hx2 hB3 hfr hbb hFA hXA HRS2 HSP2 HRF HB3 HV f0 f1 f2 hrx
  go_wp2_with fail
  refine HC.out.mono ?_
  clear HC g0 g1 g2
  generalize W3.alloc (.cells #[.slice xa X.args.length xac, .slice xb X.mem.length xbc, .slice xc X.ans.length xcc, .int .i64 X.fuel] 27) = A3 at *
  generalize W3.heap.size = gx at *
  rintro e W4 ⟨x, rfl, hOut, hB4⟩
  rw [HRUNX.out]
  obtain ⟨vn, hvn⟩ : ∃ vn : Nat, F.v = (vn : Int) := by
    have := sized_all HF.out
    exact ⟨F.v.toNat, by omega⟩
  rw [runO_play HRUNX.out, hvn, Int.toNat_natCast, ← hvn] at hOut
  obtain ⟨OA, cva, rfl, hOA, hla, hoa, hca, hma⟩ := out_var hOut
  have HOV := hide hOut.v
  have HOA := hide (And.intro hla hoa)
  have HB5 := hide hB4
  have HVN := hide hvn
  clear hOA hla hoa hca hma hOut hB4 hvn
  go_wp2_with (refine wpList_var 37 7 rfl rfl rfl rfl (.tmp 21) rfl rfl Z OA.toArray HZ.out.1 (by simp) rfl (by simp only [List.size_toArray, HOA.out.1]; exact size37) (by simp only [List.size_toArray, HOA.out.1]; exact HZ.out.2) HOA.out.2 ?_; intro ga W5 hga)
  have hB5 : Below W4.heap.size W4 W5 := by have := hga.out.2.2; rwa [hga.out.1] at this
  have hBA := bel_of HB5.out hB5
  have hch := sized_all HF.out
  have hvn := HVN.out
  have hpn := HPN.out
  have hxl := hxl.out
  have hok := okay_of (F := F) (by rw [HF.out]) HVN.out
  rw [← HVN.out] at hok
  refine rr6_ok (F := F) (I := X) (n := vn) (gf := gf) (gx := gx) (ga := ga) (gs := w.heap.size) rfl rfl rfl rfl rfl rfl hga.out.2.1 ((hBA.block gf (Array.getElem?_eq_some_iff.1 HRF3.out).1).trans HRF3.out) ((hBA.block gx (Array.getElem?_eq_some_iff.1 HRX.out).1).trans HRX.out) ((hBA.block _ (Array.getElem?_eq_some_iff.1 HRS3.out).1).trans HRS3.out) (by simp only [List.size_toArray, HOA.out.1]; exact size37) (by kernel_rfl) (by kernel_rfl) (HOV.out.below hB5) (by obtain ⟨ub, e, h⟩ := HFA.out; simp only [Value.agg.injEq, Array.mk.injEq, List.cons.injEq, and_true, true_and] at e; rw [e]; exact h.below hBA) (HXA.out.below hBA) (HSP3.out.below hBA) HFE.out hok HVN.out (by omega) ⟨by omega, by omega⟩ (by omega) ⟨by omega, by omega⟩ HSM.out ?_
  · intro s W hs4 hBW
    have HBF := hide (bel_of HB4.out (bel_of hBA hBW))
    simp [overlay, dstsOf, ops_rr6_ok, hs4]
    go_wp2_with fail
    go_ret
    exact ⟨rfl, HBF.out⟩
end Go.Proofs.Ytljnngblhfhhaaa
