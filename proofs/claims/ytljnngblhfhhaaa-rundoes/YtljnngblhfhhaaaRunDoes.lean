/- RunDoes: blocks over registers and slots: run.Do answers as the document's Play. -/
import Derived.Test.YtljnngblhfhhaaaPy
import Derived.Test.YtljnngblhfhhaaaGr
import Derived.Test.YtljnngblhfhhaaaRf
import Derived.Test.YtljnngblhfhhaaaPt
import Derived.Test.YtljnngblhfhhaaaMd5
import Derived.Test.YtljnngblhfhhaaaRows
import Derived.WalkKit
import Derived.ProofKit
import Derived.OpenShut
import Derived.ShutString
import Derived.ChangeOld
import Derived.Below
namespace Go.Proofs.Ytljnngblhfhhaaa
open Go Go.RowKit Ir

def ops_rd6_ok : Array Oper := #[{ dst := some 37, op := Op.fieldAddr 54 (Operand.tmp 11) 3, type := 0, pos := "law.go:79", after := #[], guard := none }, { dst := some 38, op := Op.load 29 (Operand.tmp 37), type := 29, pos := "law.go:79", after := #[{ on := 0, ground := Ground.data }], guard := none }, { dst := some 39, op := Op.fieldAddr 54 (Operand.tmp 11) 1, type := 0, pos := "law.go:79", after := #[], guard := none }, { dst := some 40, op := Op.load 3 (Operand.tmp 39), type := 3, pos := "law.go:79", after := #[{ on := 2, ground := Ground.data }], guard := none }, { dst := some 41, op := Op.fieldAddr 54 (Operand.tmp 11) 2, type := 0, pos := "law.go:79", after := #[], guard := none }, { dst := some 42, op := Op.load 3 (Operand.tmp 41), type := 3, pos := "law.go:79", after := #[{ on := 4, ground := Ground.data }], guard := none }, { dst := some 43, op := Op.move (Operand.tmp 13), type := 3, pos := "law.go:79", after := #[], guard := none }, { dst := some 44, op := Op.load 27 (Operand.tmp 12), type := 27, pos := "law.go:79", after := #[], guard := none }, { dst := some 45, op := Op.call { callee := Callee.value (Operand.func 21), args := #[Operand.tmp 38, Operand.tmp 40, Operand.tmp 42, Operand.tmp 43, Operand.tmp 44], argTypes := #[29, 3, 3, 3, 27] }, type := 37, pos := "law.go:79", after := #[{ on := 1, ground := Ground.data }, { on := 3, ground := Ground.data }, { on := 5, ground := Ground.data }, { on := 6, ground := Ground.data }, { on := 7, ground := Ground.data }], guard := none }, { dst := some 46, op := Op.fieldAddr 54 (Operand.tmp 11) 3, type := 0, pos := "law.go:79", after := #[], guard := none }, { dst := some 47, op := Op.load 29 (Operand.tmp 46), type := 29, pos := "law.go:79", after := #[{ on := 9, ground := Ground.data }], guard := none }, { dst := some 48, op := Op.fieldAddr 54 (Operand.tmp 11) 1, type := 0, pos := "law.go:79", after := #[], guard := none }, { dst := some 49, op := Op.load 3 (Operand.tmp 48), type := 3, pos := "law.go:79", after := #[{ on := 11, ground := Ground.data }], guard := none }, { dst := some 50, op := Op.fieldAddr 54 (Operand.tmp 11) 2, type := 0, pos := "law.go:79", after := #[], guard := none }, { dst := some 51, op := Op.load 3 (Operand.tmp 50), type := 3, pos := "law.go:79", after := #[{ on := 13, ground := Ground.data }], guard := none }, { dst := some 52, op := Op.move (Operand.tmp 13), type := 3, pos := "law.go:79", after := #[], guard := none }, { dst := some 53, op := Op.load 27 (Operand.tmp 12), type := 27, pos := "law.go:79", after := #[], guard := none }, { dst := some 54, op := Op.call { callee := Callee.value (Operand.func 14), args := #[Operand.tmp 47, Operand.tmp 49, Operand.tmp 51, Operand.tmp 52, Operand.tmp 53], argTypes := #[29, 3, 3, 3, 27] }, type := 37, pos := "law.go:79", after := #[{ on := 10, ground := Ground.data }, { on := 12, ground := Ground.data }, { on := 14, ground := Ground.data }, { on := 15, ground := Ground.data }, { on := 16, ground := Ground.data }, { on := 8, ground := Ground.chain }], guard := none }, { dst := some 55, op := Op.call { callee := Callee.value (Operand.func 13), args := #[Operand.tmp 45, Operand.tmp 54], argTypes := #[37, 37] }, type := 4, pos := "law.go:79", after := #[{ on := 8, ground := Ground.data }, { on := 17, ground := Ground.data }, { on := 17, ground := Ground.chain }], guard := none }, { dst := some 10, op := Op.assign (Operand.tmp 55), type := 4, pos := "law.go:79", after := #[{ on := 18, ground := Ground.data }, { on := 18, ground := Ground.chain }, { on := 0, ground := Ground.phase }, { on := 1, ground := Ground.phase }, { on := 2, ground := Ground.phase }, { on := 3, ground := Ground.phase }, { on := 4, ground := Ground.phase }, { on := 5, ground := Ground.phase }, { on := 6, ground := Ground.phase }, { on := 7, ground := Ground.phase }, { on := 8, ground := Ground.phase }, { on := 9, ground := Ground.phase }, { on := 10, ground := Ground.phase }, { on := 11, ground := Ground.phase }, { on := 12, ground := Ground.phase }, { on := 13, ground := Ground.phase }, { on := 14, ground := Ground.phase }, { on := 15, ground := Ground.phase }, { on := 16, ground := Ground.phase }, { on := 17, ground := Ground.phase }, { on := 18, ground := Ground.phase }], guard := none }]
/-- What is known of each temporary. -/
def G_rd6_ok (gk kc n f : Nat) (ka : Option Addr) (C : Cod) (I : Inp) (XV : Array Value) : Tmp → Value → World → Prop
  | 37, xx, _ => xx = .pointer (some ⟨gk, 3, none⟩)
  | 38, xx, _ => xx = .slice ka C.bs.length kc
  | 39, xx, _ => xx = .pointer (some ⟨gk, 1, none⟩)
  | 40, xx, _ => xx = .int .i64 C.r
  | 41, xx, _ => xx = .pointer (some ⟨gk, 2, none⟩)
  | 42, xx, _ => xx = .int .i64 C.s
  | 43, xx, _ => xx = .int .i64 (f : Nat)
  | 44, xx, _ => xx = .agg XV
  | 45, xx, ww => OutV ww xx (play C.r C.bs 0 (st0 n (f : Int) I))
  | 46, xx, _ => xx = .pointer (some ⟨gk, 3, none⟩)
  | 47, xx, _ => xx = .slice ka C.bs.length kc
  | 48, xx, _ => xx = .pointer (some ⟨gk, 1, none⟩)
  | 49, xx, _ => xx = .int .i64 C.r
  | 50, xx, _ => xx = .pointer (some ⟨gk, 2, none⟩)
  | 51, xx, _ => xx = .int .i64 C.s
  | 52, xx, _ => xx = .int .i64 (f : Nat)
  | 53, xx, _ => xx = .agg XV
  | 54, xx, ww => OutV ww xx (play C.r C.bs 0 (st0 n (f : Int) I))
  | 55, xx, _ => xx = .bool (true)
  | 10, xx, _ => xx = .bool (true)
  | _, _, _ => True
theorem Gm_rd6_ok {gk kc n f : Nat} {ka : Option Addr} {C : Cod} {I : Inp} {XV : Array Value} : ∀ d u W W', Below W.heap.size W W' → G_rd6_ok gk kc n f ka C I XV d u W → G_rd6_ok gk kc n f ka C I XV d u W' := by
  intro d u W W' hB h
  unfold G_rd6_ok at h ⊢
  split at h
  all_goals first | exact h | exact OutV.below h hB
set_option maxHeartbeats 1000000 in
set_option maxRecDepth 100000 in
theorem rd6_ok {Q : Exit → Act → World → Prop} {a0 : Act} {wa : World} {gk gx kc n m f : Nat} {ka : Option Addr} {C : Cod} {I : Inp} {XV : Array Value} (hz : a0.tmps.size = 56) (b11 : a0.eval (.tmp 11) = .pointer (some ⟨gk, 0, none⟩)) (b13 : a0.eval (.tmp 13) = .int .i64 (f : Nat)) (b12 : a0.eval (.tmp 12) = .pointer (some ⟨gx, 0, none⟩))
    (hrk : wa.heap[gk]? = some (Obj.cells #[.int .i64 C.p, .int .i64 C.r, .int .i64 C.s, .slice ka C.bs.length kc] 54 (0, 0))) (hrx : wa.heap[gx]? = some (Obj.cells XV 27 (0, 0))) (size27 : (Try.prog.info? 27).map (·.size) = some XV.size) (hK : BlksV wa (.slice ka C.bs.length kc) C.bs) (hI : InpV wa (.agg XV) I) (hch : mchk C = (0, 0, 0))
    (hok : Okay C.r n C.bs) (hn : C.r + C.s = (n : Int)) (hn2 : n ≤ 1000000) (hm : C.r + rm C.bs C.s = (m : Int)) (hm2 : m ≤ 1000000) (hr : 0 ≤ C.r ∧ C.r ≤ 1000000) (hbl : 1 ≤ C.bs.length ∧ C.bs.length ≤ 1000) (hargs : f + I.args.length ≤ n) (hfu : 0 ≤ I.fuel ∧ I.fuel ≤ 1048576) (heq : play C.r C.bs 0 (st0 m (f : Int) I) = play C.r C.bs 0 (st0 n (f : Int) I))
    (hend : ∀ (s : Tmp → Value) (W : World), s 10 = .bool (true) → Below wa.heap.size wa W → Q .normal (overlay a0 (dstsOf ops_rd6_ok) s) W) : (Code.region 6 ops_rd6_ok true).wp Try.prog Q a0 wa := by
  have hmono := @Gm_rd6_ok gk kc n f ka C I XV
  refine Gr.wp_region_grow (by kernel_rfl) (G_rd6_ok gk kc n f ka C I XV) (by rw [hz]; kernel_rfl) ?_ ?_
  · refine And.intro ?_ (And.intro ?_ (And.intro ?_ (And.intro ?_ (And.intro ?_ (And.intro ?_ (And.intro ?_ (And.intro ?_ (And.intro ?_ (And.intro ?_ (And.intro ?_ (And.intro ?_ (And.intro ?_ (And.intro ?_ (And.intro ?_ (And.intro ?_ (And.intro ?_ (And.intro ?_ (And.intro ?_ (And.intro ?_ trivial)))))))))))))))))))
    · refine Gr.ask_val trivial rfl (fun _ => rfl) (fun a W H => ?_)
      have e11 : a.eval (.tmp 11) = .pointer (some ⟨gk, 0, none⟩) := (H.base 11 rfl).trans b11
      (simp only [execOp]; try simp only [Option.map]); (try simp only [List.map_toArray, List.map_cons, List.map_nil]); (simp only [e11]; go_simp)
    · refine Gr.ask_val trivial rfl (fun _ => rfl) (fun a W H => ?_)
      have e37 : a.eval (.tmp 37) = .pointer (some ⟨gk, 3, none⟩) := H.facts 37 rfl
      have hcell : W.cell? ⟨gk, 3, none⟩ = some (.slice ka C.bs.length kc) := by rw [cell_of_row _ _ _ _ _ _ (H.row hrk)]; rfl
      (simp only [execOp]; try simp only [Option.map]); (try simp only [List.map_toArray, List.map_cons, List.map_nil]); (simp only [e37]; go_simp)
    · refine Gr.ask_val trivial rfl (fun _ => rfl) (fun a W H => ?_)
      have e11 : a.eval (.tmp 11) = .pointer (some ⟨gk, 0, none⟩) := (H.base 11 rfl).trans b11
      (simp only [execOp]; try simp only [Option.map]); (try simp only [List.map_toArray, List.map_cons, List.map_nil]); (simp only [e11]; go_simp)
    · refine Gr.ask_val trivial rfl (fun _ => rfl) (fun a W H => ?_)
      have e39 : a.eval (.tmp 39) = .pointer (some ⟨gk, 1, none⟩) := H.facts 39 rfl
      have hcell : W.cell? ⟨gk, 1, none⟩ = some (.int .i64 C.r) := by rw [cell_of_row _ _ _ _ _ _ (H.row hrk)]; rfl
      (simp only [execOp]; try simp only [Option.map]); (try simp only [List.map_toArray, List.map_cons, List.map_nil]); (simp only [e39]; go_simp)
    · refine Gr.ask_val trivial rfl (fun _ => rfl) (fun a W H => ?_)
      have e11 : a.eval (.tmp 11) = .pointer (some ⟨gk, 0, none⟩) := (H.base 11 rfl).trans b11
      (simp only [execOp]; try simp only [Option.map]); (try simp only [List.map_toArray, List.map_cons, List.map_nil]); (simp only [e11]; go_simp)
    · refine Gr.ask_val trivial rfl (fun _ => rfl) (fun a W H => ?_)
      have e41 : a.eval (.tmp 41) = .pointer (some ⟨gk, 2, none⟩) := H.facts 41 rfl
      have hcell : W.cell? ⟨gk, 2, none⟩ = some (.int .i64 C.s) := by rw [cell_of_row _ _ _ _ _ _ (H.row hrk)]; rfl
      (simp only [execOp]; try simp only [Option.map]); (try simp only [List.map_toArray, List.map_cons, List.map_nil]); (simp only [e41]; go_simp)
    · refine Gr.ask_val trivial rfl (fun _ => rfl) (fun a W H => ?_)
      have e13 : a.eval (.tmp 13) = .int .i64 (f : Nat) := (H.base 13 rfl).trans b13
      exact run_move rfl e13
    · refine Gr.ask_val trivial rfl (fun _ => rfl) (fun a W H => ?_)
      have e12 : a.eval (.tmp 12) = .pointer (some ⟨gx, 0, none⟩) := (H.base 12 rfl).trans b12
      exact Gr.run_load_row rfl e12 (H.row hrx) Try.underlying27 size27
    · refine Gr.ask_call hmono trivial Try.func21 rfl rfl rfl rfl (fun a W H => ?_)
      have e38 : a.eval (.tmp 38) = .slice ka C.bs.length kc := H.facts 38 rfl
      have e40 : a.eval (.tmp 40) = .int .i64 C.r := H.facts 40 rfl
      have e42 : a.eval (.tmp 42) = .int .i64 C.s := H.facts 42 rfl
      have e43 : a.eval (.tmp 43) = .int .i64 (f : Nat) := H.facts 43 rfl
      have e44 : a.eval (.tmp 44) = .agg XV := H.facts 44 rfl
      simp only [List.map_toArray, List.map_cons, List.map_nil, e38, e40, e42, e43, e44]
      refine (do_any (.slice ka C.bs.length kc) C.bs C.r C.s f (.agg XV) I m W (hK.below H.below) (hI.below H.below) (okay_cod hch (by omega)) hm hm2 hr hbl).mono ?_
      rintro e w' ⟨x, rfl, hO, hB⟩
      rw [heq] at hO
      exact ⟨x, rfl, hO.v, hB⟩
    · refine Gr.ask_val trivial rfl (fun _ => rfl) (fun a W H => ?_)
      have e11 : a.eval (.tmp 11) = .pointer (some ⟨gk, 0, none⟩) := (H.base 11 rfl).trans b11
      (simp only [execOp]; try simp only [Option.map]); (try simp only [List.map_toArray, List.map_cons, List.map_nil]); (simp only [e11]; go_simp)
    · refine Gr.ask_val trivial rfl (fun _ => rfl) (fun a W H => ?_)
      have e46 : a.eval (.tmp 46) = .pointer (some ⟨gk, 3, none⟩) := H.facts 46 rfl
      have hcell : W.cell? ⟨gk, 3, none⟩ = some (.slice ka C.bs.length kc) := by rw [cell_of_row _ _ _ _ _ _ (H.row hrk)]; rfl
      (simp only [execOp]; try simp only [Option.map]); (try simp only [List.map_toArray, List.map_cons, List.map_nil]); (simp only [e46]; go_simp)
    · refine Gr.ask_val trivial rfl (fun _ => rfl) (fun a W H => ?_)
      have e11 : a.eval (.tmp 11) = .pointer (some ⟨gk, 0, none⟩) := (H.base 11 rfl).trans b11
      (simp only [execOp]; try simp only [Option.map]); (try simp only [List.map_toArray, List.map_cons, List.map_nil]); (simp only [e11]; go_simp)
    · refine Gr.ask_val trivial rfl (fun _ => rfl) (fun a W H => ?_)
      have e48 : a.eval (.tmp 48) = .pointer (some ⟨gk, 1, none⟩) := H.facts 48 rfl
      have hcell : W.cell? ⟨gk, 1, none⟩ = some (.int .i64 C.r) := by rw [cell_of_row _ _ _ _ _ _ (H.row hrk)]; rfl
      (simp only [execOp]; try simp only [Option.map]); (try simp only [List.map_toArray, List.map_cons, List.map_nil]); (simp only [e48]; go_simp)
    · refine Gr.ask_val trivial rfl (fun _ => rfl) (fun a W H => ?_)
      have e11 : a.eval (.tmp 11) = .pointer (some ⟨gk, 0, none⟩) := (H.base 11 rfl).trans b11
      (simp only [execOp]; try simp only [Option.map]); (try simp only [List.map_toArray, List.map_cons, List.map_nil]); (simp only [e11]; go_simp)
    · refine Gr.ask_val trivial rfl (fun _ => rfl) (fun a W H => ?_)
      have e50 : a.eval (.tmp 50) = .pointer (some ⟨gk, 2, none⟩) := H.facts 50 rfl
      have hcell : W.cell? ⟨gk, 2, none⟩ = some (.int .i64 C.s) := by rw [cell_of_row _ _ _ _ _ _ (H.row hrk)]; rfl
      (simp only [execOp]; try simp only [Option.map]); (try simp only [List.map_toArray, List.map_cons, List.map_nil]); (simp only [e50]; go_simp)
    · refine Gr.ask_val trivial rfl (fun _ => rfl) (fun a W H => ?_)
      have e13 : a.eval (.tmp 13) = .int .i64 (f : Nat) := (H.base 13 rfl).trans b13
      exact run_move rfl e13
    · refine Gr.ask_val trivial rfl (fun _ => rfl) (fun a W H => ?_)
      have e12 : a.eval (.tmp 12) = .pointer (some ⟨gx, 0, none⟩) := (H.base 12 rfl).trans b12
      exact Gr.run_load_row rfl e12 (H.row hrx) Try.underlying27 size27
    · refine Gr.ask_call hmono trivial Try.func14 rfl rfl rfl rfl (fun a W H => ?_)
      have e47 : a.eval (.tmp 47) = .slice ka C.bs.length kc := H.facts 47 rfl
      have e49 : a.eval (.tmp 49) = .int .i64 C.r := H.facts 49 rfl
      have e51 : a.eval (.tmp 51) = .int .i64 C.s := H.facts 51 rfl
      have e52 : a.eval (.tmp 52) = .int .i64 (f : Nat) := H.facts 52 rfl
      have e53 : a.eval (.tmp 53) = .agg XV := H.facts 53 rfl
      simp only [List.map_toArray, List.map_cons, List.map_nil, e47, e49, e51, e52, e53]
      refine (play_any (.slice ka C.bs.length kc) C.bs C.r C.s f (.agg XV) I n W (hK.below H.below) (hI.below H.below) hok hn hn2 hr hbl hargs hfu).mono ?_
      rintro e w' ⟨x, rfl, hO, hB⟩
      exact ⟨x, rfl, hO.v, hB⟩
    · refine Gr.ask_call hmono trivial Try.func13 rfl rfl rfl rfl (fun a W H => ?_)
      have e45 : OutV W (a.eval (.tmp 45)) (play C.r C.bs 0 (st0 n (f : Int) I)) := H.facts 45 rfl
      have e54 : OutV W (a.eval (.tmp 54)) (play C.r C.bs 0 (st0 n (f : Int) I)) := H.facts 54 rfl
      simp only [List.map_toArray, List.map_cons, List.map_nil]
      refine (same_any _ _ _ W e45 e54).mono ?_
      rintro e w' ⟨rfl, hB⟩
      exact ⟨_, rfl, rfl, hB⟩
    · refine Gr.ask_val trivial rfl (fun _ => rfl) (fun a W H => ?_)
      have e55 : a.eval (.tmp 55) = .bool (true) := H.facts 55 rfl
      exact run_assign rfl e55
  · intro s W hB hs
    exact hend s W (hs 10 rfl) hB
set_option maxRecDepth 100000 in
open Go.ChangeShapes Go.WideShapes Go.ChangeAt Go.Deep in
theorem byts_in {H : Type} {enc : TypeId × Value → H} {W : World} {base : Nat} {v : Value} {d : DataW H} {p : List MemPlace} (o : Value.okWide Try.prog W .any base 22 v) (k : DataW.Trod enc Try.prog W 0 (fun _ => true) true 22 v d p) : ∃ xs, Byt W v xs := by
  obtain ⟨fuel, hf⟩ := k
  obtain ⟨ao, n, c, rfl⟩ := okWide_slice Try.underlying22 o
  exact byt_of (by simpa [Value.cells] using hf)
set_option maxHeartbeats 4000000 in
set_option maxRecDepth 100000 in
theorem does_walk (v0 v1 mv : Value) (sa sb sc : Int) (bs : List Int) (rg sl : Int) (ms : List Int) (I : Inp) (w : World) (hS : SpecV w v0 sa sb sc bs) (hI : InpV w v1 I) (hrg : 0 ≤ rg ∧ rg < 256) (hsl : 0 ≤ sl ∧ sl < 256) (hmv : Byt w mv ms) : Calls Try.prog 5 #[v0, .int .u8 rg, .int .u8 sl, mv, v1] w fun e w' => e = .returned (.bool true) ∧ Below w.heap.size w w' := by
  have hS' := hS
  obtain ⟨u, rfl, hsa, hsb, hsc, hu⟩ := hS'
  have hI' := hI
  obtain ⟨a, b, c, rfl, ha, hm, hc⟩ := hI'
  obtain ⟨ua, uc, rfl⟩ := hu.slice
  obtain ⟨aa, ac, rfl⟩ := ha.slice
  obtain ⟨ba, bc, rfl⟩ := hm.slice
  obtain ⟨ca, cc, rfl⟩ := hc.slice
  obtain ⟨va, vc, rfl⟩ := hmv.slice
  have hbox := law_box w (.int .u8 sa) (.int .u8 sb) (.int .u8 sc) (.slice ua bs.length uc) (.slice aa I.args.length ac) (.slice ba I.mem.length bc) (.slice ca I.ans.length cc) (.int .i64 I.fuel)
  have HA := hide (awake_any ((w.alloc (.cells #[.int .u8 sa, .int .u8 sb, .int .u8 sc, .slice ua bs.length uc] 24)).alloc (.cells #[.slice aa I.args.length ac, .slice ba I.mem.length bc, .slice ca I.ans.length cc, .int .i64 I.fuel] 27)))
  have HBOX := hide hbox
  clear hbox ha hm hc hu hsa hsb hsc
  go_enter Try.func5, Try.ntmps5
  go_wp2_with fail
  refine HA.out.mono ?_
  rintro e W1 ⟨rfl, hB1⟩
  obtain ⟨s0, s1, s2, s3, i0, i1, i2, i3, hBw⟩ := HBOX.out W1 hB1
  clear HBOX HA hB1
  have HM := hide (made5_any _ sa sb sc bs rg sl _ ms W1 (hS.below hBw) hrg hsl (hmv.below hBw))
  have HI1 := hide (hI.below hBw)
  have HB1 := hide hBw
  clear hS hI hBw hmv
  go_wp2_with fail
  refine HM.out.mono ?_
  rintro e W2 ⟨C, ub, rfl, hO, hch, hins, hB2⟩
  obtain ⟨fa, fc, rfl⟩ := hO.v.slice
  have hch1 := (mchk_all (C := C) (by rw [hch])).1
  simp only [msz, decide_eq_true_eq] at hch1
  obtain ⟨pn, hpn⟩ : ∃ pn : Nat, C.p = (pn : Int) := ⟨C.p.toNat, by omega⟩
  have HCH := hide (And.intro hch (And.intro hch1 hpn))
  have j0 := cell_below hB2 i0
  have j1 := cell_below hB2 i1
  have j2 := cell_below hB2 i2
  have j3 := cell_below hB2 i3
  clear HM s0 s1 s2 s3 i0 i1 i2 i3
  have hBf := bel1' W2 (.cells #[.int .i64 C.p, .int .i64 C.r, .int .i64 C.s, .slice fa C.bs.length fc] 54)
  have HV := hide (hO.v.below hBf)
  have HB3 := hide (bel_of HB1.out (bel_of hB2 hBf))
  have hIf := (HI1.out.below hB2).below hBf
  have HIN : Hid (Calls Try.prog 11 #[.agg #[.slice aa I.args.length ac, .slice ba I.mem.length bc, .slice ca I.ans.length cc, .int .i64 I.fuel], .int .i64 C.p] (W2.alloc (.cells #[.int .i64 C.p, .int .i64 C.r, .int .i64 C.s, .slice fa C.bs.length fc] 54)) fun e w' => ∃ x, e = .returned x ∧ InpV w' x (inpOf I pn) ∧ Below (W2.alloc (.cells #[.int .i64 C.p, .int .i64 C.r, .int .i64 C.s, .slice fa C.bs.length fc] 54)).heap.size (W2.alloc (.cells #[.int .i64 C.p, .int .i64 C.r, .int .i64 C.s, .slice fa C.bs.length fc] 54)) w') := by
    rw [hpn] at hIf ⊢
    exact input_any _ I pn _ hIf (by omega)
  have j0 := cell_below hBf j0
  have j1 := cell_below hBf j1
  have j2 := cell_below hBf j2
  have j3 := cell_below hBf j3
  have HRF := hide (heap_alloc_new W2 (.cells #[.int .i64 C.p, .int .i64 C.r, .int .i64 C.s, .slice fa C.bs.length fc] 54))
  clear hO hB2 hBf hIf HI1 HB1 hpn hch hch1 hins
  go_wp2_with fail
  refine HIN.out.mono ?_
  clear HIN j0 j1 j2 j3
  generalize W2.alloc (.cells #[.int .i64 C.p, .int .i64 C.r, .int .i64 C.s, .slice fa C.bs.length fc] 54) = A2 at *
  generalize W2.heap.size = gf at *
  rintro e W3 ⟨x, rfl, hX, hB3⟩
  have hX' := hX
  obtain ⟨x0, x1, x2, rfl, hx0, hx1, hx2⟩ := hX'
  obtain ⟨xa, xac, rfl⟩ := hx0.slice
  obtain ⟨xb, xbc, rfl⟩ := hx1.slice
  obtain ⟨xc, xcc, rfl⟩ := hx2.slice
  have hfu : 0 ≤ (inpOf I pn).fuel ∧ (inpOf I pn).fuel < 400 := by rw [show (inpOf I pn).fuel = (I.fuel % 18446744073709551616) % 400 from rfl]; omega
  have hxl : Hid ((inpOf I pn).args.length = pn) := argsOf_len _ _
  generalize inpOf I pn = X at *
  have hfr : W3.heap[gf]? = _ := (hB3.block gf (Array.getElem?_eq_some_iff.1 HRF.out).1).trans HRF.out
  have hbb := bel1' W3 (.cells #[.slice xa X.args.length xac, .slice xb X.mem.length xbc, .slice xc X.ans.length xcc, .int .i64 X.fuel] 27)
  have hfr3 := (hbb.block gf (Array.getElem?_eq_some_iff.1 hfr).1).trans hfr
  obtain ⟨g0, g1, g2, g3⟩ : (W3.alloc (.cells #[.slice xa X.args.length xac, .slice xb X.mem.length xbc, .slice xc X.ans.length xcc, .int .i64 X.fuel] 27)).cell? ⟨gf, 0, none⟩ = some (.int .i64 C.p) ∧ (W3.alloc (.cells #[.slice xa X.args.length xac, .slice xb X.mem.length xbc, .slice xc X.ans.length xcc, .int .i64 X.fuel] 27)).cell? ⟨gf, 1, none⟩ = some (.int .i64 C.r) ∧ (W3.alloc (.cells #[.slice xa X.args.length xac, .slice xb X.mem.length xbc, .slice xc X.ans.length xcc, .int .i64 X.fuel] 27)).cell? ⟨gf, 2, none⟩ = some (.int .i64 C.s) ∧ (W3.alloc (.cells #[.slice xa X.args.length xac, .slice xb X.mem.length xbc, .slice xc X.ans.length xcc, .int .i64 X.fuel] 27)).cell? ⟨gf, 3, none⟩ = some (.slice fa C.bs.length fc) := by
    refine ⟨?_, ?_, ?_, ?_⟩
    all_goals (rw [cell_of_row _ _ _ _ _ _ hfr3]; rfl)
  have HXA := hide (hX.below hbb)
  have HRX := hide (heap_alloc_new W3 (.cells #[.slice xa X.args.length xac, .slice xb X.mem.length xbc, .slice xc X.ans.length xcc, .int .i64 X.fuel] 27))
  have HRF3 := hide hfr3
  have HB4 := hide (bel_of HB3.out (bel_of hB3 hbb))
  have HV3 := hide ((HV.out.below hB3).below hbb)
  obtain ⟨hch, hch1, hpn⟩ := HCH.out
  obtain ⟨dv, hdv⟩ : ∃ dv : Int, C.r + C.s - C.p + 1 = dv := ⟨_, rfl⟩
  have hdv1 : 0 < dv ∧ dv ≤ 100 := by omega
  have hdz : (dv == 0) = false := by rw [beq_eq_false_iff_ne]; omega
  obtain ⟨f, hf, hf2⟩ := nat_of (show 0 ≤ sl % dv ∧ sl % dv < ((100 : Nat) : Int) from ⟨Int.emod_nonneg _ (by omega), by have := Int.emod_lt_of_pos sl hdv1.1; omega⟩)
  have hft : sl.tmod dv = (f : Int) := by rw [Int.tmod_eq_emod_of_nonneg hsl.1]; exact hf
  have hflt : (f : Int) < dv := by rw [← hf]; exact Int.emod_lt_of_pos sl hdv1.1
  have HF := hide (And.intro hflt hdv)
  have hb1 : C.r + C.s ≤ 100 := by omega
  have hb2 : 0 ≤ C.r + C.s := by omega
  have hb3 : C.r + C.s - C.p ≤ 100 := by omega
  have hb4 : 0 ≤ C.r + C.s - C.p := by omega
  clear hX hx0 hx1 hx2 hB3 hfr hbb HRF HB3 HV hfr3 hf hch hch1 hpn hflt
  go_wp2_with fail
  obtain ⟨hch, hch1, hpn⟩ := HCH.out
  obtain ⟨hflt, hdv⟩ := HF.out
  have hxl := hxl.out
  obtain ⟨n, hn⟩ : ∃ n : Nat, C.r + C.s = (n : Int) := ⟨(C.r + C.s).toNat, by omega⟩
  have hrm : 0 ≤ rm C.bs C.s ∧ rm C.bs C.s ≤ C.s := by unfold rm; omega
  obtain ⟨m, hm⟩ : ∃ m : Nat, C.r + rm C.bs C.s = (m : Int) := ⟨(C.r + rm C.bs C.s).toNat, by omega⟩
  have hokm : Okay C.r m C.bs := okay_cod hch (by omega)
  have heq : play C.r C.bs 0 (st0 m (f : Int) X) = play C.r C.bs 0 (st0 n (f : Int) X) := by
    rw [st0_cut (show m ≤ n by omega) (by omega)]
    exact play_cut hokm (by omega) _ 0 _ (Nat.lt_succ_self _) (by omega)
  refine rd6_ok (gk := gf) (gx := W3.heap.size) (f := f) (C := C) (I := X) (n := n) (m := m) rfl rfl rfl rfl HRF3.out HRX.out (by kernel_rfl) HV3.out HXA.out hch (okay_cod hch (by omega)) hn (by omega) hm (by omega) ⟨by omega, by omega⟩ ⟨by omega, by omega⟩ (by omega) ⟨by omega, by omega⟩ heq ?_
  intro s W hs10 hBW
  have HBF := hide (bel_of HB4.out hBW)
  simp [overlay, dstsOf, ops_rd6_ok, hs10]
  clear hBW hs10 heq hokm hm hrm hn hxl hch hch1 hpn hflt hdv
  go_wp2_with fail
  go_ret
  exact ⟨rfl, HBF.out⟩
end Go.Proofs.Ytljnngblhfhhaaa
namespace Go.Proofs.Ytljnngblhfhhaaa.runDoes
open Go.ChangeShapes Go.WideShapes Go.ChangeAt Go.RowKit Ir
open Go.ChangeMaps (open_string shut_string)
set_option linter.unusedVariables false

theorem own : ownKnob Try.prog.godebug = none := by kernel_rfl
theorem laidOut : laidOutB Try.prog = true := by kernel_rfl


set_option maxRecDepth 100000 in
theorem walk {H : Type} {enc : TypeId × Value → H} (W : World) (base : Nat) (v0 v1 v2 v3 v4 : Value) {d0 d1 d2 d3 d4 : DataW H} {p0 p1 p2 p3 p4 : List MemPlace} (o0 : Value.okWide Try.prog W .any base 24 v0) (k0 : DataW.Trod enc Try.prog W 0 (fun _ => true) true 24 v0 d0 p0) (o1 : Value.okWide Try.prog W .any base 5 v1) (k1 : DataW.Trod enc Try.prog W 0 (fun _ => true) true 5 v1 d1 p1) (o2 : Value.okWide Try.prog W .any base 5 v2) (k2 : DataW.Trod enc Try.prog W 0 (fun _ => true) true 5 v2 d2 p2) (o3 : Value.okWide Try.prog W .any base 22 v3) (k3 : DataW.Trod enc Try.prog W 0 (fun _ => true) true 22 v3 d3 p3) (o4 : Value.okWide Try.prog W .any base 27 v4) (k4 : DataW.Trod enc Try.prog W 0 (fun _ => true) true 27 v4 d4 p4) :
    Calls Try.prog 5 #[v0, v1, v2, v3, v4] W fun e w' => e = .returned (.bool true) ∧ Below W.heap.size W w' := by
  obtain ⟨sa, sb, sc, bs, hS⟩ := spec_in o0 k0
  obtain ⟨rg, rfl, h10, h11⟩ := byte_in o1 k1
  obtain ⟨sl, rfl, h20, h21⟩ := byte_in o2 k2
  obtain ⟨ms, hms⟩ := byts_in o3 k3
  obtain ⟨I, hI⟩ := inp_in o4 k4
  exact does_walk v0 v4 v3 sa sb sc bs rg sl ms I W hS hI ⟨h10, h11⟩ ⟨h20, h21⟩ hms

set_option maxRecDepth 100000 in
theorem lifted (os : Os) (started : os.Started) (H : Type) (enc : TypeId × Value → H) :
    ReturnsInHanded {} Try.checked os 5 .any (Rows.runDoesSpec.pre6 enc Try.prog Try.f5 Rows.runDoesRow.domain false) (Rows.runDoesSpec.post enc Try.prog Try.f5 false true false false) := by
  refine returnsInHanded_of_change (C := Try.checked) own started (by kernel_rfl) Try.func5
    (ChangeSpec.witness6 (enc := enc) (C := Try.checked) false ⟨#[], #[.agg #[.int .u8 0, .int .u8 0, .int .u8 0, .slice none 0 0], .int .u8 0, .int .u8 0, .slice none 0 0, .agg #[.slice none 0 0, .slice none 0 0, .slice none 0 0, .int .i64 0]], []⟩ 8 (by kernel_rfl) (by kernel_rfl) (by kernel_rfl) (by kernel_rfl)) ?_
  intro W base args ds gs before hval0 hW hcnd _
  have hval : ∀ (j : Nat) t v, Try.f5.params[j]? = some t → args[j]? = some v → Value.okWide Try.prog W .any base t v := hval0
  have hW' := hW
  obtain ⟨p, q, hA0, hV, rfl, hfz, hnd⟩ := hW
  have hA : DataW.TrodAll enc Try.prog W 0 (fun _ => true) true Try.f5.params.toList args.toList ds p := hA0
  rw [Try.params5] at hA hval
  obtain ⟨v0, vs0, d0, ds0, p0, q0, hargs, rfl, rfl, h0, r0⟩ := trodAll_cons hA
  obtain ⟨v1, vs1, d1, ds1, p1, q1, rfl, rfl, rfl, h1, r1⟩ := trodAll_cons r0
  obtain ⟨v2, vs2, d2, ds2, p2, q2, rfl, rfl, rfl, h2, r2⟩ := trodAll_cons r1
  obtain ⟨v3, vs3, d3, ds3, p3, q3, rfl, rfl, rfl, h3, r3⟩ := trodAll_cons r2
  obtain ⟨v4, vs4, d4, ds4, p4, q4, rfl, rfl, rfl, h4, r4⟩ := trodAll_cons r3
  obtain ⟨rfl, rfl, rfl⟩ := trodAll_nil r4
  obtain rfl : args = #[v0, v1, v2, v3, v4] := by cases args; simp_all
  obtain ⟨rfl, rfl⟩ := trodVars_none hV
  have lt0 : ∀ x ∈ p0, x.block < W.heap.size := by obtain ⟨m, hm⟩ := h0; exact DataW.trod_lt m _ _ _ hm
  have lt1 : ∀ x ∈ p1, x.block < W.heap.size := by obtain ⟨m, hm⟩ := h1; exact DataW.trod_lt m _ _ _ hm
  have lt2 : ∀ x ∈ p2, x.block < W.heap.size := by obtain ⟨m, hm⟩ := h2; exact DataW.trod_lt m _ _ _ hm
  have lt3 : ∀ x ∈ p3, x.block < W.heap.size := by obtain ⟨m, hm⟩ := h3; exact DataW.trod_lt m _ _ _ hm
  have lt4 : ∀ x ∈ p4, x.block < W.heap.size := by obtain ⟨m, hm⟩ := h4; exact DataW.trod_lt m _ _ _ hm
  refine (walk W base v0 v1 v2 v3 v4 (hval 0 24 v0 rfl rfl) h0 (hval 1 5 v1 rfl rfl) h1 (hval 2 5 v2 rfl rfl) h2 (hval 3 22 v3 rfl rfl) h3 (hval 4 27 v4 rfl rfl) h4).mono fun e W' ⟨he, bel⟩ => ?_
  subst he
  exact ⟨_, rfl, _, _, _, [], _, [], hW', trodAll_mk1 (shut_bool Try.underlying4 _), (trodAll_cons_mk (Below.trod laidOut (by kernel_rfl) (of_decide_eq_true (by kernel_rfl)) h0 bel lt0) (trodAll_cons_mk (Below.trod laidOut (by kernel_rfl) (of_decide_eq_true (by kernel_rfl)) h1 bel lt1) (trodAll_cons_mk (Below.trod laidOut (by kernel_rfl) (of_decide_eq_true (by kernel_rfl)) h2 bel lt2) (trodAll_cons_mk (Below.trod laidOut (by kernel_rfl) (of_decide_eq_true (by kernel_rfl)) h3 bel lt3) (trodAll_cons_mk (Below.trod laidOut (by kernel_rfl) (of_decide_eq_true (by kernel_rfl)) h4 bel lt4) trodAll_mk0))))), rfl, bel.frame _, fun h => by cases h⟩

theorem over : Rows.runDoesRow.holds Try.pinned (OpenSpec.ofChange Rows.runDoesSpec) :=
  OpenClaim.holds_of_wide 5 Try.f5 rfl rfl rfl rfl rfl rfl rfl ⟨rfl, rfl, rfl, rfl, rfl⟩ rfl rfl rfl rfl rfl (by kernel_rfl) Try.func5 (by kernel_rfl)
    (of_decide_eq_true (by kernel_rfl)) (by unfold Func.isWrapper; first | (rw [if_pos (by decide +kernel)]; kernel_rfl) | (rw [if_neg (by decide +kernel)]; exact ⟨rfl, rfl⟩))
    (fun os started H enc _ => lifted os started H enc)

end Go.Proofs.Ytljnngblhfhhaaa.runDoes
namespace Go.Proofs.Ytljnngblhfhhaaa
theorem runDoes_holds : Rows.RunDoesSaid := runDoes.over
#print axioms runDoes_holds
end Go.Proofs.Ytljnngblhfhhaaa
