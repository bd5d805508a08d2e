/- FlowSets: its problem, its marks' memory, its drawn region. -/
import Derived.Test.YtblcbccchlljhaaRs
namespace Go.Proofs.Ytblcbccchlljhaa
open Go.RowKit Ir Wy

theorem sets_short (n : Nat) (bs : List Int) (a : Nat) : (ci (mkL n bs bs.length a)).length ≤ 1000 := by
  rw [List.length_map]
  have := (mkL_len n bs bs.length a).2
  omega
theorem info4w : (Try.prog.info? 4).map (fun i => (i.zero, i.size, i.bytes)) = some (some (.bool false), 1, 1) := by kernel_rfl
/-- In, of numbers. -/
theorem in_nat (u : Value) (xs : List Nat) (y : Nat) (w : World) (h : IntsV w u (ci xs)) (hl : (ci xs).length ≤ 1000) :
    Calls Try.prog 18 #[u, .int .i64 (y : Int)] w fun e w' => e = .returned (.bool (decide (y ∈ xs))) ∧ w' = w := by
  refine (in_any u (ci xs) (y : Int) w h (by omega)).mono ?_
  rintro e w' ⟨rfl, rfl⟩
  refine ⟨?_, rfl⟩
  congr 2
  exact decide_eq_decide.2 (ci_mem xs y)
/-- In, of a block's marks. -/
theorem tab_in {w : World} {p n : Nat} {bs : List Int} (h : TabV w p n (fun b => ci (mkL n bs bs.length b))) : ∃ g, w.heap[p]? = some (.cells #[.slice (some ⟨g, 0, none⟩) n n] 30 (0, 0)) ∧ ∀ a, a < n → ∃ u, w.cell? ⟨g, a, none⟩ = some u ∧ ∀ y : Nat, Calls Try.prog 18 #[u, .int .i64 (y : Int)] w fun e w' => e = .returned (.bool (mset n bs a y)) ∧ w' = w := by
  obtain ⟨g, h1, h2⟩ := h
  refine ⟨g, h1, fun a ha => ?_⟩
  obtain ⟨u, h3, h4⟩ := h2 a ha
  refine ⟨u, h3, fun y => ?_⟩
  rw [mset_mem]
  exact in_nat u _ y w h4 (sets_short n bs a)
/-- FlowSets' problem, solved. -/
theorem sets_solve {W : World} {back : Bool} {pb p6 p7 cl fb : Nat} {al : Option Addr} {es : List En} {ms cs : List Int} (hvF : fromV back pb = .func (.func fb) #[] #[.pointer (some ⟨pb, 0, none⟩)]) (hin : EndsIn es) (h0 : 0 < es.length) (h7 : es.length ≤ 7) (hp : W.heap[pb]? = some (.cells #[.slice al es.length cl] 26 (0, 0))) (hE : EndsV W (.slice al es.length cl) es) (tl : TabV W p7 es.length (fun b => ci (mkL es.length cs cs.length b))) (tm : TabV W p6 es.length (fun b => ci (mkL es.length ms ms.length b))) :
    Calls Try.prog 11 #[.agg #[.int .i64 (es.length : Int), .func (.func fb) #[] #[.pointer (some ⟨pb, 0, none⟩)], .func (.func 12) #[] #[], .func (.func 13) #[] #[], .func (.func 14) #[] #[.pointer (some ⟨p7, 0, none⟩), .pointer (some ⟨p6, 0, none⟩)]]] W fun e w' => ∃ g cap fs, e = .returned (.slice (some ⟨g, 0, none⟩) es.length cap) ∧ W.heap.size ≤ g ∧ (sP back es (fun _ _ => false) ms cs).Come fs ∧ (sP back es (fun _ _ => false) ms cs).Still fs ∧ S.FactsAt w' g es.length fs ∧ Below W.heap.size W w' := by
  rw [← hvF]
  exact sP_solve W back pb es ms cs (fun _ _ => false) hin h0 h7 (fun _ _ h => by cases h) (sP_fns W back pb p7 p6 al cl es ms cs (fun _ _ => false) _ _ hin h7 hp hE tl tm
    (fun W _ b _ => callV_func Try.func12 rfl rfl (zero12 (b : Int) W))
    (fun a v f W hv tl tm ha => callV_func Try.func14 rfl rfl (pass14 es.length a v f _ _ _ _ W hv tl tm ha (sets_short _ cs a) (sets_short _ ms a)))) rfl rfl
/-- What its marks come to. -/
abbrev seedF (n : Nat) (ms : List Int) (y : Nat) : Nat → Bool := fun a => mset n ms a y
abbrev keepF (n : Nat) (cs : List Int) (y : Nat) : Nat → Bool := fun a => !mset n cs a y
theorem sets_end {back : Bool} {es : List En} {ms cs : List Int} {fs : Nat → Nat → Bool} (hin : EndsIn es) (hc : (sP back es (fun _ _ => false) ms cs).Come fs) (hs : (sP back es (fun _ _ => false) ms cs).Still fs) (y b : Nat) (hb : b < es.length) : fs b y = Fl.mks (seedF es.length ms y) (keepF es.length cs y) (frmE back es) es.length es.length b :=
  Fl.sets_marks (sP_fit (back := back) hin (fun _ _ h => by cases h) ms) hc hs y b hb
/-- New marks. -/
theorem run_marks {w w' : World} {n : Nat} (h : w'.ownsRow w.heap.size 4 1 (.slice (some ⟨w.heap.size, 0, none⟩) n n) n (madeCells (Value.bool false).cells (n * 1)).toList) (hg : w.grownBy w' none) : BoolsAt w' w.heap.size n (fun _ => false) ∧ Below w.heap.size w w' :=
  ⟨bools_made h (fun i hi => by
    have : (madeCells #[Value.bool false] n).toList[i]? = some (Value.bool false) := by simp [madeCells, hi, Nat.mod_one]
    rw [Nat.mul_one]
    exact this), ⟨hg.os, hg.tape, hg.output, hg.size, fun k hk => hg.block k hk (by simp)⟩⟩
/-- Block a marks block b, or doesn't. -/
theorem mkd_yes {seed keep o : Nat → Bool} {b a : Nat} (h : (seed a || (o a && keep a)) = true) : Fl.mkd seed keep o b a = mk o b := by
  funext x
  simp [Fl.mkd, mk, h]
theorem mkd_no {seed keep o : Nat → Bool} {b a : Nat} (h : (seed a || (o a && keep a)) = false) : Fl.mkd seed keep o b a = o := by
  funext x
  simp [Fl.mkd, h]
theorem fold_next {α : Type} (F : α → Nat → α) (l : List Nat) (o : α) {j : Nat} (hj : j < l.length) : (l.take (j + 1)).foldl F o = F ((l.take j).foldl F o) (l.getD j 0) := by
  rw [List.take_succ_eq_append_getElem hj, List.foldl_append, getD_get _ _ _ hj]
  rfl
theorem fold_range {α : Type} (F : α → Nat → α) (o : α) (b : Nat) : (List.range (b + 1)).foldl F o = F ((List.range b).foldl F o) b := by
  rw [List.range_succ, List.foldl_append]
  rfl
namespace S
def ops_s29 : Array Oper := #[⟨some 101, .move (.tmp 13), 35, "law.go:88", #[], none⟩, ⟨some 102, .move (.tmp 19), 3, "law.go:88", #[], none⟩, ⟨some 103, .indexAddr 35 (.tmp 101) (.tmp 102), 0, "law.go:88", #[⟨0, .data⟩, ⟨1, .data⟩], none⟩, ⟨some 104, .load 40 (.tmp 103), 40, "law.go:88", #[⟨2, .data⟩], none⟩, ⟨some 105, .move (.tmp 14), 3, "law.go:88", #[], none⟩, ⟨some 106, .call { callee := Callee.value (Operand.func 19), args := #[.tmp 104, .tmp 105], argTypes := #[40, 3] }, 4, "law.go:88", #[⟨3, .data⟩, ⟨4, .data⟩], none⟩, ⟨some 107, .move (.tmp 15), 52, "law.go:88", #[], none⟩, ⟨some 108, .move (.tmp 19), 3, "law.go:88", #[], none⟩, ⟨some 109, .indexAddr 52 (.tmp 107) (.tmp 108), 0, "law.go:88", #[⟨6, .data⟩, ⟨7, .data⟩], none⟩, ⟨some 110, .load 4 (.tmp 109), 4, "law.go:88", #[⟨8, .data⟩], none⟩, ⟨some 111, .binOp .neq 4 (.tmp 106) (.tmp 110) 4, 4, "law.go:88", #[⟨5, .data⟩, ⟨9, .data⟩], none⟩]
set_option maxHeartbeats 2000000 in
set_option maxRecDepth 100000 in
theorem s29_ok {Q : Exit → Act → World → Prop} {a0 : Act} {wa : World} (g n cap sb b y : Nat) (fs : Nat → Fc) (o : Nat → Bool) (hz : a0.tmps.size = 114) (b13 : a0.eval (.tmp 13) = .slice (some ⟨g, 0, none⟩) n cap) (b19 : a0.eval (.tmp 19) = .int .i64 (b : Int)) (b14 : a0.eval (.tmp 14) = .int .i64 (y : Int)) (b15 : a0.eval (.tmp 15) = .slice (some ⟨sb, 0, none⟩) n n) (hb : b < n) (hy : y < 4096) (hF : FactsAt wa g n fs) (hO : BoolsAt wa sb n o) (he : fs b y = o b)
    (hend : ∀ (s : Tmp → Value) (W : World), s 111 = .bool false → Below wa.heap.size wa W → Q .normal (overlay a0 (dstsOf ops_s29) s) W) : (Code.region 29 ops_s29 true).wp Try.prog Q a0 wa := by
  have hb' : (b : Int) < (n : Int) := by omega
  refine L3.wp_region_eachL (by kernel_rfl) (fun _ t v _ => (match t with | 101 => v = .slice (some ⟨g, 0, none⟩) n cap | 102 => v = .int .i64 (b : Int) | 103 => v = .pointer (some ⟨g, b * 64, none⟩) | 104 => FV v (fs b) | 105 => v = .int .i64 (y : Int) | 106 => v = .bool (fs b y) | 107 => v = .slice (some ⟨sb, 0, none⟩) n n | 108 => v = .int .i64 (b : Int) | 109 => v = .pointer (some ⟨sb, b, none⟩) | 110 => v = .bool (o b) | 111 => v = .bool false | _ => True)) (fun _ _ W => Below wa.heap.size wa W) (by rw [hz]; kernel_rfl) (Below.refl _ _).drew ?_ ?_
  · refine And.intro ?_ (And.intro ?_ (And.intro ?_ (And.intro ?_ (And.intro ?_ (And.intro ?_ (And.intro ?_ (And.intro ?_ (And.intro ?_ (And.intro ?_ (And.intro ?_ trivial))))))))))
    · exact L3.asked_any rfl fun l x W H => ⟨.slice (some ⟨g, 0, none⟩) n cap, W, Bg.ex_move rfl ((H.base 13 rfl).trans b13), (fun d hd => by cases hd; rfl), H.s, fun _ _ h => h⟩
    · exact L3.asked_any rfl fun l x W H => ⟨.int .i64 (b : Int), W, Bg.ex_move rfl ((H.base 19 rfl).trans b19), (fun d hd => by cases hd; rfl), H.s, fun _ _ h => h⟩
    · refine L3.asked_any rfl fun l x W H => ⟨.pointer (some ⟨g, b * 64, none⟩), W, ?_, (fun d hd => by cases hd; rfl), H.s, fun _ _ h => h⟩
      have e40 : x.eval (.tmp 101) = .slice (some ⟨g, 0, none⟩) n cap := H.facts 101 rfl
      have e41 : x.eval (.tmp 102) = .int .i64 (b : Int) := H.facts 102 rfl
      (simp only [execOp]; simp only [e40, e41]; go_simp)
    · refine L3.asked_any rfl fun l x W H => ?_
      have e45 : x.eval (.tmp 103) = .pointer (some ⟨g, b * 64, none⟩) := H.facts 103 rfl
      obtain ⟨cs, h1, h2⟩ := (hF.below H.s b hb : Bg.SetO W g (b * 64) (fs b)).load
      exact ⟨.agg cs, W, Bg.ex_load_o rfl e45 h2 h1.1, (fun d hd => by cases hd; exact ⟨cs, rfl, h1⟩), H.s, fun _ _ h => h⟩
    · exact L3.asked_any rfl fun l x W H => ⟨.int .i64 (y : Int), W, Bg.ex_move rfl ((H.base 14 rfl).trans b14), (fun d hd => by cases hd; rfl), H.s, fun _ _ h => h⟩
    · refine L3.asked_call rfl Try.func19 rfl rfl rfl rfl fun l x W H => ?_
      have e42 : x.eval (.tmp 105) = .int .i64 (y : Int) := H.facts 105 rfl
      have e46 : FV (x.eval (.tmp 104)) (fs b) := H.facts 104 rfl
      simp only [List.map_toArray, List.map_cons, List.map_nil, e42]
      refine (has_nat _ (fs b) y W e46 hy).mono ?_
      rintro e W' ⟨rfl, hB⟩
      exact ⟨_, rfl, rfl, bel_of H.s hB, fun _ _ h => h⟩
    · exact L3.asked_any rfl fun l x W H => ⟨.slice (some ⟨sb, 0, none⟩) n n, W, Bg.ex_move rfl ((H.base 15 rfl).trans b15), (fun d hd => by cases hd; rfl), H.s, fun _ _ h => h⟩
    · exact L3.asked_any rfl fun l x W H => ⟨.int .i64 (b : Int), W, Bg.ex_move rfl ((H.base 19 rfl).trans b19), (fun d hd => by cases hd; rfl), H.s, fun _ _ h => h⟩
    · refine L3.asked_any rfl fun l x W H => ⟨.pointer (some ⟨sb, b, none⟩), W, ?_, (fun d hd => by cases hd; rfl), H.s, fun _ _ h => h⟩
      have e40 : x.eval (.tmp 107) = .slice (some ⟨sb, 0, none⟩) n n := H.facts 107 rfl
      have e41 : x.eval (.tmp 108) = .int .i64 (b : Int) := H.facts 108 rfl
      (simp only [execOp]; simp only [e40, e41]; go_simp)
    · refine L3.asked_any rfl fun l x W H => ⟨.bool (o b), W, ?_, (fun d hd => by cases hd; rfl), H.s, fun _ _ h => h⟩
      have e45 : x.eval (.tmp 109) = .pointer (some ⟨sb, b, none⟩) := H.facts 109 rfl
      have hcell := ((hO.below H.s).cell b hb).1
      (simp only [execOp]; simp only [e45]; go_simp)
    · refine L3.asked_any rfl fun l x W H => ⟨.bool false, W, ?_, (fun d hd => by cases hd; rfl), H.s, fun _ _ h => h⟩
      have e1 : x.eval (.tmp 106) = .bool (fs b y) := H.facts 106 rfl
      have e2 : x.eval (.tmp 110) = .bool (o b) := H.facts 110 rfl
      rw [he] at e1
      generalize o b = q at *
      cases q <;> (simp only [execOp]; simp only [e1, e2]; go_simp)
  · intro l s W hall hS hs
    exact hend s W (hs 111 rfl) hS
end S
end Go.Proofs.Ytblcbccchlljhaa
