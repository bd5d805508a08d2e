/- BagSets: a cell of the model is stored anew: three regions that draw their order. -/
import Derived.Test.YtdeebmpmfedjbaaDoorRg
import Derived.Test.YtdeebmpmfedjbaaDoorSx
import Derived.Test.YtdeebmpmfedjbaaDoorM4
namespace Go.Proofs.YtdeebmpmfedjbaaDoor
open Go Go.RowKit Bag
set_option linter.unusedVariables false
structure S1 (n : Nat) (W0 W1 : World) (l : Nat → Bool) (W : World) : Prop where
  off : l n = false → W = W0
  on : l n = true → W = W1
theorem S1.skip {n j : Nat} {W0 W1 W : World} {l : Nat → Bool} (h : S1 n W0 W1 l W) (hj : n ≠ j) : S1 n W0 W1 (upd l j) W := by
  have e : upd l j n = l n := if_neg hj
  exact ⟨fun k => h.off (by rw [← e]; exact k), fun k => h.on (by rw [← e]; exact k)⟩
theorem S1.last {n : Nat} {W0 W1 W : World} {l : Nat → Bool} (h : S1 n W0 W1 l W) : S1 n W0 W1 (upd l n) W1 := by
  have e : upd l n n = true := if_pos rfl
  exact ⟨fun k => absurd (e.symm.trans k) (by decide), fun _ => rfl⟩
theorem S1.init {n : Nat} {W0 W1 : World} : S1 n W0 W1 (fun _ => false) W0 := ⟨fun _ => rfl, fun k => absurd k (by decide)⟩
theorem run_store_bool {ρ : Operand → Value} {o : Oper} {w : World} {x y : Operand} {g i : Nat} {v v0 : Bool} (ho : o.op = .store 4 x y) (hx : ρ x = .pointer (some ⟨g, i, none⟩)) (hy : ρ y = .bool v) (hc : w.cell? ⟨g, i, none⟩ = some (.bool v0)) (hf : w.frozen? ⟨g, i, none⟩ = false) :
    (execOp ρ o).run Tryd.prog w = .ok .skip (w.setCell ⟨g, i, none⟩ (.bool v)) := by
  unfold execOp
  simp only [ho, hx, hy]
  go_simp
def ops_r28_t : Array Oper := #[⟨some 107, .move (.tmp 4), 28, "law.go:91", #[], none⟩, ⟨some 108, .move (.tmp 14), 3, "law.go:91", #[], none⟩, ⟨some 109, .move (.tmp 4), 28, "law.go:91", #[], none⟩, ⟨some 110, .move (.tmp 14), 3, "law.go:91", #[], none⟩, ⟨some 111, .nilCheck (.tmp 109), 0, "law.go:91", #[⟨2, .data⟩], none⟩, ⟨some 112, .indexAddr 30 (.tmp 111) (.tmp 110), 0, "law.go:91", #[⟨4, .data⟩, ⟨3, .data⟩], none⟩, ⟨some 113, .load 4 (.tmp 112), 4, "law.go:91", #[⟨5, .data⟩], none⟩, ⟨some 114, .move (.tmp 113), 4, "law.go:91", #[⟨6, .data⟩], none⟩, ⟨some 115, .move (.tmp 11), 28, "law.go:91", #[⟨7, .guard⟩], some (7, false)⟩, ⟨some 116, .move (.tmp 14), 3, "law.go:91", #[⟨7, .guard⟩], some (7, false)⟩, ⟨some 117, .nilCheck (.tmp 115), 0, "law.go:91", #[⟨8, .data⟩, ⟨7, .guard⟩], some (7, false)⟩, ⟨some 118, .indexAddr 30 (.tmp 117) (.tmp 116), 0, "law.go:91", #[⟨10, .data⟩, ⟨9, .data⟩, ⟨7, .guard⟩], some (7, false)⟩, ⟨some 119, .load 4 (.tmp 118), 4, "law.go:91", #[⟨11, .data⟩, ⟨7, .guard⟩], some (7, false)⟩, ⟨some 120, .pick (.tmp 114) (.const (.bool true)) (.tmp 119), 4, "law.go:91", #[⟨7, .data⟩, ⟨12, .data⟩], none⟩, ⟨some 121, .nilCheck (.tmp 107), 0, "law.go:91", #[⟨0, .data⟩], none⟩, ⟨some 122, .indexAddr 30 (.tmp 121) (.tmp 108), 0, "law.go:91", #[⟨14, .data⟩, ⟨1, .data⟩, ⟨0, .phase⟩, ⟨1, .phase⟩, ⟨2, .phase⟩, ⟨3, .phase⟩, ⟨4, .phase⟩, ⟨5, .phase⟩, ⟨6, .phase⟩, ⟨7, .phase⟩, ⟨8, .phase⟩, ⟨9, .phase⟩, ⟨10, .phase⟩, ⟨11, .phase⟩, ⟨12, .phase⟩, ⟨13, .phase⟩], none⟩, ⟨none, .store 4 (.tmp 122) (.tmp 120), 0, "law.go:91", #[⟨15, .data⟩, ⟨13, .data⟩, ⟨7, .chain⟩, ⟨0, .phase⟩, ⟨1, .phase⟩, ⟨2, .phase⟩, ⟨3, .phase⟩, ⟨4, .phase⟩, ⟨5, .phase⟩, ⟨6, .phase⟩, ⟨7, .phase⟩, ⟨8, .phase⟩, ⟨9, .phase⟩, ⟨10, .phase⟩, ⟨11, .phase⟩, ⟨12, .phase⟩, ⟨13, .phase⟩], none⟩]
def G_r28_t (gm gw i : Nat) (gv : Bool) : Tmp → Value → Prop
  | 107, xx => xx = .pointer (some ⟨gm, 0, none⟩)
  | 108, xx => xx = .int .i64 (i : Nat)
  | 109, xx => xx = .pointer (some ⟨gm, 0, none⟩)
  | 110, xx => xx = .int .i64 (i : Nat)
  | 111, xx => xx = .pointer (some ⟨gm, 0, none⟩)
  | 112, xx => xx = .pointer (some ⟨gm, i, none⟩)
  | 113, xx => xx = .bool true
  | 114, xx => xx = .bool true
  | 115, xx => xx = undef
  | 116, xx => xx = undef
  | 117, xx => xx = undef
  | 118, xx => xx = undef
  | 119, xx => xx = undef
  | 120, xx => xx = .bool true
  | 121, xx => xx = .pointer (some ⟨gm, 0, none⟩)
  | 122, xx => xx = .pointer (some ⟨gm, i, none⟩)
  | _, _ => True
set_option maxHeartbeats 4000000 in
set_option maxRecDepth 100000 in
theorem r28_t {Q : Exit → Act → World → Prop} {a0 : Act} {wa : World} (gm gw i : Nat) (gv : Bool) (hz : a0.tmps.size = 240) (b4 : a0.eval (.tmp 4) = .pointer (some ⟨gm, 0, none⟩)) (b14 : a0.eval (.tmp 14) = .int .i64 (i : Nat)) (b11 : a0.eval (.tmp 11) = .pointer (some ⟨gw, 0, none⟩)) (hx : i < 4096) (hc : wa.drew.cell? ⟨gm, i, none⟩ = some (.bool true)) (hcf : wa.drew.frozen? ⟨gm, i, none⟩ = false) (hw : wa.drew.cell? ⟨gw, i, none⟩ = some (.bool gv))
    (hend : ∀ (s : Tmp → Value), Q .normal (overlay a0 (dstsOf ops_r28_t) s) (wa.drew.setCell ⟨gm, i, none⟩ (.bool true))) : (Code.region 28 ops_r28_t true).wp Tryd.prog Q a0 wa := by
  refine L.wp_region_eachL (by kernel_rfl) (fun _ t v _ => G_r28_t gm gw i gv t v) (fun l W => S1 16 wa.drew (wa.drew.setCell ⟨gm, i, none⟩ (.bool true)) l W) (by rw [hz]; kernel_rfl) (S1.init) ?_ ?_
  · refine And.intro ?_ (And.intro ?_ (And.intro ?_ (And.intro ?_ (And.intro ?_ (And.intro ?_ (And.intro ?_ (And.intro ?_ (And.intro ?_ (And.intro ?_ (And.intro ?_ (And.intro ?_ (And.intro ?_ (And.intro ?_ (And.intro ?_ (And.intro ?_ (And.intro ?_ trivial))))))))))))))))
    · refine ask_v rfl rfl (fun l a W H => ⟨_, W, ?_, rfl, H.s.skip (by decide)⟩)
      have e4 : a.eval (.tmp 4) = .pointer (some ⟨gm, 0, none⟩) := (H.base 4 rfl).trans b4
      exact ex_move rfl e4
    · refine ask_v rfl rfl (fun l a W H => ⟨_, W, ?_, rfl, H.s.skip (by decide)⟩)
      have e14 : a.eval (.tmp 14) = .int .i64 (i : Nat) := (H.base 14 rfl).trans b14
      exact ex_move rfl e14
    · refine ask_v rfl rfl (fun l a W H => ⟨_, W, ?_, rfl, H.s.skip (by decide)⟩)
      have e4 : a.eval (.tmp 4) = .pointer (some ⟨gm, 0, none⟩) := (H.base 4 rfl).trans b4
      exact ex_move rfl e4
    · refine ask_v rfl rfl (fun l a W H => ⟨_, W, ?_, rfl, H.s.skip (by decide)⟩)
      have e14 : a.eval (.tmp 14) = .int .i64 (i : Nat) := (H.base 14 rfl).trans b14
      exact ex_move rfl e14
    · refine ask_v rfl rfl (fun l a W H => ⟨_, W, ?_, rfl, H.s.skip (by decide)⟩)
      have e109 : a.eval (.tmp 109) = .pointer (some ⟨gm, 0, none⟩) := H.facts 109 rfl
      (simp only [execOp]; try simp only [Option.map]); (try simp only [List.map_toArray, List.map_cons, List.map_nil]); (simp only [e109]; go_simp)
    · refine ask_v rfl rfl (fun l a W H => ⟨_, W, ?_, rfl, H.s.skip (by decide)⟩)
      have e111 : a.eval (.tmp 111) = .pointer (some ⟨gm, 0, none⟩) := H.facts 111 rfl
      have e110 : a.eval (.tmp 110) = .int .i64 (i : Nat) := H.facts 110 rfl
      have hx' : (i : Int) < 4096 := by omega
      (simp only [execOp]; try simp only [Option.map]); (try simp only [List.map_toArray, List.map_cons, List.map_nil]); (simp only [e111, e110]; go_simp)
    · refine ask_v rfl rfl (fun l a W H => ⟨_, W, ?_, rfl, H.s.skip (by decide)⟩)
      have e112 : a.eval (.tmp 112) = .pointer (some ⟨gm, i, none⟩) := H.facts 112 rfl
      have n16 : l 16 = false := Bool.eq_false_iff.2 fun hs => absurd (H.new.symm.trans (H.closed 16 6 (by rfl) hs)) (by decide)
      obtain rfl := H.s.off n16
      have hcm := hc
      (simp only [execOp]; try simp only [Option.map]); (try simp only [List.map_toArray, List.map_cons, List.map_nil]); (simp only [e112]; go_simp)
    · refine ask_v rfl rfl (fun l a W H => ⟨_, W, ?_, rfl, H.s.skip (by decide)⟩)
      have e113 : a.eval (.tmp 113) = .bool true := H.facts 113 rfl
      exact ex_move rfl e113
    · refine ask_no ⟨114, rfl, rfl, fun _ h => h⟩ (fun d h => by cases h; exact rfl) (fun _ _ h => h.skip (by decide))
    · refine ask_no ⟨114, rfl, rfl, fun _ h => h⟩ (fun d h => by cases h; exact rfl) (fun _ _ h => h.skip (by decide))
    · refine ask_no ⟨114, rfl, rfl, fun _ h => h⟩ (fun d h => by cases h; exact rfl) (fun _ _ h => h.skip (by decide))
    · refine ask_no ⟨114, rfl, rfl, fun _ h => h⟩ (fun d h => by cases h; exact rfl) (fun _ _ h => h.skip (by decide))
    · refine ask_no ⟨114, rfl, rfl, fun _ h => h⟩ (fun d h => by cases h; exact rfl) (fun _ _ h => h.skip (by decide))
    · refine ask_v rfl rfl (fun l a W H => ⟨_, W, ?_, rfl, H.s.skip (by decide)⟩)
      have e114 : a.eval (.tmp 114) = .bool true := H.facts 114 rfl
      exact ex_pick1 rfl e114 rfl
    · refine ask_v rfl rfl (fun l a W H => ⟨_, W, ?_, rfl, H.s.skip (by decide)⟩)
      have e107 : a.eval (.tmp 107) = .pointer (some ⟨gm, 0, none⟩) := H.facts 107 rfl
      (simp only [execOp]; try simp only [Option.map]); (try simp only [List.map_toArray, List.map_cons, List.map_nil]); (simp only [e107]; go_simp)
    · refine ask_v rfl rfl (fun l a W H => ⟨_, W, ?_, rfl, H.s.skip (by decide)⟩)
      have e121 : a.eval (.tmp 121) = .pointer (some ⟨gm, 0, none⟩) := H.facts 121 rfl
      have e108 : a.eval (.tmp 108) = .int .i64 (i : Nat) := H.facts 108 rfl
      have hx' : (i : Int) < 4096 := by omega
      (simp only [execOp]; try simp only [Option.map]); (try simp only [List.map_toArray, List.map_cons, List.map_nil]); (simp only [e121, e108]; go_simp)
    · refine ask_s rfl rfl (fun l a W H => ?_)
      have n16 : l 16 = false := H.new
      have e122 : a.eval (.tmp 122) = .pointer (some ⟨gm, i, none⟩) := H.facts 122 rfl
      have e120 : a.eval (.tmp 120) = .bool true := H.facts 120 rfl
      obtain rfl := H.s.off n16
      exact ⟨_, run_store_bool rfl e122 e120 hc hcf, H.s.last⟩
  · intro l s W hall hS hs
    obtain rfl := hS.on (hall 16 (by decide))
    exact hend s

def ops_r28_f : Array Oper := #[⟨some 107, .move (.tmp 4), 28, "law.go:91", #[], none⟩, ⟨some 108, .move (.tmp 14), 3, "law.go:91", #[], none⟩, ⟨some 109, .move (.tmp 4), 28, "law.go:91", #[], none⟩, ⟨some 110, .move (.tmp 14), 3, "law.go:91", #[], none⟩, ⟨some 111, .nilCheck (.tmp 109), 0, "law.go:91", #[⟨2, .data⟩], none⟩, ⟨some 112, .indexAddr 30 (.tmp 111) (.tmp 110), 0, "law.go:91", #[⟨4, .data⟩, ⟨3, .data⟩], none⟩, ⟨some 113, .load 4 (.tmp 112), 4, "law.go:91", #[⟨5, .data⟩], none⟩, ⟨some 114, .move (.tmp 113), 4, "law.go:91", #[⟨6, .data⟩], none⟩, ⟨some 115, .move (.tmp 11), 28, "law.go:91", #[⟨7, .guard⟩], some (7, false)⟩, ⟨some 116, .move (.tmp 14), 3, "law.go:91", #[⟨7, .guard⟩], some (7, false)⟩, ⟨some 117, .nilCheck (.tmp 115), 0, "law.go:91", #[⟨8, .data⟩, ⟨7, .guard⟩], some (7, false)⟩, ⟨some 118, .indexAddr 30 (.tmp 117) (.tmp 116), 0, "law.go:91", #[⟨10, .data⟩, ⟨9, .data⟩, ⟨7, .guard⟩], some (7, false)⟩, ⟨some 119, .load 4 (.tmp 118), 4, "law.go:91", #[⟨11, .data⟩, ⟨7, .guard⟩], some (7, false)⟩, ⟨some 120, .pick (.tmp 114) (.const (.bool true)) (.tmp 119), 4, "law.go:91", #[⟨7, .data⟩, ⟨12, .data⟩], none⟩, ⟨some 121, .nilCheck (.tmp 107), 0, "law.go:91", #[⟨0, .data⟩], none⟩, ⟨some 122, .indexAddr 30 (.tmp 121) (.tmp 108), 0, "law.go:91", #[⟨14, .data⟩, ⟨1, .data⟩, ⟨0, .phase⟩, ⟨1, .phase⟩, ⟨2, .phase⟩, ⟨3, .phase⟩, ⟨4, .phase⟩, ⟨5, .phase⟩, ⟨6, .phase⟩, ⟨7, .phase⟩, ⟨8, .phase⟩, ⟨9, .phase⟩, ⟨10, .phase⟩, ⟨11, .phase⟩, ⟨12, .phase⟩, ⟨13, .phase⟩], none⟩, ⟨none, .store 4 (.tmp 122) (.tmp 120), 0, "law.go:91", #[⟨15, .data⟩, ⟨13, .data⟩, ⟨7, .chain⟩, ⟨0, .phase⟩, ⟨1, .phase⟩, ⟨2, .phase⟩, ⟨3, .phase⟩, ⟨4, .phase⟩, ⟨5, .phase⟩, ⟨6, .phase⟩, ⟨7, .phase⟩, ⟨8, .phase⟩, ⟨9, .phase⟩, ⟨10, .phase⟩, ⟨11, .phase⟩, ⟨12, .phase⟩, ⟨13, .phase⟩], none⟩]
def G_r28_f (gm gw i : Nat) (gv : Bool) : Tmp → Value → Prop
  | 107, xx => xx = .pointer (some ⟨gm, 0, none⟩)
  | 108, xx => xx = .int .i64 (i : Nat)
  | 109, xx => xx = .pointer (some ⟨gm, 0, none⟩)
  | 110, xx => xx = .int .i64 (i : Nat)
  | 111, xx => xx = .pointer (some ⟨gm, 0, none⟩)
  | 112, xx => xx = .pointer (some ⟨gm, i, none⟩)
  | 113, xx => xx = .bool false
  | 114, xx => xx = .bool false
  | 115, xx => xx = .pointer (some ⟨gw, 0, none⟩)
  | 116, xx => xx = .int .i64 (i : Nat)
  | 117, xx => xx = .pointer (some ⟨gw, 0, none⟩)
  | 118, xx => xx = .pointer (some ⟨gw, i, none⟩)
  | 119, xx => xx = .bool gv
  | 120, xx => xx = .bool gv
  | 121, xx => xx = .pointer (some ⟨gm, 0, none⟩)
  | 122, xx => xx = .pointer (some ⟨gm, i, none⟩)
  | _, _ => True
set_option maxHeartbeats 4000000 in
set_option maxRecDepth 100000 in
theorem r28_f {Q : Exit → Act → World → Prop} {a0 : Act} {wa : World} (gm gw i : Nat) (gv : Bool) (hz : a0.tmps.size = 240) (b4 : a0.eval (.tmp 4) = .pointer (some ⟨gm, 0, none⟩)) (b14 : a0.eval (.tmp 14) = .int .i64 (i : Nat)) (b11 : a0.eval (.tmp 11) = .pointer (some ⟨gw, 0, none⟩)) (hx : i < 4096) (hc : wa.drew.cell? ⟨gm, i, none⟩ = some (.bool false)) (hcf : wa.drew.frozen? ⟨gm, i, none⟩ = false) (hw : wa.drew.cell? ⟨gw, i, none⟩ = some (.bool gv))
    (hend : ∀ (s : Tmp → Value), Q .normal (overlay a0 (dstsOf ops_r28_f) s) (wa.drew.setCell ⟨gm, i, none⟩ (.bool gv))) : (Code.region 28 ops_r28_f true).wp Tryd.prog Q a0 wa := by
  refine L.wp_region_eachL (by kernel_rfl) (fun _ t v _ => G_r28_f gm gw i gv t v) (fun l W => S1 16 wa.drew (wa.drew.setCell ⟨gm, i, none⟩ (.bool gv)) l W) (by rw [hz]; kernel_rfl) (S1.init) ?_ ?_
  · refine And.intro ?_ (And.intro ?_ (And.intro ?_ (And.intro ?_ (And.intro ?_ (And.intro ?_ (And.intro ?_ (And.intro ?_ (And.intro ?_ (And.intro ?_ (And.intro ?_ (And.intro ?_ (And.intro ?_ (And.intro ?_ (And.intro ?_ (And.intro ?_ (And.intro ?_ trivial))))))))))))))))
    · refine ask_v rfl rfl (fun l a W H => ⟨_, W, ?_, rfl, H.s.skip (by decide)⟩)
      have e4 : a.eval (.tmp 4) = .pointer (some ⟨gm, 0, none⟩) := (H.base 4 rfl).trans b4
      exact ex_move rfl e4
    · refine ask_v rfl rfl (fun l a W H => ⟨_, W, ?_, rfl, H.s.skip (by decide)⟩)
      have e14 : a.eval (.tmp 14) = .int .i64 (i : Nat) := (H.base 14 rfl).trans b14
      exact ex_move rfl e14
    · refine ask_v rfl rfl (fun l a W H => ⟨_, W, ?_, rfl, H.s.skip (by decide)⟩)
      have e4 : a.eval (.tmp 4) = .pointer (some ⟨gm, 0, none⟩) := (H.base 4 rfl).trans b4
      exact ex_move rfl e4
    · refine ask_v rfl rfl (fun l a W H => ⟨_, W, ?_, rfl, H.s.skip (by decide)⟩)
      have e14 : a.eval (.tmp 14) = .int .i64 (i : Nat) := (H.base 14 rfl).trans b14
      exact ex_move rfl e14
    · refine ask_v rfl rfl (fun l a W H => ⟨_, W, ?_, rfl, H.s.skip (by decide)⟩)
      have e109 : a.eval (.tmp 109) = .pointer (some ⟨gm, 0, none⟩) := H.facts 109 rfl
      (simp only [execOp]; try simp only [Option.map]); (try simp only [List.map_toArray, List.map_cons, List.map_nil]); (simp only [e109]; go_simp)
    · refine ask_v rfl rfl (fun l a W H => ⟨_, W, ?_, rfl, H.s.skip (by decide)⟩)
      have e111 : a.eval (.tmp 111) = .pointer (some ⟨gm, 0, none⟩) := H.facts 111 rfl
      have e110 : a.eval (.tmp 110) = .int .i64 (i : Nat) := H.facts 110 rfl
      have hx' : (i : Int) < 4096 := by omega
      (simp only [execOp]; try simp only [Option.map]); (try simp only [List.map_toArray, List.map_cons, List.map_nil]); (simp only [e111, e110]; go_simp)
    · refine ask_v rfl rfl (fun l a W H => ⟨_, W, ?_, rfl, H.s.skip (by decide)⟩)
      have e112 : a.eval (.tmp 112) = .pointer (some ⟨gm, i, none⟩) := H.facts 112 rfl
      have n16 : l 16 = false := Bool.eq_false_iff.2 fun hs => absurd (H.new.symm.trans (H.closed 16 6 (by rfl) hs)) (by decide)
      obtain rfl := H.s.off n16
      have hcm := hc
      (simp only [execOp]; try simp only [Option.map]); (try simp only [List.map_toArray, List.map_cons, List.map_nil]); (simp only [e112]; go_simp)
    · refine ask_v rfl rfl (fun l a W H => ⟨_, W, ?_, rfl, H.s.skip (by decide)⟩)
      have e113 : a.eval (.tmp 113) = .bool false := H.facts 113 rfl
      exact ex_move rfl e113
    · refine ask_v ⟨114, rfl, rfl, fun _ h => h⟩ rfl (fun l a W H => ⟨_, W, ?_, rfl, H.s.skip (by decide)⟩)
      have e11 : a.eval (.tmp 11) = .pointer (some ⟨gw, 0, none⟩) := (H.base 11 rfl).trans b11
      exact ex_move rfl e11
    · refine ask_v ⟨114, rfl, rfl, fun _ h => h⟩ rfl (fun l a W H => ⟨_, W, ?_, rfl, H.s.skip (by decide)⟩)
      have e14 : a.eval (.tmp 14) = .int .i64 (i : Nat) := (H.base 14 rfl).trans b14
      exact ex_move rfl e14
    · refine ask_v ⟨114, rfl, rfl, fun _ h => h⟩ rfl (fun l a W H => ⟨_, W, ?_, rfl, H.s.skip (by decide)⟩)
      have e115 : a.eval (.tmp 115) = .pointer (some ⟨gw, 0, none⟩) := H.facts 115 rfl
      (simp only [execOp]; try simp only [Option.map]); (try simp only [List.map_toArray, List.map_cons, List.map_nil]); (simp only [e115]; go_simp)
    · refine ask_v ⟨114, rfl, rfl, fun _ h => h⟩ rfl (fun l a W H => ⟨_, W, ?_, rfl, H.s.skip (by decide)⟩)
      have e117 : a.eval (.tmp 117) = .pointer (some ⟨gw, 0, none⟩) := H.facts 117 rfl
      have e116 : a.eval (.tmp 116) = .int .i64 (i : Nat) := H.facts 116 rfl
      have hx' : (i : Int) < 4096 := by omega
      (simp only [execOp]; try simp only [Option.map]); (try simp only [List.map_toArray, List.map_cons, List.map_nil]); (simp only [e117, e116]; go_simp)
    · refine ask_v ⟨114, rfl, rfl, fun _ h => h⟩ rfl (fun l a W H => ⟨_, W, ?_, rfl, H.s.skip (by decide)⟩)
      have e118 : a.eval (.tmp 118) = .pointer (some ⟨gw, i, none⟩) := H.facts 118 rfl
      have n16 : l 16 = false := Bool.eq_false_iff.2 fun hs => absurd (H.new.symm.trans (H.closed 16 12 (by rfl) hs)) (by decide)
      obtain rfl := H.s.off n16
      have hcm := hw
      (simp only [execOp]; try simp only [Option.map]); (try simp only [List.map_toArray, List.map_cons, List.map_nil]); (simp only [e118]; go_simp)
    · refine ask_v rfl rfl (fun l a W H => ⟨_, W, ?_, rfl, H.s.skip (by decide)⟩)
      have e114 : a.eval (.tmp 114) = .bool false := H.facts 114 rfl
      have e119 : a.eval (.tmp 119) = .bool gv := H.facts 119 rfl
      exact ex_pick0 rfl e114 e119
    · refine ask_v rfl rfl (fun l a W H => ⟨_, W, ?_, rfl, H.s.skip (by decide)⟩)
      have e107 : a.eval (.tmp 107) = .pointer (some ⟨gm, 0, none⟩) := H.facts 107 rfl
      (simp only [execOp]; try simp only [Option.map]); (try simp only [List.map_toArray, List.map_cons, List.map_nil]); (simp only [e107]; go_simp)
    · refine ask_v rfl rfl (fun l a W H => ⟨_, W, ?_, rfl, H.s.skip (by decide)⟩)
      have e121 : a.eval (.tmp 121) = .pointer (some ⟨gm, 0, none⟩) := H.facts 121 rfl
      have e108 : a.eval (.tmp 108) = .int .i64 (i : Nat) := H.facts 108 rfl
      have hx' : (i : Int) < 4096 := by omega
      (simp only [execOp]; try simp only [Option.map]); (try simp only [List.map_toArray, List.map_cons, List.map_nil]); (simp only [e121, e108]; go_simp)
    · refine ask_s rfl rfl (fun l a W H => ?_)
      have n16 : l 16 = false := H.new
      have e122 : a.eval (.tmp 122) = .pointer (some ⟨gm, i, none⟩) := H.facts 122 rfl
      have e120 : a.eval (.tmp 120) = .bool gv := H.facts 120 rfl
      obtain rfl := H.s.off n16
      exact ⟨_, run_store_bool rfl e122 e120 hc hcf, H.s.last⟩
  · intro l s W hall hS hs
    obtain rfl := hS.on (hall 16 (by decide))
    exact hend s

def ops_r36_t : Array Oper := #[⟨some 135, .move (.tmp 4), 28, "law.go:97", #[], none⟩, ⟨some 136, .move (.tmp 15), 3, "law.go:97", #[], none⟩, ⟨some 137, .move (.tmp 4), 28, "law.go:97", #[], none⟩, ⟨some 138, .move (.tmp 15), 3, "law.go:97", #[], none⟩, ⟨some 139, .nilCheck (.tmp 137), 0, "law.go:97", #[⟨2, .data⟩], none⟩, ⟨some 140, .indexAddr 30 (.tmp 139) (.tmp 138), 0, "law.go:97", #[⟨4, .data⟩, ⟨3, .data⟩], none⟩, ⟨some 141, .load 4 (.tmp 140), 4, "law.go:97", #[⟨5, .data⟩], none⟩, ⟨some 142, .move (.tmp 141), 4, "law.go:97", #[⟨6, .data⟩], none⟩, ⟨some 143, .move (.tmp 11), 28, "law.go:97", #[⟨7, .guard⟩], some (7, true)⟩, ⟨some 144, .move (.tmp 15), 3, "law.go:97", #[⟨7, .guard⟩], some (7, true)⟩, ⟨some 145, .nilCheck (.tmp 143), 0, "law.go:97", #[⟨8, .data⟩, ⟨7, .guard⟩], some (7, true)⟩, ⟨some 146, .indexAddr 30 (.tmp 145) (.tmp 144), 0, "law.go:97", #[⟨10, .data⟩, ⟨9, .data⟩, ⟨7, .guard⟩], some (7, true)⟩, ⟨some 147, .load 4 (.tmp 146), 4, "law.go:97", #[⟨11, .data⟩, ⟨7, .guard⟩], some (7, true)⟩, ⟨some 148, .unOp .not 4 (.tmp 147), 4, "law.go:97", #[⟨12, .data⟩, ⟨7, .guard⟩], some (7, true)⟩, ⟨some 149, .pick (.tmp 142) (.tmp 148) (.const (.bool false)), 4, "law.go:97", #[⟨7, .data⟩, ⟨13, .data⟩], none⟩, ⟨some 150, .nilCheck (.tmp 135), 0, "law.go:97", #[⟨0, .data⟩], none⟩, ⟨some 151, .indexAddr 30 (.tmp 150) (.tmp 136), 0, "law.go:97", #[⟨15, .data⟩, ⟨1, .data⟩, ⟨0, .phase⟩, ⟨1, .phase⟩, ⟨2, .phase⟩, ⟨3, .phase⟩, ⟨4, .phase⟩, ⟨5, .phase⟩, ⟨6, .phase⟩, ⟨7, .phase⟩, ⟨8, .phase⟩, ⟨9, .phase⟩, ⟨10, .phase⟩, ⟨11, .phase⟩, ⟨12, .phase⟩, ⟨13, .phase⟩, ⟨14, .phase⟩], none⟩, ⟨none, .store 4 (.tmp 151) (.tmp 149), 0, "law.go:97", #[⟨16, .data⟩, ⟨14, .data⟩, ⟨7, .chain⟩, ⟨0, .phase⟩, ⟨1, .phase⟩, ⟨2, .phase⟩, ⟨3, .phase⟩, ⟨4, .phase⟩, ⟨5, .phase⟩, ⟨6, .phase⟩, ⟨7, .phase⟩, ⟨8, .phase⟩, ⟨9, .phase⟩, ⟨10, .phase⟩, ⟨11, .phase⟩, ⟨12, .phase⟩, ⟨13, .phase⟩, ⟨14, .phase⟩], none⟩]
def G_r36_t (gm gw i : Nat) (gv : Bool) : Tmp → Value → Prop
  | 135, xx => xx = .pointer (some ⟨gm, 0, none⟩)
  | 136, xx => xx = .int .i64 (i : Nat)
  | 137, xx => xx = .pointer (some ⟨gm, 0, none⟩)
  | 138, xx => xx = .int .i64 (i : Nat)
  | 139, xx => xx = .pointer (some ⟨gm, 0, none⟩)
  | 140, xx => xx = .pointer (some ⟨gm, i, none⟩)
  | 141, xx => xx = .bool true
  | 142, xx => xx = .bool true
  | 143, xx => xx = .pointer (some ⟨gw, 0, none⟩)
  | 144, xx => xx = .int .i64 (i : Nat)
  | 145, xx => xx = .pointer (some ⟨gw, 0, none⟩)
  | 146, xx => xx = .pointer (some ⟨gw, i, none⟩)
  | 147, xx => xx = .bool gv
  | 148, xx => xx = .bool (!gv)
  | 149, xx => xx = .bool (!gv)
  | 150, xx => xx = .pointer (some ⟨gm, 0, none⟩)
  | 151, xx => xx = .pointer (some ⟨gm, i, none⟩)
  | _, _ => True
set_option maxHeartbeats 4000000 in
set_option maxRecDepth 100000 in
theorem r36_t {Q : Exit → Act → World → Prop} {a0 : Act} {wa : World} (gm gw i : Nat) (gv : Bool) (hz : a0.tmps.size = 240) (b4 : a0.eval (.tmp 4) = .pointer (some ⟨gm, 0, none⟩)) (b15 : a0.eval (.tmp 15) = .int .i64 (i : Nat)) (b11 : a0.eval (.tmp 11) = .pointer (some ⟨gw, 0, none⟩)) (hx : i < 4096) (hc : wa.drew.cell? ⟨gm, i, none⟩ = some (.bool true)) (hcf : wa.drew.frozen? ⟨gm, i, none⟩ = false) (hw : wa.drew.cell? ⟨gw, i, none⟩ = some (.bool gv))
    (hend : ∀ (s : Tmp → Value), Q .normal (overlay a0 (dstsOf ops_r36_t) s) (wa.drew.setCell ⟨gm, i, none⟩ (.bool (!gv)))) : (Code.region 36 ops_r36_t true).wp Tryd.prog Q a0 wa := by
  refine L.wp_region_eachL (by kernel_rfl) (fun _ t v _ => G_r36_t gm gw i gv t v) (fun l W => S1 17 wa.drew (wa.drew.setCell ⟨gm, i, none⟩ (.bool (!gv))) l W) (by rw [hz]; kernel_rfl) (S1.init) ?_ ?_
  · refine And.intro ?_ (And.intro ?_ (And.intro ?_ (And.intro ?_ (And.intro ?_ (And.intro ?_ (And.intro ?_ (And.intro ?_ (And.intro ?_ (And.intro ?_ (And.intro ?_ (And.intro ?_ (And.intro ?_ (And.intro ?_ (And.intro ?_ (And.intro ?_ (And.intro ?_ (And.intro ?_ trivial)))))))))))))))))
    · refine ask_v rfl rfl (fun l a W H => ⟨_, W, ?_, rfl, H.s.skip (by decide)⟩)
      have e4 : a.eval (.tmp 4) = .pointer (some ⟨gm, 0, none⟩) := (H.base 4 rfl).trans b4
      exact ex_move rfl e4
    · refine ask_v rfl rfl (fun l a W H => ⟨_, W, ?_, rfl, H.s.skip (by decide)⟩)
      have e15 : a.eval (.tmp 15) = .int .i64 (i : Nat) := (H.base 15 rfl).trans b15
      exact ex_move rfl e15
    · refine ask_v rfl rfl (fun l a W H => ⟨_, W, ?_, rfl, H.s.skip (by decide)⟩)
      have e4 : a.eval (.tmp 4) = .pointer (some ⟨gm, 0, none⟩) := (H.base 4 rfl).trans b4
      exact ex_move rfl e4
    · refine ask_v rfl rfl (fun l a W H => ⟨_, W, ?_, rfl, H.s.skip (by decide)⟩)
      have e15 : a.eval (.tmp 15) = .int .i64 (i : Nat) := (H.base 15 rfl).trans b15
      exact ex_move rfl e15
    · refine ask_v rfl rfl (fun l a W H => ⟨_, W, ?_, rfl, H.s.skip (by decide)⟩)
      have e137 : a.eval (.tmp 137) = .pointer (some ⟨gm, 0, none⟩) := H.facts 137 rfl
      (simp only [execOp]; try simp only [Option.map]); (try simp only [List.map_toArray, List.map_cons, List.map_nil]); (simp only [e137]; go_simp)
    · refine ask_v rfl rfl (fun l a W H => ⟨_, W, ?_, rfl, H.s.skip (by decide)⟩)
      have e139 : a.eval (.tmp 139) = .pointer (some ⟨gm, 0, none⟩) := H.facts 139 rfl
      have e138 : a.eval (.tmp 138) = .int .i64 (i : Nat) := H.facts 138 rfl
      have hx' : (i : Int) < 4096 := by omega
      (simp only [execOp]; try simp only [Option.map]); (try simp only [List.map_toArray, List.map_cons, List.map_nil]); (simp only [e139, e138]; go_simp)
    · refine ask_v rfl rfl (fun l a W H => ⟨_, W, ?_, rfl, H.s.skip (by decide)⟩)
      have e140 : a.eval (.tmp 140) = .pointer (some ⟨gm, i, none⟩) := H.facts 140 rfl
      have n17 : l 17 = false := Bool.eq_false_iff.2 fun hs => absurd (H.new.symm.trans (H.closed 17 6 (by rfl) hs)) (by decide)
      obtain rfl := H.s.off n17
      have hcm := hc
      (simp only [execOp]; try simp only [Option.map]); (try simp only [List.map_toArray, List.map_cons, List.map_nil]); (simp only [e140]; go_simp)
    · refine ask_v rfl rfl (fun l a W H => ⟨_, W, ?_, rfl, H.s.skip (by decide)⟩)
      have e141 : a.eval (.tmp 141) = .bool true := H.facts 141 rfl
      exact ex_move rfl e141
    · refine ask_v ⟨142, rfl, rfl, fun _ h => h⟩ rfl (fun l a W H => ⟨_, W, ?_, rfl, H.s.skip (by decide)⟩)
      have e11 : a.eval (.tmp 11) = .pointer (some ⟨gw, 0, none⟩) := (H.base 11 rfl).trans b11
      exact ex_move rfl e11
    · refine ask_v ⟨142, rfl, rfl, fun _ h => h⟩ rfl (fun l a W H => ⟨_, W, ?_, rfl, H.s.skip (by decide)⟩)
      have e15 : a.eval (.tmp 15) = .int .i64 (i : Nat) := (H.base 15 rfl).trans b15
      exact ex_move rfl e15
    · refine ask_v ⟨142, rfl, rfl, fun _ h => h⟩ rfl (fun l a W H => ⟨_, W, ?_, rfl, H.s.skip (by decide)⟩)
      have e143 : a.eval (.tmp 143) = .pointer (some ⟨gw, 0, none⟩) := H.facts 143 rfl
      (simp only [execOp]; try simp only [Option.map]); (try simp only [List.map_toArray, List.map_cons, List.map_nil]); (simp only [e143]; go_simp)
    · refine ask_v ⟨142, rfl, rfl, fun _ h => h⟩ rfl (fun l a W H => ⟨_, W, ?_, rfl, H.s.skip (by decide)⟩)
      have e145 : a.eval (.tmp 145) = .pointer (some ⟨gw, 0, none⟩) := H.facts 145 rfl
      have e144 : a.eval (.tmp 144) = .int .i64 (i : Nat) := H.facts 144 rfl
      have hx' : (i : Int) < 4096 := by omega
      (simp only [execOp]; try simp only [Option.map]); (try simp only [List.map_toArray, List.map_cons, List.map_nil]); (simp only [e145, e144]; go_simp)
    · refine ask_v ⟨142, rfl, rfl, fun _ h => h⟩ rfl (fun l a W H => ⟨_, W, ?_, rfl, H.s.skip (by decide)⟩)
      have e146 : a.eval (.tmp 146) = .pointer (some ⟨gw, i, none⟩) := H.facts 146 rfl
      have n17 : l 17 = false := Bool.eq_false_iff.2 fun hs => absurd (H.new.symm.trans (H.closed 17 12 (by rfl) hs)) (by decide)
      obtain rfl := H.s.off n17
      have hcm := hw
      (simp only [execOp]; try simp only [Option.map]); (try simp only [List.map_toArray, List.map_cons, List.map_nil]); (simp only [e146]; go_simp)
    · refine ask_v ⟨142, rfl, rfl, fun _ h => h⟩ rfl (fun l a W H => ⟨_, W, ?_, rfl, H.s.skip (by decide)⟩)
      have e147 : a.eval (.tmp 147) = .bool gv := H.facts 147 rfl
      exact ex_not rfl e147 rfl
    · refine ask_v rfl rfl (fun l a W H => ⟨_, W, ?_, rfl, H.s.skip (by decide)⟩)
      have e142 : a.eval (.tmp 142) = .bool true := H.facts 142 rfl
      have e148 : a.eval (.tmp 148) = .bool (!gv) := H.facts 148 rfl
      exact ex_pick1 rfl e142 e148
    · refine ask_v rfl rfl (fun l a W H => ⟨_, W, ?_, rfl, H.s.skip (by decide)⟩)
      have e135 : a.eval (.tmp 135) = .pointer (some ⟨gm, 0, none⟩) := H.facts 135 rfl
      (simp only [execOp]; try simp only [Option.map]); (try simp only [List.map_toArray, List.map_cons, List.map_nil]); (simp only [e135]; go_simp)
    · refine ask_v rfl rfl (fun l a W H => ⟨_, W, ?_, rfl, H.s.skip (by decide)⟩)
      have e150 : a.eval (.tmp 150) = .pointer (some ⟨gm, 0, none⟩) := H.facts 150 rfl
      have e136 : a.eval (.tmp 136) = .int .i64 (i : Nat) := H.facts 136 rfl
      have hx' : (i : Int) < 4096 := by omega
      (simp only [execOp]; try simp only [Option.map]); (try simp only [List.map_toArray, List.map_cons, List.map_nil]); (simp only [e150, e136]; go_simp)
    · refine ask_s rfl rfl (fun l a W H => ?_)
      have n17 : l 17 = false := H.new
      have e151 : a.eval (.tmp 151) = .pointer (some ⟨gm, i, none⟩) := H.facts 151 rfl
      have e149 : a.eval (.tmp 149) = .bool (!gv) := H.facts 149 rfl
      obtain rfl := H.s.off n17
      exact ⟨_, run_store_bool rfl e151 e149 hc hcf, H.s.last⟩
  · intro l s W hall hS hs
    obtain rfl := hS.on (hall 17 (by decide))
    exact hend s

def ops_r36_f : Array Oper := #[⟨some 135, .move (.tmp 4), 28, "law.go:97", #[], none⟩, ⟨some 136, .move (.tmp 15), 3, "law.go:97", #[], none⟩, ⟨some 137, .move (.tmp 4), 28, "law.go:97", #[], none⟩, ⟨some 138, .move (.tmp 15), 3, "law.go:97", #[], none⟩, ⟨some 139, .nilCheck (.tmp 137), 0, "law.go:97", #[⟨2, .data⟩], none⟩, ⟨some 140, .indexAddr 30 (.tmp 139) (.tmp 138), 0, "law.go:97", #[⟨4, .data⟩, ⟨3, .data⟩], none⟩, ⟨some 141, .load 4 (.tmp 140), 4, "law.go:97", #[⟨5, .data⟩], none⟩, ⟨some 142, .move (.tmp 141), 4, "law.go:97", #[⟨6, .data⟩], none⟩, ⟨some 143, .move (.tmp 11), 28, "law.go:97", #[⟨7, .guard⟩], some (7, true)⟩, ⟨some 144, .move (.tmp 15), 3, "law.go:97", #[⟨7, .guard⟩], some (7, true)⟩, ⟨some 145, .nilCheck (.tmp 143), 0, "law.go:97", #[⟨8, .data⟩, ⟨7, .guard⟩], some (7, true)⟩, ⟨some 146, .indexAddr 30 (.tmp 145) (.tmp 144), 0, "law.go:97", #[⟨10, .data⟩, ⟨9, .data⟩, ⟨7, .guard⟩], some (7, true)⟩, ⟨some 147, .load 4 (.tmp 146), 4, "law.go:97", #[⟨11, .data⟩, ⟨7, .guard⟩], some (7, true)⟩, ⟨some 148, .unOp .not 4 (.tmp 147), 4, "law.go:97", #[⟨12, .data⟩, ⟨7, .guard⟩], some (7, true)⟩, ⟨some 149, .pick (.tmp 142) (.tmp 148) (.const (.bool false)), 4, "law.go:97", #[⟨7, .data⟩, ⟨13, .data⟩], none⟩, ⟨some 150, .nilCheck (.tmp 135), 0, "law.go:97", #[⟨0, .data⟩], none⟩, ⟨some 151, .indexAddr 30 (.tmp 150) (.tmp 136), 0, "law.go:97", #[⟨15, .data⟩, ⟨1, .data⟩, ⟨0, .phase⟩, ⟨1, .phase⟩, ⟨2, .phase⟩, ⟨3, .phase⟩, ⟨4, .phase⟩, ⟨5, .phase⟩, ⟨6, .phase⟩, ⟨7, .phase⟩, ⟨8, .phase⟩, ⟨9, .phase⟩, ⟨10, .phase⟩, ⟨11, .phase⟩, ⟨12, .phase⟩, ⟨13, .phase⟩, ⟨14, .phase⟩], none⟩, ⟨none, .store 4 (.tmp 151) (.tmp 149), 0, "law.go:97", #[⟨16, .data⟩, ⟨14, .data⟩, ⟨7, .chain⟩, ⟨0, .phase⟩, ⟨1, .phase⟩, ⟨2, .phase⟩, ⟨3, .phase⟩, ⟨4, .phase⟩, ⟨5, .phase⟩, ⟨6, .phase⟩, ⟨7, .phase⟩, ⟨8, .phase⟩, ⟨9, .phase⟩, ⟨10, .phase⟩, ⟨11, .phase⟩, ⟨12, .phase⟩, ⟨13, .phase⟩, ⟨14, .phase⟩], none⟩]
def G_r36_f (gm gw i : Nat) (gv : Bool) : Tmp → Value → Prop
  | 135, xx => xx = .pointer (some ⟨gm, 0, none⟩)
  | 136, xx => xx = .int .i64 (i : Nat)
  | 137, xx => xx = .pointer (some ⟨gm, 0, none⟩)
  | 138, xx => xx = .int .i64 (i : Nat)
  | 139, xx => xx = .pointer (some ⟨gm, 0, none⟩)
  | 140, xx => xx = .pointer (some ⟨gm, i, none⟩)
  | 141, xx => xx = .bool false
  | 142, xx => xx = .bool false
  | 143, xx => xx = undef
  | 144, xx => xx = undef
  | 145, xx => xx = undef
  | 146, xx => xx = undef
  | 147, xx => xx = undef
  | 148, xx => xx = undef
  | 149, xx => xx = .bool false
  | 150, xx => xx = .pointer (some ⟨gm, 0, none⟩)
  | 151, xx => xx = .pointer (some ⟨gm, i, none⟩)
  | _, _ => True
set_option maxHeartbeats 4000000 in
set_option maxRecDepth 100000 in
theorem r36_f {Q : Exit → Act → World → Prop} {a0 : Act} {wa : World} (gm gw i : Nat) (gv : Bool) (hz : a0.tmps.size = 240) (b4 : a0.eval (.tmp 4) = .pointer (some ⟨gm, 0, none⟩)) (b15 : a0.eval (.tmp 15) = .int .i64 (i : Nat)) (b11 : a0.eval (.tmp 11) = .pointer (some ⟨gw, 0, none⟩)) (hx : i < 4096) (hc : wa.drew.cell? ⟨gm, i, none⟩ = some (.bool false)) (hcf : wa.drew.frozen? ⟨gm, i, none⟩ = false) (hw : wa.drew.cell? ⟨gw, i, none⟩ = some (.bool gv))
    (hend : ∀ (s : Tmp → Value), Q .normal (overlay a0 (dstsOf ops_r36_f) s) (wa.drew.setCell ⟨gm, i, none⟩ (.bool false))) : (Code.region 36 ops_r36_f true).wp Tryd.prog Q a0 wa := by
  refine L.wp_region_eachL (by kernel_rfl) (fun _ t v _ => G_r36_f gm gw i gv t v) (fun l W => S1 17 wa.drew (wa.drew.setCell ⟨gm, i, none⟩ (.bool false)) l W) (by rw [hz]; kernel_rfl) (S1.init) ?_ ?_
  · refine And.intro ?_ (And.intro ?_ (And.intro ?_ (And.intro ?_ (And.intro ?_ (And.intro ?_ (And.intro ?_ (And.intro ?_ (And.intro ?_ (And.intro ?_ (And.intro ?_ (And.intro ?_ (And.intro ?_ (And.intro ?_ (And.intro ?_ (And.intro ?_ (And.intro ?_ (And.intro ?_ trivial)))))))))))))))))
    · refine ask_v rfl rfl (fun l a W H => ⟨_, W, ?_, rfl, H.s.skip (by decide)⟩)
      have e4 : a.eval (.tmp 4) = .pointer (some ⟨gm, 0, none⟩) := (H.base 4 rfl).trans b4
      exact ex_move rfl e4
    · refine ask_v rfl rfl (fun l a W H => ⟨_, W, ?_, rfl, H.s.skip (by decide)⟩)
      have e15 : a.eval (.tmp 15) = .int .i64 (i : Nat) := (H.base 15 rfl).trans b15
      exact ex_move rfl e15
    · refine ask_v rfl rfl (fun l a W H => ⟨_, W, ?_, rfl, H.s.skip (by decide)⟩)
      have e4 : a.eval (.tmp 4) = .pointer (some ⟨gm, 0, none⟩) := (H.base 4 rfl).trans b4
      exact ex_move rfl e4
    · refine ask_v rfl rfl (fun l a W H => ⟨_, W, ?_, rfl, H.s.skip (by decide)⟩)
      have e15 : a.eval (.tmp 15) = .int .i64 (i : Nat) := (H.base 15 rfl).trans b15
      exact ex_move rfl e15
    · refine ask_v rfl rfl (fun l a W H => ⟨_, W, ?_, rfl, H.s.skip (by decide)⟩)
      have e137 : a.eval (.tmp 137) = .pointer (some ⟨gm, 0, none⟩) := H.facts 137 rfl
      (simp only [execOp]; try simp only [Option.map]); (try simp only [List.map_toArray, List.map_cons, List.map_nil]); (simp only [e137]; go_simp)
    · refine ask_v rfl rfl (fun l a W H => ⟨_, W, ?_, rfl, H.s.skip (by decide)⟩)
      have e139 : a.eval (.tmp 139) = .pointer (some ⟨gm, 0, none⟩) := H.facts 139 rfl
      have e138 : a.eval (.tmp 138) = .int .i64 (i : Nat) := H.facts 138 rfl
      have hx' : (i : Int) < 4096 := by omega
      (simp only [execOp]; try simp only [Option.map]); (try simp only [List.map_toArray, List.map_cons, List.map_nil]); (simp only [e139, e138]; go_simp)
    · refine ask_v rfl rfl (fun l a W H => ⟨_, W, ?_, rfl, H.s.skip (by decide)⟩)
      have e140 : a.eval (.tmp 140) = .pointer (some ⟨gm, i, none⟩) := H.facts 140 rfl
      have n17 : l 17 = false := Bool.eq_false_iff.2 fun hs => absurd (H.new.symm.trans (H.closed 17 6 (by rfl) hs)) (by decide)
      obtain rfl := H.s.off n17
      have hcm := hc
      (simp only [execOp]; try simp only [Option.map]); (try simp only [List.map_toArray, List.map_cons, List.map_nil]); (simp only [e140]; go_simp)
    · refine ask_v rfl rfl (fun l a W H => ⟨_, W, ?_, rfl, H.s.skip (by decide)⟩)
      have e141 : a.eval (.tmp 141) = .bool false := H.facts 141 rfl
      exact ex_move rfl e141
    · refine ask_no ⟨142, rfl, rfl, fun _ h => h⟩ (fun d h => by cases h; exact rfl) (fun _ _ h => h.skip (by decide))
    · refine ask_no ⟨142, rfl, rfl, fun _ h => h⟩ (fun d h => by cases h; exact rfl) (fun _ _ h => h.skip (by decide))
    · refine ask_no ⟨142, rfl, rfl, fun _ h => h⟩ (fun d h => by cases h; exact rfl) (fun _ _ h => h.skip (by decide))
    · refine ask_no ⟨142, rfl, rfl, fun _ h => h⟩ (fun d h => by cases h; exact rfl) (fun _ _ h => h.skip (by decide))
    · refine ask_no ⟨142, rfl, rfl, fun _ h => h⟩ (fun d h => by cases h; exact rfl) (fun _ _ h => h.skip (by decide))
    · refine ask_no ⟨142, rfl, rfl, fun _ h => h⟩ (fun d h => by cases h; exact rfl) (fun _ _ h => h.skip (by decide))
    · refine ask_v rfl rfl (fun l a W H => ⟨_, W, ?_, rfl, H.s.skip (by decide)⟩)
      have e142 : a.eval (.tmp 142) = .bool false := H.facts 142 rfl
      exact ex_pick0 rfl e142 rfl
    · refine ask_v rfl rfl (fun l a W H => ⟨_, W, ?_, rfl, H.s.skip (by decide)⟩)
      have e135 : a.eval (.tmp 135) = .pointer (some ⟨gm, 0, none⟩) := H.facts 135 rfl
      (simp only [execOp]; try simp only [Option.map]); (try simp only [List.map_toArray, List.map_cons, List.map_nil]); (simp only [e135]; go_simp)
    · refine ask_v rfl rfl (fun l a W H => ⟨_, W, ?_, rfl, H.s.skip (by decide)⟩)
      have e150 : a.eval (.tmp 150) = .pointer (some ⟨gm, 0, none⟩) := H.facts 150 rfl
      have e136 : a.eval (.tmp 136) = .int .i64 (i : Nat) := H.facts 136 rfl
      have hx' : (i : Int) < 4096 := by omega
      (simp only [execOp]; try simp only [Option.map]); (try simp only [List.map_toArray, List.map_cons, List.map_nil]); (simp only [e150, e136]; go_simp)
    · refine ask_s rfl rfl (fun l a W H => ?_)
      have n17 : l 17 = false := H.new
      have e151 : a.eval (.tmp 151) = .pointer (some ⟨gm, i, none⟩) := H.facts 151 rfl
      have e149 : a.eval (.tmp 149) = .bool false := H.facts 149 rfl
      obtain rfl := H.s.off n17
      exact ⟨_, run_store_bool rfl e151 e149 hc hcf, H.s.last⟩
  · intro l s W hall hS hs
    obtain rfl := hS.on (hall 17 (by decide))
    exact hend s

def ops_r43_t : Array Oper := #[⟨some 160, .move (.tmp 4), 28, "law.go:102", #[], none⟩, ⟨some 161, .move (.tmp 16), 3, "law.go:102", #[], none⟩, ⟨some 162, .move (.tmp 4), 28, "law.go:102", #[], none⟩, ⟨some 163, .move (.tmp 16), 3, "law.go:102", #[], none⟩, ⟨some 164, .nilCheck (.tmp 162), 0, "law.go:102", #[⟨2, .data⟩], none⟩, ⟨some 165, .indexAddr 30 (.tmp 164) (.tmp 163), 0, "law.go:102", #[⟨4, .data⟩, ⟨3, .data⟩], none⟩, ⟨some 166, .load 4 (.tmp 165), 4, "law.go:102", #[⟨5, .data⟩], none⟩, ⟨some 167, .move (.tmp 166), 4, "law.go:102", #[⟨6, .data⟩], none⟩, ⟨some 168, .move (.tmp 11), 28, "law.go:102", #[⟨7, .guard⟩], some (7, true)⟩, ⟨some 169, .move (.tmp 16), 3, "law.go:102", #[⟨7, .guard⟩], some (7, true)⟩, ⟨some 170, .nilCheck (.tmp 168), 0, "law.go:102", #[⟨8, .data⟩, ⟨7, .guard⟩], some (7, true)⟩, ⟨some 171, .indexAddr 30 (.tmp 170) (.tmp 169), 0, "law.go:102", #[⟨10, .data⟩, ⟨9, .data⟩, ⟨7, .guard⟩], some (7, true)⟩, ⟨some 172, .load 4 (.tmp 171), 4, "law.go:102", #[⟨11, .data⟩, ⟨7, .guard⟩], some (7, true)⟩, ⟨some 173, .pick (.tmp 167) (.tmp 172) (.const (.bool false)), 4, "law.go:102", #[⟨7, .data⟩, ⟨12, .data⟩], none⟩, ⟨some 174, .nilCheck (.tmp 160), 0, "law.go:102", #[⟨0, .data⟩], none⟩, ⟨some 175, .indexAddr 30 (.tmp 174) (.tmp 161), 0, "law.go:102", #[⟨14, .data⟩, ⟨1, .data⟩, ⟨0, .phase⟩, ⟨1, .phase⟩, ⟨2, .phase⟩, ⟨3, .phase⟩, ⟨4, .phase⟩, ⟨5, .phase⟩, ⟨6, .phase⟩, ⟨7, .phase⟩, ⟨8, .phase⟩, ⟨9, .phase⟩, ⟨10, .phase⟩, ⟨11, .phase⟩, ⟨12, .phase⟩, ⟨13, .phase⟩], none⟩, ⟨none, .store 4 (.tmp 175) (.tmp 173), 0, "law.go:102", #[⟨15, .data⟩, ⟨13, .data⟩, ⟨7, .chain⟩, ⟨0, .phase⟩, ⟨1, .phase⟩, ⟨2, .phase⟩, ⟨3, .phase⟩, ⟨4, .phase⟩, ⟨5, .phase⟩, ⟨6, .phase⟩, ⟨7, .phase⟩, ⟨8, .phase⟩, ⟨9, .phase⟩, ⟨10, .phase⟩, ⟨11, .phase⟩, ⟨12, .phase⟩, ⟨13, .phase⟩], none⟩]
def G_r43_t (gm gw i : Nat) (gv : Bool) : Tmp → Value → Prop
  | 160, xx => xx = .pointer (some ⟨gm, 0, none⟩)
  | 161, xx => xx = .int .i64 (i : Nat)
  | 162, xx => xx = .pointer (some ⟨gm, 0, none⟩)
  | 163, xx => xx = .int .i64 (i : Nat)
  | 164, xx => xx = .pointer (some ⟨gm, 0, none⟩)
  | 165, xx => xx = .pointer (some ⟨gm, i, none⟩)
  | 166, xx => xx = .bool true
  | 167, xx => xx = .bool true
  | 168, xx => xx = .pointer (some ⟨gw, 0, none⟩)
  | 169, xx => xx = .int .i64 (i : Nat)
  | 170, xx => xx = .pointer (some ⟨gw, 0, none⟩)
  | 171, xx => xx = .pointer (some ⟨gw, i, none⟩)
  | 172, xx => xx = .bool gv
  | 173, xx => xx = .bool gv
  | 174, xx => xx = .pointer (some ⟨gm, 0, none⟩)
  | 175, xx => xx = .pointer (some ⟨gm, i, none⟩)
  | _, _ => True
set_option maxHeartbeats 4000000 in
set_option maxRecDepth 100000 in
theorem r43_t {Q : Exit → Act → World → Prop} {a0 : Act} {wa : World} (gm gw i : Nat) (gv : Bool) (hz : a0.tmps.size = 240) (b4 : a0.eval (.tmp 4) = .pointer (some ⟨gm, 0, none⟩)) (b16 : a0.eval (.tmp 16) = .int .i64 (i : Nat)) (b11 : a0.eval (.tmp 11) = .pointer (some ⟨gw, 0, none⟩)) (hx : i < 4096) (hc : wa.drew.cell? ⟨gm, i, none⟩ = some (.bool true)) (hcf : wa.drew.frozen? ⟨gm, i, none⟩ = false) (hw : wa.drew.cell? ⟨gw, i, none⟩ = some (.bool gv))
    (hend : ∀ (s : Tmp → Value), Q .normal (overlay a0 (dstsOf ops_r43_t) s) (wa.drew.setCell ⟨gm, i, none⟩ (.bool gv))) : (Code.region 43 ops_r43_t true).wp Tryd.prog Q a0 wa := by
  refine L.wp_region_eachL (by kernel_rfl) (fun _ t v _ => G_r43_t gm gw i gv t v) (fun l W => S1 16 wa.drew (wa.drew.setCell ⟨gm, i, none⟩ (.bool gv)) l W) (by rw [hz]; kernel_rfl) (S1.init) ?_ ?_
  · refine And.intro ?_ (And.intro ?_ (And.intro ?_ (And.intro ?_ (And.intro ?_ (And.intro ?_ (And.intro ?_ (And.intro ?_ (And.intro ?_ (And.intro ?_ (And.intro ?_ (And.intro ?_ (And.intro ?_ (And.intro ?_ (And.intro ?_ (And.intro ?_ (And.intro ?_ trivial))))))))))))))))
    · refine ask_v rfl rfl (fun l a W H => ⟨_, W, ?_, rfl, H.s.skip (by decide)⟩)
      have e4 : a.eval (.tmp 4) = .pointer (some ⟨gm, 0, none⟩) := (H.base 4 rfl).trans b4
      exact ex_move rfl e4
    · refine ask_v rfl rfl (fun l a W H => ⟨_, W, ?_, rfl, H.s.skip (by decide)⟩)
      have e16 : a.eval (.tmp 16) = .int .i64 (i : Nat) := (H.base 16 rfl).trans b16
      exact ex_move rfl e16
    · refine ask_v rfl rfl (fun l a W H => ⟨_, W, ?_, rfl, H.s.skip (by decide)⟩)
      have e4 : a.eval (.tmp 4) = .pointer (some ⟨gm, 0, none⟩) := (H.base 4 rfl).trans b4
      exact ex_move rfl e4
    · refine ask_v rfl rfl (fun l a W H => ⟨_, W, ?_, rfl, H.s.skip (by decide)⟩)
      have e16 : a.eval (.tmp 16) = .int .i64 (i : Nat) := (H.base 16 rfl).trans b16
      exact ex_move rfl e16
    · refine ask_v rfl rfl (fun l a W H => ⟨_, W, ?_, rfl, H.s.skip (by decide)⟩)
      have e162 : a.eval (.tmp 162) = .pointer (some ⟨gm, 0, none⟩) := H.facts 162 rfl
      (simp only [execOp]; try simp only [Option.map]); (try simp only [List.map_toArray, List.map_cons, List.map_nil]); (simp only [e162]; go_simp)
    · refine ask_v rfl rfl (fun l a W H => ⟨_, W, ?_, rfl, H.s.skip (by decide)⟩)
      have e164 : a.eval (.tmp 164) = .pointer (some ⟨gm, 0, none⟩) := H.facts 164 rfl
      have e163 : a.eval (.tmp 163) = .int .i64 (i : Nat) := H.facts 163 rfl
      have hx' : (i : Int) < 4096 := by omega
      (simp only [execOp]; try simp only [Option.map]); (try simp only [List.map_toArray, List.map_cons, List.map_nil]); (simp only [e164, e163]; go_simp)
    · refine ask_v rfl rfl (fun l a W H => ⟨_, W, ?_, rfl, H.s.skip (by decide)⟩)
      have e165 : a.eval (.tmp 165) = .pointer (some ⟨gm, i, none⟩) := H.facts 165 rfl
      have n16 : l 16 = false := Bool.eq_false_iff.2 fun hs => absurd (H.new.symm.trans (H.closed 16 6 (by rfl) hs)) (by decide)
      obtain rfl := H.s.off n16
      have hcm := hc
      (simp only [execOp]; try simp only [Option.map]); (try simp only [List.map_toArray, List.map_cons, List.map_nil]); (simp only [e165]; go_simp)
    · refine ask_v rfl rfl (fun l a W H => ⟨_, W, ?_, rfl, H.s.skip (by decide)⟩)
      have e166 : a.eval (.tmp 166) = .bool true := H.facts 166 rfl
      exact ex_move rfl e166
    · refine ask_v ⟨167, rfl, rfl, fun _ h => h⟩ rfl (fun l a W H => ⟨_, W, ?_, rfl, H.s.skip (by decide)⟩)
      have e11 : a.eval (.tmp 11) = .pointer (some ⟨gw, 0, none⟩) := (H.base 11 rfl).trans b11
      exact ex_move rfl e11
    · refine ask_v ⟨167, rfl, rfl, fun _ h => h⟩ rfl (fun l a W H => ⟨_, W, ?_, rfl, H.s.skip (by decide)⟩)
      have e16 : a.eval (.tmp 16) = .int .i64 (i : Nat) := (H.base 16 rfl).trans b16
      exact ex_move rfl e16
    · refine ask_v ⟨167, rfl, rfl, fun _ h => h⟩ rfl (fun l a W H => ⟨_, W, ?_, rfl, H.s.skip (by decide)⟩)
      have e168 : a.eval (.tmp 168) = .pointer (some ⟨gw, 0, none⟩) := H.facts 168 rfl
      (simp only [execOp]; try simp only [Option.map]); (try simp only [List.map_toArray, List.map_cons, List.map_nil]); (simp only [e168]; go_simp)
    · refine ask_v ⟨167, rfl, rfl, fun _ h => h⟩ rfl (fun l a W H => ⟨_, W, ?_, rfl, H.s.skip (by decide)⟩)
      have e170 : a.eval (.tmp 170) = .pointer (some ⟨gw, 0, none⟩) := H.facts 170 rfl
      have e169 : a.eval (.tmp 169) = .int .i64 (i : Nat) := H.facts 169 rfl
      have hx' : (i : Int) < 4096 := by omega
      (simp only [execOp]; try simp only [Option.map]); (try simp only [List.map_toArray, List.map_cons, List.map_nil]); (simp only [e170, e169]; go_simp)
    · refine ask_v ⟨167, rfl, rfl, fun _ h => h⟩ rfl (fun l a W H => ⟨_, W, ?_, rfl, H.s.skip (by decide)⟩)
      have e171 : a.eval (.tmp 171) = .pointer (some ⟨gw, i, none⟩) := H.facts 171 rfl
      have n16 : l 16 = false := Bool.eq_false_iff.2 fun hs => absurd (H.new.symm.trans (H.closed 16 12 (by rfl) hs)) (by decide)
      obtain rfl := H.s.off n16
      have hcm := hw
      (simp only [execOp]; try simp only [Option.map]); (try simp only [List.map_toArray, List.map_cons, List.map_nil]); (simp only [e171]; go_simp)
    · refine ask_v rfl rfl (fun l a W H => ⟨_, W, ?_, rfl, H.s.skip (by decide)⟩)
      have e167 : a.eval (.tmp 167) = .bool true := H.facts 167 rfl
      have e172 : a.eval (.tmp 172) = .bool gv := H.facts 172 rfl
      exact ex_pick1 rfl e167 e172
    · refine ask_v rfl rfl (fun l a W H => ⟨_, W, ?_, rfl, H.s.skip (by decide)⟩)
      have e160 : a.eval (.tmp 160) = .pointer (some ⟨gm, 0, none⟩) := H.facts 160 rfl
      (simp only [execOp]; try simp only [Option.map]); (try simp only [List.map_toArray, List.map_cons, List.map_nil]); (simp only [e160]; go_simp)
    · refine ask_v rfl rfl (fun l a W H => ⟨_, W, ?_, rfl, H.s.skip (by decide)⟩)
      have e174 : a.eval (.tmp 174) = .pointer (some ⟨gm, 0, none⟩) := H.facts 174 rfl
      have e161 : a.eval (.tmp 161) = .int .i64 (i : Nat) := H.facts 161 rfl
      have hx' : (i : Int) < 4096 := by omega
      (simp only [execOp]; try simp only [Option.map]); (try simp only [List.map_toArray, List.map_cons, List.map_nil]); (simp only [e174, e161]; go_simp)
    · refine ask_s rfl rfl (fun l a W H => ?_)
      have n16 : l 16 = false := H.new
      have e175 : a.eval (.tmp 175) = .pointer (some ⟨gm, i, none⟩) := H.facts 175 rfl
      have e173 : a.eval (.tmp 173) = .bool gv := H.facts 173 rfl
      obtain rfl := H.s.off n16
      exact ⟨_, run_store_bool rfl e175 e173 hc hcf, H.s.last⟩
  · intro l s W hall hS hs
    obtain rfl := hS.on (hall 16 (by decide))
    exact hend s

def ops_r43_f : Array Oper := #[⟨some 160, .move (.tmp 4), 28, "law.go:102", #[], none⟩, ⟨some 161, .move (.tmp 16), 3, "law.go:102", #[], none⟩, ⟨some 162, .move (.tmp 4), 28, "law.go:102", #[], none⟩, ⟨some 163, .move (.tmp 16), 3, "law.go:102", #[], none⟩, ⟨some 164, .nilCheck (.tmp 162), 0, "law.go:102", #[⟨2, .data⟩], none⟩, ⟨some 165, .indexAddr 30 (.tmp 164) (.tmp 163), 0, "law.go:102", #[⟨4, .data⟩, ⟨3, .data⟩], none⟩, ⟨some 166, .load 4 (.tmp 165), 4, "law.go:102", #[⟨5, .data⟩], none⟩, ⟨some 167, .move (.tmp 166), 4, "law.go:102", #[⟨6, .data⟩], none⟩, ⟨some 168, .move (.tmp 11), 28, "law.go:102", #[⟨7, .guard⟩], some (7, true)⟩, ⟨some 169, .move (.tmp 16), 3, "law.go:102", #[⟨7, .guard⟩], some (7, true)⟩, ⟨some 170, .nilCheck (.tmp 168), 0, "law.go:102", #[⟨8, .data⟩, ⟨7, .guard⟩], some (7, true)⟩, ⟨some 171, .indexAddr 30 (.tmp 170) (.tmp 169), 0, "law.go:102", #[⟨10, .data⟩, ⟨9, .data⟩, ⟨7, .guard⟩], some (7, true)⟩, ⟨some 172, .load 4 (.tmp 171), 4, "law.go:102", #[⟨11, .data⟩, ⟨7, .guard⟩], some (7, true)⟩, ⟨some 173, .pick (.tmp 167) (.tmp 172) (.const (.bool false)), 4, "law.go:102", #[⟨7, .data⟩, ⟨12, .data⟩], none⟩, ⟨some 174, .nilCheck (.tmp 160), 0, "law.go:102", #[⟨0, .data⟩], none⟩, ⟨some 175, .indexAddr 30 (.tmp 174) (.tmp 161), 0, "law.go:102", #[⟨14, .data⟩, ⟨1, .data⟩, ⟨0, .phase⟩, ⟨1, .phase⟩, ⟨2, .phase⟩, ⟨3, .phase⟩, ⟨4, .phase⟩, ⟨5, .phase⟩, ⟨6, .phase⟩, ⟨7, .phase⟩, ⟨8, .phase⟩, ⟨9, .phase⟩, ⟨10, .phase⟩, ⟨11, .phase⟩, ⟨12, .phase⟩, ⟨13, .phase⟩], none⟩, ⟨none, .store 4 (.tmp 175) (.tmp 173), 0, "law.go:102", #[⟨15, .data⟩, ⟨13, .data⟩, ⟨7, .chain⟩, ⟨0, .phase⟩, ⟨1, .phase⟩, ⟨2, .phase⟩, ⟨3, .phase⟩, ⟨4, .phase⟩, ⟨5, .phase⟩, ⟨6, .phase⟩, ⟨7, .phase⟩, ⟨8, .phase⟩, ⟨9, .phase⟩, ⟨10, .phase⟩, ⟨11, .phase⟩, ⟨12, .phase⟩, ⟨13, .phase⟩], none⟩]
def G_r43_f (gm gw i : Nat) (gv : Bool) : Tmp → Value → Prop
  | 160, xx => xx = .pointer (some ⟨gm, 0, none⟩)
  | 161, xx => xx = .int .i64 (i : Nat)
  | 162, xx => xx = .pointer (some ⟨gm, 0, none⟩)
  | 163, xx => xx = .int .i64 (i : Nat)
  | 164, xx => xx = .pointer (some ⟨gm, 0, none⟩)
  | 165, xx => xx = .pointer (some ⟨gm, i, none⟩)
  | 166, xx => xx = .bool false
  | 167, xx => xx = .bool false
  | 168, xx => xx = undef
  | 169, xx => xx = undef
  | 170, xx => xx = undef
  | 171, xx => xx = undef
  | 172, xx => xx = undef
  | 173, xx => xx = .bool false
  | 174, xx => xx = .pointer (some ⟨gm, 0, none⟩)
  | 175, xx => xx = .pointer (some ⟨gm, i, none⟩)
  | _, _ => True
set_option maxHeartbeats 4000000 in
set_option maxRecDepth 100000 in
theorem r43_f {Q : Exit → Act → World → Prop} {a0 : Act} {wa : World} (gm gw i : Nat) (gv : Bool) (hz : a0.tmps.size = 240) (b4 : a0.eval (.tmp 4) = .pointer (some ⟨gm, 0, none⟩)) (b16 : a0.eval (.tmp 16) = .int .i64 (i : Nat)) (b11 : a0.eval (.tmp 11) = .pointer (some ⟨gw, 0, none⟩)) (hx : i < 4096) (hc : wa.drew.cell? ⟨gm, i, none⟩ = some (.bool false)) (hcf : wa.drew.frozen? ⟨gm, i, none⟩ = false) (hw : wa.drew.cell? ⟨gw, i, none⟩ = some (.bool gv))
    (hend : ∀ (s : Tmp → Value), Q .normal (overlay a0 (dstsOf ops_r43_f) s) (wa.drew.setCell ⟨gm, i, none⟩ (.bool false))) : (Code.region 43 ops_r43_f true).wp Tryd.prog Q a0 wa := by
  refine L.wp_region_eachL (by kernel_rfl) (fun _ t v _ => G_r43_f gm gw i gv t v) (fun l W => S1 16 wa.drew (wa.drew.setCell ⟨gm, i, none⟩ (.bool false)) l W) (by rw [hz]; kernel_rfl) (S1.init) ?_ ?_
  · refine And.intro ?_ (And.intro ?_ (And.intro ?_ (And.intro ?_ (And.intro ?_ (And.intro ?_ (And.intro ?_ (And.intro ?_ (And.intro ?_ (And.intro ?_ (And.intro ?_ (And.intro ?_ (And.intro ?_ (And.intro ?_ (And.intro ?_ (And.intro ?_ (And.intro ?_ trivial))))))))))))))))
    · refine ask_v rfl rfl (fun l a W H => ⟨_, W, ?_, rfl, H.s.skip (by decide)⟩)
      have e4 : a.eval (.tmp 4) = .pointer (some ⟨gm, 0, none⟩) := (H.base 4 rfl).trans b4
      exact ex_move rfl e4
    · refine ask_v rfl rfl (fun l a W H => ⟨_, W, ?_, rfl, H.s.skip (by decide)⟩)
      have e16 : a.eval (.tmp 16) = .int .i64 (i : Nat) := (H.base 16 rfl).trans b16
      exact ex_move rfl e16
    · refine ask_v rfl rfl (fun l a W H => ⟨_, W, ?_, rfl, H.s.skip (by decide)⟩)
      have e4 : a.eval (.tmp 4) = .pointer (some ⟨gm, 0, none⟩) := (H.base 4 rfl).trans b4
      exact ex_move rfl e4
    · refine ask_v rfl rfl (fun l a W H => ⟨_, W, ?_, rfl, H.s.skip (by decide)⟩)
      have e16 : a.eval (.tmp 16) = .int .i64 (i : Nat) := (H.base 16 rfl).trans b16
      exact ex_move rfl e16
    · refine ask_v rfl rfl (fun l a W H => ⟨_, W, ?_, rfl, H.s.skip (by decide)⟩)
      have e162 : a.eval (.tmp 162) = .pointer (some ⟨gm, 0, none⟩) := H.facts 162 rfl
      (simp only [execOp]; try simp only [Option.map]); (try simp only [List.map_toArray, List.map_cons, List.map_nil]); (simp only [e162]; go_simp)
    · refine ask_v rfl rfl (fun l a W H => ⟨_, W, ?_, rfl, H.s.skip (by decide)⟩)
      have e164 : a.eval (.tmp 164) = .pointer (some ⟨gm, 0, none⟩) := H.facts 164 rfl
      have e163 : a.eval (.tmp 163) = .int .i64 (i : Nat) := H.facts 163 rfl
      have hx' : (i : Int) < 4096 := by omega
      (simp only [execOp]; try simp only [Option.map]); (try simp only [List.map_toArray, List.map_cons, List.map_nil]); (simp only [e164, e163]; go_simp)
    · refine ask_v rfl rfl (fun l a W H => ⟨_, W, ?_, rfl, H.s.skip (by decide)⟩)
      have e165 : a.eval (.tmp 165) = .pointer (some ⟨gm, i, none⟩) := H.facts 165 rfl
      have n16 : l 16 = false := Bool.eq_false_iff.2 fun hs => absurd (H.new.symm.trans (H.closed 16 6 (by rfl) hs)) (by decide)
      obtain rfl := H.s.off n16
      have hcm := hc
      (simp only [execOp]; try simp only [Option.map]); (try simp only [List.map_toArray, List.map_cons, List.map_nil]); (simp only [e165]; go_simp)
    · refine ask_v rfl rfl (fun l a W H => ⟨_, W, ?_, rfl, H.s.skip (by decide)⟩)
      have e166 : a.eval (.tmp 166) = .bool false := H.facts 166 rfl
      exact ex_move rfl e166
    · refine ask_no ⟨167, rfl, rfl, fun _ h => h⟩ (fun d h => by cases h; exact rfl) (fun _ _ h => h.skip (by decide))
    · refine ask_no ⟨167, rfl, rfl, fun _ h => h⟩ (fun d h => by cases h; exact rfl) (fun _ _ h => h.skip (by decide))
    · refine ask_no ⟨167, rfl, rfl, fun _ h => h⟩ (fun d h => by cases h; exact rfl) (fun _ _ h => h.skip (by decide))
    · refine ask_no ⟨167, rfl, rfl, fun _ h => h⟩ (fun d h => by cases h; exact rfl) (fun _ _ h => h.skip (by decide))
    · refine ask_no ⟨167, rfl, rfl, fun _ h => h⟩ (fun d h => by cases h; exact rfl) (fun _ _ h => h.skip (by decide))
    · refine ask_v rfl rfl (fun l a W H => ⟨_, W, ?_, rfl, H.s.skip (by decide)⟩)
      have e167 : a.eval (.tmp 167) = .bool false := H.facts 167 rfl
      exact ex_pick0 rfl e167 rfl
    · refine ask_v rfl rfl (fun l a W H => ⟨_, W, ?_, rfl, H.s.skip (by decide)⟩)
      have e160 : a.eval (.tmp 160) = .pointer (some ⟨gm, 0, none⟩) := H.facts 160 rfl
      (simp only [execOp]; try simp only [Option.map]); (try simp only [List.map_toArray, List.map_cons, List.map_nil]); (simp only [e160]; go_simp)
    · refine ask_v rfl rfl (fun l a W H => ⟨_, W, ?_, rfl, H.s.skip (by decide)⟩)
      have e174 : a.eval (.tmp 174) = .pointer (some ⟨gm, 0, none⟩) := H.facts 174 rfl
      have e161 : a.eval (.tmp 161) = .int .i64 (i : Nat) := H.facts 161 rfl
      have hx' : (i : Int) < 4096 := by omega
      (simp only [execOp]; try simp only [Option.map]); (try simp only [List.map_toArray, List.map_cons, List.map_nil]); (simp only [e174, e161]; go_simp)
    · refine ask_s rfl rfl (fun l a W H => ?_)
      have n16 : l 16 = false := H.new
      have e175 : a.eval (.tmp 175) = .pointer (some ⟨gm, i, none⟩) := H.facts 175 rfl
      have e173 : a.eval (.tmp 173) = .bool false := H.facts 173 rfl
      obtain rfl := H.s.off n16
      exact ⟨_, run_store_bool rfl e175 e173 hc hcf, H.s.last⟩
  · intro l s W hall hS hs
    obtain rfl := hS.on (hall 16 (by decide))
    exact hend s
end Go.Proofs.YtdeebmpmfedjbaaDoor
