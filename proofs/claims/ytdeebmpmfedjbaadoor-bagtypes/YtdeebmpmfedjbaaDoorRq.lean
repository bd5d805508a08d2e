/- Queues of pairs: the regions of Put that draw their order. -/
import Derived.Test.YtdeebmpmfedjbaaDoorRg
import Derived.Test.YtdeebmpmfedjbaaDoorKp
import Derived.Test.YtdeebmpmfedjbaaDoorM4
namespace Go.Proofs.YtdeebmpmfedjbaaDoor
open Go Go.RowKit Bag
set_option linter.unusedVariables false
/-- One operation, n, turns the world. -/
structure S1 (n : Nat) (W0 W1 : World) (l : Nat → Bool) (W : World) : Prop where
  off : l n = false → W = W0
  on : l n = true → W = W1
theorem S1.skip {n j : Nat} {W0 W1 W : World} {l : Nat → Bool} (h : S1 n W0 W1 l W) (hj : n ≠ j) : S1 n W0 W1 (upd l j) W := by
  have e : upd l j n = l n := if_neg hj
  exact ⟨fun k => h.off (by rw [← e]; exact k), fun k => h.on (by rw [← e]; exact k)⟩
theorem S1.last {n : Nat} {W0 W1 W : World} {l : Nat → Bool} (h : S1 n W0 W1 l W) : S1 n W0 W1 (upd l n) W1 := by
  have e : upd l n n = true := if_pos rfl
  exact ⟨fun k => absurd (e.symm.trans k) (by decide), fun _ => rfl⟩
theorem S1.init {n : Nat} {W0 W1 : World} : S1 n W0 W1 (fun _ => false) W0 := ⟨fun _ => rfl, fun k => absurd k (by decide)⟩
theorem S1.gb {n : Nat} {W0 W1 W : World} {l : Nat → Bool} (h : S1 n W0 W1 l W) (hg : W0.grownBy W1 none) : W0.grownBy W none := by
  cases e : l n
  · rw [h.off e]; exact gb_refl _ _
  · rw [h.on e]; exact hg
/-- Operations 6, 7, 10 turn the world, one behind the other. -/
structure S9 (W0 W1 W2 W3 : World) (l : Nat → Bool) (W : World) : Prop where
  p0 : l 6 = false → l 7 = false → l 10 = false → W = W0
  p1 : l 6 = true → l 7 = false → l 10 = false → W = W1
  p2 : l 7 = true → l 10 = false → W = W2
  p3 : l 10 = true → W = W3
section
variable {W0 W1 W2 W3 W : World} {l : Nat → Bool} {j : Nat}
theorem upd_ne {n : Nat} (h : n ≠ j) : upd l j n = l n := if_neg h
theorem upd_eq : upd l j j = true := if_pos rfl
theorem S9.skip (h : S9 W0 W1 W2 W3 l W) (h6 : 6 ≠ j) (h7 : 7 ≠ j) (h10 : 10 ≠ j) : S9 W0 W1 W2 W3 (upd l j) W :=
  ⟨by rw [upd_ne h6, upd_ne h7, upd_ne h10]; exact h.p0, by rw [upd_ne h6, upd_ne h7, upd_ne h10]; exact h.p1, by rw [upd_ne h7, upd_ne h10]; exact h.p2, by rw [upd_ne h10]; exact h.p3⟩
theorem S9.next6 (h : S9 W0 W1 W2 W3 l W) (n7 : l 7 = false) (n10 : l 10 = false) : S9 W0 W1 W2 W3 (upd l 6) W1 :=
  ⟨fun k => absurd (upd_eq.symm.trans k) (by decide), fun _ _ _ => rfl, fun k => absurd (n7.symm.trans ((upd_ne (by decide)).symm.trans k)) (by decide), fun k => absurd (n10.symm.trans ((upd_ne (by decide)).symm.trans k)) (by decide)⟩
theorem S9.next7 (h : S9 W0 W1 W2 W3 l W) (n10 : l 10 = false) : S9 W0 W1 W2 W3 (upd l 7) W2 :=
  ⟨fun _ k => absurd (upd_eq.symm.trans k) (by decide), fun _ k => absurd (upd_eq.symm.trans k) (by decide), fun _ _ => rfl, fun k => absurd (n10.symm.trans ((upd_ne (by decide)).symm.trans k)) (by decide)⟩
theorem S9.last (h : S9 W0 W1 W2 W3 l W) : S9 W0 W1 W2 W3 (upd l 10) W3 :=
  ⟨fun _ _ k => absurd (upd_eq.symm.trans k) (by decide), fun _ _ k => absurd (upd_eq.symm.trans k) (by decide), fun _ k => absurd (upd_eq.symm.trans k) (by decide), fun _ => rfl⟩
theorem S9.init : S9 W0 W1 W2 W3 (fun _ => false) W0 := ⟨fun _ _ _ => rfl, fun k => absurd k (by decide), fun k => absurd k (by decide), fun k => absurd k (by decide)⟩
theorem S9.gb (h : S9 W0 W1 W2 W3 l W) (n7 : l 7 = false) (n10 : l 10 = false) (hg : W0.grownBy W1 none) : W0.grownBy W none := by
  cases e : l 6
  · rw [h.p0 e n7 n10]; exact gb_refl _ _
  · rw [h.p1 e n7 n10]; exact hg
end
section
variable {ρ : Operand → Value} {o : Oper} {w w' : World}
theorem ex_lookup {t : TypeId} {x y : Operand} {b : Bool} {vx vy v : Value} (ho : o.op = .lookup t x y b) (hx : ρ x = vx) (hy : ρ y = vy) (h : (Instr.lookup t vx vy b).run Tryd.prog w = .ok v w) : (execOp ρ o).run Tryd.prog w = .ok (.value v) w := by
  unfold execOp
  simp only [ho, hx, hy, Sem.run_bind, h, Result.andThen_ok, Sem.run_pure]
theorem build92 (W : World) : (Instr.build 92 #[]).run Tryd.prog W = .ok (.agg #[]) W := by kernel_rfl
theorem ex_build92 (ho : o.op = .build 92 #[]) : (execOp ρ o).run Tryd.prog w = .ok (.value (.agg #[])) w := by
  unfold execOp
  simp only [ho, List.map_toArray, List.map_nil, Sem.run_bind, build92, Result.andThen_ok, Sem.run_pure]
theorem ex_update {t : TypeId} {x y z : Operand} {vx vy vz : Value} (ho : o.op = .mapUpdate t x y z) (hx : ρ x = vx) (hy : ρ y = vy) (hz : ρ z = vz) (h : (Instr.mapUpdate t vx vy vz).run Tryd.prog w = .ok () w') : (execOp ρ o).run Tryd.prog w = .ok .skip w' := by
  unfold execOp
  simp only [ho, hx, hy, hz, Sem.run_bind, h, Result.andThen_ok, Sem.run_pure]
end
def ops_q3 : Array Oper := #[⟨some 11, .move (.tmp 0), 91, "bag.go:128", #[], none⟩, ⟨some 12, .nilCheck (.tmp 11), 0, "bag.go:128", #[⟨0, .data⟩], none⟩, ⟨some 13, .fieldAddr 51 (.tmp 12) 1, 0, "bag.go:128", #[⟨1, .data⟩], none⟩, ⟨some 14, .load 49 (.tmp 13), 49, "bag.go:128", #[⟨2, .data⟩], none⟩, ⟨some 15, .load 60 (.tmp 3), 60, "bag.go:128", #[], none⟩, ⟨some 16, .lookup 49 (.tmp 14) (.tmp 15) true, 93, "bag.go:128", #[⟨3, .data⟩, ⟨4, .data⟩], none⟩, ⟨some 10, .move (.tmp 16), 93, "bag.go:128", #[⟨5, .data⟩], none⟩, ⟨some 17, .extract (.tmp 10) 0, 92, "bag.go:128", #[⟨6, .data⟩], none⟩, ⟨some 18, .extract (.tmp 10) 1, 4, "bag.go:128", #[⟨6, .data⟩, { on := 10, ground := Ground.gcOnly Departure.lateStores }], none⟩, ⟨some 5, .alloc 92, 0, "bag.go:128", #[], none⟩, ⟨none, .store 92 (.tmp 5) (.tmp 17), 0, "bag.go:128", #[⟨9, .data⟩, ⟨7, .data⟩, ⟨0, .phase⟩, ⟨1, .phase⟩, ⟨2, .phase⟩, ⟨3, .phase⟩, ⟨4, .phase⟩, ⟨5, .phase⟩, ⟨6, .phase⟩, ⟨7, .phase⟩, { on := 8, ground := Ground.textOnly Departure.lateStores }, ⟨9, .phase⟩], none⟩, ⟨some 6, .assign (.tmp 18), 4, "bag.go:128", #[⟨8, .data⟩, ⟨10, .chain⟩, ⟨0, .phase⟩, ⟨1, .phase⟩, ⟨2, .phase⟩, ⟨3, .phase⟩, ⟨4, .phase⟩, ⟨5, .phase⟩, ⟨6, .phase⟩, ⟨7, .phase⟩, ⟨8, .phase⟩, ⟨9, .phase⟩, ⟨10, .phase⟩], none⟩]
def G_q3 (b g3 g5 : Nat) (mo : Option Nat) (hs : Bool) (k : ByteArray) : Tmp → Value → Prop
  | 11, xx => xx = .pointer (some ⟨b, 0, none⟩)
  | 12, xx => xx = .pointer (some ⟨b, 0, none⟩)
  | 13, xx => xx = .pointer (some ⟨b, 1, none⟩)
  | 14, xx => xx = .map mo
  | 15, xx => xx = .agg #[.string k, .string pv.kx2]
  | 16, xx => xx = .tuple #[.agg #[], .bool hs]
  | 10, xx => xx = .tuple #[.agg #[], .bool hs]
  | 17, xx => xx = .agg #[]
  | 18, xx => xx = .bool hs
  | 5, xx => xx = .pointer (some ⟨g5, 0, none⟩)
  | 6, xx => xx = .bool hs
  | _, _ => True
set_option maxHeartbeats 4000000 in
set_option maxRecDepth 100000 in
theorem q3 {Q : Exit → Act → World → Prop} {a0 : Act} {wa : World} (b g3 g5 : Nat) (mo : Option Nat) (hs : Bool) (k : ByteArray) (hz : a0.tmps.size = 45) (b0 : a0.eval (.tmp 0) = .pointer (some ⟨b, 0, none⟩)) (b3 : a0.eval (.tmp 3) = .pointer (some ⟨g3, 0, none⟩)) (h5 : wa.heap.size = g5) (hc : wa.drew.cell? ⟨b, 1, none⟩ = some (.map mo)) (h3 : wa.drew.heap[g3]? = some (.cells #[.string k, .string pv.kx2] 60 (0, 0))) (hlook : ∀ W, wa.drew.grownBy W none → (Instr.lookup 49 (.map mo) (.agg #[.string k, .string pv.kx2]) true).run Tryd.prog W = .ok (.tuple #[.agg #[], .bool hs]) W)
    (hend : ∀ (s : Tmp → Value), s 6 = .bool hs → Q .normal (overlay a0 (dstsOf ops_q3) s) (wa.drew.alloc (.cells #[] 92))) : (Code.region 3 ops_q3 true).wp Tryd.prog Q a0 wa := by
  refine L.wp_region_eachL (by kernel_rfl) (fun _ t v _ => G_q3 b g3 g5 mo hs k t v) (fun l W => S1 9 wa.drew (wa.drew.alloc (.cells #[] 92)) l W) (by rw [hz]; kernel_rfl) (S1.init) ?_ ?_
  · refine And.intro ?_ (And.intro ?_ (And.intro ?_ (And.intro ?_ (And.intro ?_ (And.intro ?_ (And.intro ?_ (And.intro ?_ (And.intro ?_ (And.intro ?_ (And.intro ?_ (And.intro ?_ trivial)))))))))))
    · refine ask_v rfl rfl (fun l a W H => ⟨_, W, ?_, rfl, H.s.skip (by decide)⟩)
      have e0 : a.eval (.tmp 0) = .pointer (some ⟨b, 0, none⟩) := (H.base 0 rfl).trans b0
      exact ex_move rfl e0
    · refine ask_v rfl rfl (fun l a W H => ⟨_, W, ?_, rfl, H.s.skip (by decide)⟩)
      have e11 : a.eval (.tmp 11) = .pointer (some ⟨b, 0, none⟩) := H.facts 11 rfl
      (simp only [execOp]; try simp only [Option.map]); (try simp only [List.map_toArray, List.map_cons, List.map_nil]); (simp only [e11]; go_simp)
    · refine ask_v rfl rfl (fun l a W H => ⟨_, W, ?_, rfl, H.s.skip (by decide)⟩)
      have e12 : a.eval (.tmp 12) = .pointer (some ⟨b, 0, none⟩) := H.facts 12 rfl
      (simp only [execOp]; try simp only [Option.map]); (try simp only [List.map_toArray, List.map_cons, List.map_nil]); (simp only [e12]; go_simp)
    · refine ask_v rfl rfl (fun l a W H => ⟨_, W, ?_, rfl, H.s.skip (by decide)⟩)
      have e13 : a.eval (.tmp 13) = .pointer (some ⟨b, 1, none⟩) := H.facts 13 rfl
      have hcm := (H.s.gb (World.grownBy_alloc _ _ none)).cell hc (by simp)
      (simp only [execOp]; try simp only [Option.map]); (try simp only [List.map_toArray, List.map_cons, List.map_nil]); (simp only [e13]; go_simp)
    · refine ask_v rfl rfl (fun l a W H => ⟨_, W, ?_, rfl, H.s.skip (by decide)⟩)
      have e3 : a.eval (.tmp 3) = .pointer (some ⟨g3, 0, none⟩) := (H.base 3 rfl).trans b3
      exact ex_load rfl e3 ((cells_at h3 (H.s.gb (World.grownBy_alloc _ _ none)) (by simp))) Tryd.underlying60 rfl info60
    · refine ask_v rfl rfl (fun l a W H => ⟨_, W, ?_, rfl, H.s.skip (by decide)⟩)
      have e14 : a.eval (.tmp 14) = .map mo := H.facts 14 rfl
      have e15 : a.eval (.tmp 15) = .agg #[.string k, .string pv.kx2] := H.facts 15 rfl
      exact ex_lookup rfl e14 e15 (hlook W (H.s.gb (World.grownBy_alloc _ _ none)))
    · refine ask_v rfl rfl (fun l a W H => ⟨_, W, ?_, rfl, H.s.skip (by decide)⟩)
      have e16 : a.eval (.tmp 16) = .tuple #[.agg #[], .bool hs] := H.facts 16 rfl
      exact ex_move rfl e16
    · refine ask_v rfl rfl (fun l a W H => ⟨_, W, ?_, rfl, H.s.skip (by decide)⟩)
      have e10 : a.eval (.tmp 10) = .tuple #[.agg #[], .bool hs] := H.facts 10 rfl
      unfold execOp
      simp only [e10]
      rfl
    · refine ask_v rfl rfl (fun l a W H => ⟨_, W, ?_, rfl, H.s.skip (by decide)⟩)
      have e10 : a.eval (.tmp 10) = .tuple #[.agg #[], .bool hs] := H.facts 10 rfl
      unfold execOp
      simp only [e10]
      rfl
    · refine ask_v rfl rfl (fun l a W H => ?_)
      have n9 : l 9 = false := H.new
      obtain rfl := H.s.off n9
      refine ⟨.pointer (some ⟨g5, 0, none⟩), _, ?_, rfl, H.s.last⟩
      rw [← h5]
      unfold execOp
      simp only [Instr.alloc, Sem.run_bind, zero92, Result.andThen_ok]
      rfl
    · refine ask_s rfl rfl (fun l a W H => ?_)
      have y9 : l 9 = true := (H.deps ⟨9, .data⟩ (by simp) rfl)
      obtain rfl := H.s.on y9
      have e5 : a.eval (.tmp 5) = .pointer (some ⟨g5, 0, none⟩) := H.facts 5 rfl
      have e17 : a.eval (.tmp 17) = .agg #[] := H.facts 17 rfl
      refine ⟨_, ?_, H.s.skip (by decide)⟩
      simp only [execOp, e5, e17]
      go_simp
    · refine ask_v rfl rfl (fun l a W H => ⟨_, W, ?_, rfl, H.s.skip (by decide)⟩)
      have e18 : a.eval (.tmp 18) = .bool hs := H.facts 18 rfl
      exact ex_assign rfl e18
  · intro l s W hall hS hs0
    obtain rfl := hS.on (hall 9 (by decide))
    exact hend s (hs0 6 rfl)

def ops_q8 : Array Oper := #[⟨some 29, .move (.tmp 0), 91, "bag.go:134", #[], none⟩, ⟨some 30, .nilCheck (.tmp 29), 0, "bag.go:134", #[⟨0, .data⟩], none⟩, ⟨some 31, .fieldAddr 51 (.tmp 30) 1, 0, "bag.go:134", #[⟨1, .data⟩], none⟩, ⟨some 32, .load 49 (.tmp 31), 49, "bag.go:134", #[⟨2, .data⟩], none⟩, ⟨some 33, .load 60 (.tmp 3), 60, "bag.go:134", #[], none⟩, ⟨some 34, .build 92 #[], 92, "bag.go:134", #[], none⟩, ⟨none, .mapUpdate 49 (.tmp 32) (.tmp 33) (.tmp 34), 0, "bag.go:134", #[⟨3, .data⟩, ⟨4, .data⟩, ⟨5, .data⟩, ⟨0, .phase⟩, ⟨1, .phase⟩, ⟨2, .phase⟩, ⟨3, .phase⟩, ⟨4, .phase⟩, ⟨5, .phase⟩], none⟩]
def G_q8 (b g3 m : Nat) (k : ByteArray) : Tmp → Value → Prop
  | 29, xx => xx = .pointer (some ⟨b, 0, none⟩)
  | 30, xx => xx = .pointer (some ⟨b, 0, none⟩)
  | 31, xx => xx = .pointer (some ⟨b, 1, none⟩)
  | 32, xx => xx = .map (some m)
  | 33, xx => xx = .agg #[.string k, .string pv.kx2]
  | 34, xx => xx = .agg #[]
  | _, _ => True
set_option maxHeartbeats 4000000 in
set_option maxRecDepth 100000 in
theorem q8 {Q : Exit → Act → World → Prop} {a0 : Act} {wa : World} (b g3 m : Nat) (k : ByteArray) (hz : a0.tmps.size = 45) (b0 : a0.eval (.tmp 0) = .pointer (some ⟨b, 0, none⟩)) (b3 : a0.eval (.tmp 3) = .pointer (some ⟨g3, 0, none⟩)) (W1 : World) (hc : wa.drew.cell? ⟨b, 1, none⟩ = some (.map (some m))) (h3 : wa.drew.heap[g3]? = some (.cells #[.string k, .string pv.kx2] 60 (0, 0))) (hupd : (Instr.mapUpdate 49 (.map (some m)) (.agg #[.string k, .string pv.kx2]) (.agg #[])).run Tryd.prog wa.drew = .ok () W1)
    (hend : ∀ (s : Tmp → Value), Q .normal (overlay a0 (dstsOf ops_q8) s) W1) : (Code.region 8 ops_q8 true).wp Tryd.prog Q a0 wa := by
  refine L.wp_region_eachL (by kernel_rfl) (fun _ t v _ => G_q8 b g3 m k t v) (fun l W => S1 6 wa.drew W1 l W) (by rw [hz]; kernel_rfl) (S1.init) ?_ ?_
  · refine And.intro ?_ (And.intro ?_ (And.intro ?_ (And.intro ?_ (And.intro ?_ (And.intro ?_ (And.intro ?_ trivial))))))
    · refine ask_v rfl rfl (fun l a W H => ⟨_, W, ?_, rfl, H.s.skip (by decide)⟩)
      have e0 : a.eval (.tmp 0) = .pointer (some ⟨b, 0, none⟩) := (H.base 0 rfl).trans b0
      exact ex_move rfl e0
    · refine ask_v rfl rfl (fun l a W H => ⟨_, W, ?_, rfl, H.s.skip (by decide)⟩)
      have e29 : a.eval (.tmp 29) = .pointer (some ⟨b, 0, none⟩) := H.facts 29 rfl
      (simp only [execOp]; try simp only [Option.map]); (try simp only [List.map_toArray, List.map_cons, List.map_nil]); (simp only [e29]; go_simp)
    · refine ask_v rfl rfl (fun l a W H => ⟨_, W, ?_, rfl, H.s.skip (by decide)⟩)
      have e30 : a.eval (.tmp 30) = .pointer (some ⟨b, 0, none⟩) := H.facts 30 rfl
      (simp only [execOp]; try simp only [Option.map]); (try simp only [List.map_toArray, List.map_cons, List.map_nil]); (simp only [e30]; go_simp)
    · refine ask_v rfl rfl (fun l a W H => ⟨_, W, ?_, rfl, H.s.skip (by decide)⟩)
      have e31 : a.eval (.tmp 31) = .pointer (some ⟨b, 1, none⟩) := H.facts 31 rfl
      have n6 : l 6 = false := Bool.eq_false_iff.2 fun hs => absurd (H.new.symm.trans (H.closed 6 3 (by rfl) hs)) (by decide)
      obtain rfl := H.s.off n6
      (simp only [execOp]; try simp only [Option.map]); (try simp only [List.map_toArray, List.map_cons, List.map_nil]); (simp only [e31]; go_simp)
    · refine ask_v rfl rfl (fun l a W H => ⟨_, W, ?_, rfl, H.s.skip (by decide)⟩)
      have e3 : a.eval (.tmp 3) = .pointer (some ⟨g3, 0, none⟩) := (H.base 3 rfl).trans b3
      have n6 : l 6 = false := Bool.eq_false_iff.2 fun hs => absurd (H.new.symm.trans (H.closed 6 4 (by rfl) hs)) (by decide)
      obtain rfl := H.s.off n6
      exact ex_load rfl e3 h3 Tryd.underlying60 rfl info60
    · refine ask_v rfl rfl (fun l a W H => ⟨_, W, ?_, rfl, H.s.skip (by decide)⟩)
      exact ex_build92 rfl
    · refine ask_s rfl rfl (fun l a W H => ?_)
      have n6 : l 6 = false := H.new
      obtain rfl := H.s.off n6
      have e32 : a.eval (.tmp 32) = .map (some m) := H.facts 32 rfl
      have e33 : a.eval (.tmp 33) = .agg #[.string k, .string pv.kx2] := H.facts 33 rfl
      have e34 : a.eval (.tmp 34) = .agg #[] := H.facts 34 rfl
      exact ⟨_, ex_update rfl e32 e33 e34 hupd, H.s.last⟩
  · intro l s W hall hS hs0
    obtain rfl := hS.on (hall 6 (by decide))
    exact hend s

def ops_q9 : Array Oper := #[⟨some 35, .move (.tmp 0), 91, "bag.go:136", #[], none⟩, ⟨some 36, .move (.tmp 0), 91, "bag.go:136", #[], none⟩, ⟨some 37, .nilCheck (.tmp 36), 0, "bag.go:136", #[⟨1, .data⟩], none⟩, ⟨some 38, .fieldAddr 51 (.tmp 37) 0, 0, "bag.go:136", #[⟨2, .data⟩], none⟩, ⟨some 39, .load 48 (.tmp 38), 48, "bag.go:136", #[⟨3, .data⟩], none⟩, ⟨some 40, .load 60 (.tmp 3), 60, "bag.go:136", #[], none⟩, ⟨some 41, .buildSlice 48 1 #[(0, .tmp 40)], 48, "bag.go:136", #[⟨5, .data⟩], none⟩, ⟨some 42, .call { callee := Callee.builtin Builtin.append, args := #[.tmp 39, .tmp 41], argTypes := #[48, 48] }, 48, "bag.go:136", #[⟨4, .data⟩, ⟨6, .data⟩], none⟩, ⟨some 43, .nilCheck (.tmp 35), 0, "bag.go:136", #[⟨0, .data⟩, ⟨0, .phase⟩, ⟨1, .phase⟩, ⟨2, .phase⟩, ⟨3, .phase⟩, ⟨4, .phase⟩, ⟨5, .phase⟩, ⟨6, .phase⟩, ⟨7, .phase⟩], none⟩, ⟨some 44, .fieldAddr 51 (.tmp 43) 0, 0, "bag.go:136", #[⟨8, .data⟩, ⟨0, .phase⟩, ⟨1, .phase⟩, ⟨2, .phase⟩, ⟨3, .phase⟩, ⟨4, .phase⟩, ⟨5, .phase⟩, ⟨6, .phase⟩, ⟨7, .phase⟩], none⟩, ⟨none, .store 48 (.tmp 44) (.tmp 42), 0, "bag.go:136", #[⟨9, .data⟩, ⟨7, .data⟩, ⟨7, .chain⟩, ⟨0, .phase⟩, ⟨1, .phase⟩, ⟨2, .phase⟩, ⟨3, .phase⟩, ⟨4, .phase⟩, ⟨5, .phase⟩, ⟨6, .phase⟩, ⟨7, .phase⟩], none⟩]
def G_q9 (b g3 g41 : Nat) (k : ByteArray) (ao : Option Addr) (n c : Nat) (ao5 : Option Addr) (n5 c5 : Nat) : Tmp → Value → Prop
  | 35, xx => xx = .pointer (some ⟨b, 0, none⟩)
  | 36, xx => xx = .pointer (some ⟨b, 0, none⟩)
  | 37, xx => xx = .pointer (some ⟨b, 0, none⟩)
  | 38, xx => xx = .pointer (some ⟨b, 0, none⟩)
  | 39, xx => xx = .slice ao n c
  | 40, xx => xx = .agg #[.string k, .string pv.kx2]
  | 41, xx => xx = .slice (some ⟨g41, 0, none⟩) 1 1
  | 42, xx => xx = .slice ao5 n5 c5
  | 43, xx => xx = .pointer (some ⟨b, 0, none⟩)
  | 44, xx => xx = .pointer (some ⟨b, 0, none⟩)
  | _, _ => True
set_option maxHeartbeats 4000000 in
set_option maxRecDepth 100000 in
theorem q9 {Q : Exit → Act → World → Prop} {a0 : Act} {wa : World} (b g3 g41 : Nat) (k : ByteArray) (ao : Option Addr) (n c : Nat) (ao5 : Option Addr) (n5 c5 : Nat) (hz : a0.tmps.size = 45) (b0 : a0.eval (.tmp 0) = .pointer (some ⟨b, 0, none⟩)) (b3 : a0.eval (.tmp 3) = .pointer (some ⟨g3, 0, none⟩)) (W2 : World) (h41 : wa.heap.size = g41) (hc : wa.drew.cell? ⟨b, 0, none⟩ = some (.slice ao n c)) (h3 : wa.drew.heap[g3]? = some (.cells #[.string k, .string pv.kx2] 60 (0, 0))) (happ : (Builtin.append_ #[48, 48] 48 #[.slice ao n c, .slice (some ⟨g41, 0, none⟩) 1 1]).run Tryd.prog (wa.drew.alloc (.cells #[.string k, .string pv.kx2] 60)) = .ok (.slice ao5 n5 c5) W2) (hc2 : W2.cell? ⟨b, 0, none⟩ = some (.slice ao n c)) (hf2 : W2.frozen? ⟨b, 0, none⟩ = false)
    (hend : ∀ (s : Tmp → Value), Q .normal (overlay a0 (dstsOf ops_q9) s) (W2.setCell ⟨b, 0, none⟩ (.slice ao5 n5 c5))) : (Code.region 9 ops_q9 true).wp Tryd.prog Q a0 wa := by
  refine L.wp_region_eachL (by kernel_rfl) (fun _ t v _ => G_q9 b g3 g41 k ao n c ao5 n5 c5 t v) (fun l W => S9 wa.drew (wa.drew.alloc (.cells #[.string k, .string pv.kx2] 60)) W2 (W2.setCell ⟨b, 0, none⟩ (.slice ao5 n5 c5)) l W) (by rw [hz]; kernel_rfl) (S9.init) ?_ ?_
  · refine And.intro ?_ (And.intro ?_ (And.intro ?_ (And.intro ?_ (And.intro ?_ (And.intro ?_ (And.intro ?_ (And.intro ?_ (And.intro ?_ (And.intro ?_ (And.intro ?_ trivial))))))))))
    · refine ask_v rfl rfl (fun l a W H => ⟨_, W, ?_, rfl, H.s.skip (by decide) (by decide) (by decide)⟩)
      have e0 : a.eval (.tmp 0) = .pointer (some ⟨b, 0, none⟩) := (H.base 0 rfl).trans b0
      exact ex_move rfl e0
    · refine ask_v rfl rfl (fun l a W H => ⟨_, W, ?_, rfl, H.s.skip (by decide) (by decide) (by decide)⟩)
      have e0 : a.eval (.tmp 0) = .pointer (some ⟨b, 0, none⟩) := (H.base 0 rfl).trans b0
      exact ex_move rfl e0
    · refine ask_v rfl rfl (fun l a W H => ⟨_, W, ?_, rfl, H.s.skip (by decide) (by decide) (by decide)⟩)
      have e36 : a.eval (.tmp 36) = .pointer (some ⟨b, 0, none⟩) := H.facts 36 rfl
      (simp only [execOp]; try simp only [Option.map]); (try simp only [List.map_toArray, List.map_cons, List.map_nil]); (simp only [e36]; go_simp)
    · refine ask_v rfl rfl (fun l a W H => ⟨_, W, ?_, rfl, H.s.skip (by decide) (by decide) (by decide)⟩)
      have e37 : a.eval (.tmp 37) = .pointer (some ⟨b, 0, none⟩) := H.facts 37 rfl
      (simp only [execOp]; try simp only [Option.map]); (try simp only [List.map_toArray, List.map_cons, List.map_nil]); (simp only [e37]; go_simp)
    · refine ask_v rfl rfl (fun l a W H => ⟨_, W, ?_, rfl, H.s.skip (by decide) (by decide) (by decide)⟩)
      have e38 : a.eval (.tmp 38) = .pointer (some ⟨b, 0, none⟩) := H.facts 38 rfl
      have n7 : l 7 = false := Bool.eq_false_iff.2 fun hs => absurd (H.new.symm.trans (H.closed 7 4 (by rfl) hs)) (by decide)
      have n10 : l 10 = false := Bool.eq_false_iff.2 fun hs => absurd (H.new.symm.trans (H.closed 10 4 (by rfl) hs)) (by decide)
      have hcm := (H.s.gb n7 n10 (World.grownBy_alloc _ _ none)).cell hc (by simp)
      (simp only [execOp]; try simp only [Option.map]); (try simp only [List.map_toArray, List.map_cons, List.map_nil]); (simp only [e38]; go_simp)
    · refine ask_v rfl rfl (fun l a W H => ⟨_, W, ?_, rfl, H.s.skip (by decide) (by decide) (by decide)⟩)
      have e3 : a.eval (.tmp 3) = .pointer (some ⟨g3, 0, none⟩) := (H.base 3 rfl).trans b3
      have n6 : l 6 = false := Bool.eq_false_iff.2 fun hs => absurd (H.new.symm.trans (H.closed 6 5 (by rfl) hs)) (by decide)
      have n7 : l 7 = false := Bool.eq_false_iff.2 fun hs => absurd (H.new.symm.trans (H.closed 6 5 (by rfl) (H.closed 7 6 (by rfl) hs))) (by decide)
      have n10 : l 10 = false := Bool.eq_false_iff.2 fun hs => absurd (H.new.symm.trans (H.closed 10 5 (by rfl) hs)) (by decide)
      obtain rfl := H.s.p0 n6 n7 n10
      exact ex_load rfl e3 h3 Tryd.underlying60 rfl info60
    · refine ask_v rfl rfl (fun l a W H => ?_)
      have n6 : l 6 = false := H.new
      have n7 : l 7 = false := Bool.eq_false_iff.2 fun hs => absurd (H.new.symm.trans (H.closed 7 6 (by rfl) hs)) (by decide)
      have n10 : l 10 = false := Bool.eq_false_iff.2 fun hs => absurd (H.new.symm.trans (H.closed 10 6 (by rfl) hs)) (by decide)
      obtain rfl := H.s.p0 n6 n7 n10
      have e40 : a.eval (.tmp 40) = .agg #[.string k, .string pv.kx2] := H.facts 40 rfl
      refine ⟨.slice (some ⟨g41, 0, none⟩) 1 1, _, ?_, rfl, H.s.next6 n7 n10⟩
      rw [← h41]
      have e40' : a.tmps[40]?.getD undef = .agg #[.string k, .string pv.kx2] := by simpa [Act.eval] using e40
      unfold execOp
      go_simp
    · refine ask_v rfl rfl (fun l a W H => ?_)
      have n7 : l 7 = false := H.new
      have y6 : l 6 = true := (H.deps ⟨6, .data⟩ (by simp) rfl)
      have n10 : l 10 = false := Bool.eq_false_iff.2 fun hs => absurd (H.new.symm.trans (H.closed 10 7 (by rfl) hs)) (by decide)
      obtain rfl := H.s.p1 y6 n7 n10
      have e39 : a.eval (.tmp 39) = .slice ao n c := H.facts 39 rfl
      have e41 : a.eval (.tmp 41) = .slice (some ⟨g41, 0, none⟩) 1 1 := H.facts 41 rfl
      refine ⟨.slice ao5 n5 c5, _, ?_, rfl, H.s.next7 n10⟩
      unfold execOp
      simp only [resolve, invoke, builtin, Sem.run_bind, Sem.run_pure, Result.andThen_ok, List.map_toArray, List.map_cons, List.map_nil, e39, e41, happ]
    · refine ask_v rfl rfl (fun l a W H => ⟨_, W, ?_, rfl, H.s.skip (by decide) (by decide) (by decide)⟩)
      have e35 : a.eval (.tmp 35) = .pointer (some ⟨b, 0, none⟩) := H.facts 35 rfl
      (simp only [execOp]; try simp only [Option.map]); (try simp only [List.map_toArray, List.map_cons, List.map_nil]); (simp only [e35]; go_simp)
    · refine ask_v rfl rfl (fun l a W H => ⟨_, W, ?_, rfl, H.s.skip (by decide) (by decide) (by decide)⟩)
      have e43 : a.eval (.tmp 43) = .pointer (some ⟨b, 0, none⟩) := H.facts 43 rfl
      (simp only [execOp]; try simp only [Option.map]); (try simp only [List.map_toArray, List.map_cons, List.map_nil]); (simp only [e43]; go_simp)
    · refine ask_s rfl rfl (fun l a W H => ?_)
      have n10 : l 10 = false := H.new
      have y7 : l 7 = true := (H.deps ⟨7, .data⟩ (by simp) rfl)
      obtain rfl := H.s.p2 y7 n10
      have e44 : a.eval (.tmp 44) = .pointer (some ⟨b, 0, none⟩) := H.facts 44 rfl
      have e42 : a.eval (.tmp 42) = .slice ao5 n5 c5 := H.facts 42 rfl
      refine ⟨_, ?_, H.s.last⟩
      simp only [execOp, e44, e42]
      go_simp
  · intro l s W hall hS hs0
    obtain rfl := hS.p3 (hall 10 (by decide))
    exact hend s
end Go.Proofs.YtdeebmpmfedjbaaDoor
