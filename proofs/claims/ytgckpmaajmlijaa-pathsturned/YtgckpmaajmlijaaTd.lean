/- PathsTurned's two functions, each in its box. -/
import Derived.Test.YtgckpmaajmlijaaTb
import Derived.Test.YtgckpmaajmlijaaLw
import Derived.Test.YtgckpmaajmlijaaGr
namespace Go.Proofs.Ytgckpmaajmlijaa
open Go Go.RowKit Ir Wy

def ops3 : Array Oper := #[⟨some 16, .load 24 (.tmp 3), 24, "law.go:107", #[], none⟩, ⟨some 17, .call { callee := Callee.value (Operand.func 8), args := #[.tmp 16], argTypes := #[24] }, 28, "law.go:107", #[⟨0, .data⟩], none⟩, ⟨some 18, .load 24 (.tmp 3), 24, "law.go:107", #[], none⟩, ⟨some 19, .call { callee := Callee.value (Operand.func 8), args := #[.tmp 18], argTypes := #[24] }, 28, "law.go:107", #[⟨2, .data⟩, ⟨1, .chain⟩], none⟩, ⟨some 7, .alloc 28, 0, "law.go:107", #[], none⟩, ⟨some 8, .alloc 28, 0, "law.go:107", #[], none⟩, ⟨none, .store 28 (.tmp 7) (.tmp 17), 0, "law.go:107", #[⟨4, .data⟩, ⟨1, .data⟩, ⟨3, .chain⟩, ⟨0, .phase⟩, ⟨1, .phase⟩, { on := 2, ground := Ground.textOnly Departure.lateStores }, { on := 3, ground := Ground.textOnly Departure.lateStoresUnsure }, ⟨4, .phase⟩, ⟨5, .phase⟩], none⟩, ⟨none, .store 28 (.tmp 8) (.tmp 19), 0, "law.go:107", #[⟨5, .data⟩, ⟨3, .data⟩, ⟨6, .chain⟩, ⟨0, .phase⟩, ⟨1, .phase⟩, ⟨2, .phase⟩, ⟨3, .phase⟩, ⟨4, .phase⟩, ⟨5, .phase⟩, ⟨6, .phase⟩], none⟩]
def ops12 : Array Oper := #[⟨some 59, .fieldAddr 28 (.tmp 7) 2, 0, "law.go:118", #[], none⟩, ⟨some 60, .load 26 (.tmp 59), 26, "law.go:118", #[⟨0, .data⟩], none⟩, ⟨some 61, .call { callee := Callee.value (Operand.func 10), args := #[.tmp 60], argTypes := #[26] }, 35, "law.go:118", #[⟨1, .data⟩], none⟩, ⟨some 62, .fieldAddr 28 (.tmp 8) 2, 0, "law.go:118", #[], none⟩, ⟨some 63, .load 26 (.tmp 62), 26, "law.go:118", #[⟨3, .data⟩], none⟩, ⟨some 64, .call { callee := Callee.value (Operand.func 10), args := #[.tmp 63], argTypes := #[26] }, 35, "law.go:118", #[⟨4, .data⟩, ⟨2, .chain⟩], none⟩, ⟨some 11, .alloc 35, 0, "law.go:118", #[], none⟩, ⟨some 12, .alloc 35, 0, "law.go:118", #[], none⟩, ⟨none, .store 35 (.tmp 11) (.tmp 61), 0, "law.go:118", #[⟨6, .data⟩, ⟨2, .data⟩, ⟨5, .chain⟩, ⟨0, .phase⟩, ⟨1, .phase⟩, ⟨2, .phase⟩, { on := 3, ground := Ground.textOnly Departure.lateStores }, { on := 4, ground := Ground.textOnly Departure.lateStores }, { on := 5, ground := Ground.textOnly Departure.lateStoresUnsure }, ⟨6, .phase⟩, ⟨7, .phase⟩], none⟩, ⟨none, .store 35 (.tmp 12) (.tmp 64), 0, "law.go:118", #[⟨7, .data⟩, ⟨5, .data⟩, ⟨8, .chain⟩, ⟨0, .phase⟩, ⟨1, .phase⟩, ⟨2, .phase⟩, ⟨3, .phase⟩, ⟨4, .phase⟩, ⟨5, .phase⟩, ⟨6, .phase⟩, ⟨7, .phase⟩, ⟨8, .phase⟩], none⟩]
theorem BlksO.mono {B B' : Nat} {w : World} {v : Value} {bs : List Blk} (h : BlksO B w v bs) (hB : B' ≤ B) : BlksO B' w v bs := by
  obtain ⟨ps, h1, h2, h3⟩ := h
  exact ⟨ps, h1, owns_mono h2 hB, fun p hp => (h3 p hp).mono hB⟩
theorem BlksO.lt {B : Nat} {w : World} {v : Value} {bs : List Blk} (h : BlksO B w v bs) : ∀ k, v.ownBlock = some k → B ≤ k ∧ k < w.heap.size := by
  obtain ⟨ps, _, h2, _⟩ := h
  exact h2.lt
def funR (M : Fun) (um : Value) : Array Value := #[.int .i64 M.p, .int .i64 M.v, um]
theorem size28 : (Try.prog.info? 28).map (·.size) = some 3 := by kernel_rfl
theorem size24 : (Try.prog.info? 24).map (·.size) = some 4 := by kernel_rfl
theorem zero28v (W : World) : (zeroValue 28).run Try.prog W = .ok (.agg #[.int .i64 0, .int .i64 0, .slice none 0 0]) W := by kernel_rfl
def x3 : Ix := ⟨1, 3, 4, 5, 6, 7, 17, 19, 7, 8⟩
theorem x3_ok : x3.ok := ⟨by decide, by decide⟩
/-- A function's value, its blocks the call's own; two of them, apart. -/
def Q1 (B : Nat) (M : Fun) (v : Value) (W : World) : Prop := ∃ um, v = .agg (funR M um) ∧ BlksO B W um M.bs
def Q2 (B : Nat) (M : Fun) (v u : Value) (W : World) : Prop := ∃ um ul, v = .agg (funR M um) ∧ u = .agg (funR M ul) ∧ BlksO B W um M.bs ∧ BlksO B W ul M.bs ∧ ∀ k, um.ownBlock = some k → ul.ownBlock ≠ some k
theorem t41_28 {W W' : World} (hk : Keeps (fun t => t != 28) W W') : Keeps T41 W W' := hk.weak fun t ht => by
  simp [T41] at *
  rcases ht with (h | h) | h <;> subst h <;> decide
theorem Q1_st (B : Nat) (M : Fun) : St1 28 (Q1 B M) := fun _ _ _ hk _ ⟨um, h1, h2⟩ => ⟨um, h1, h2.keeps (t41_28 hk)⟩
theorem Q2_st (B : Nat) (M : Fun) : St2 28 (Q2 B M) := fun _ _ _ _ hk _ ⟨um, ul, h1, h2, h3, h4, h5⟩ => ⟨um, ul, h1, h2, h3.keeps (t41_28 hk), h4.keeps (t41_28 hk), h5⟩
def G3 (SP : Value) : Tmp → Value → Prop
  | 16, v => v = SP
  | 18, v => v = SP
  | _, _ => True
set_option maxHeartbeats 2000000 in
set_option maxRecDepth 100000 in
theorem r3_ok {Q : Exit → Act → World → Prop} {a0 : Act} {wa : World} {gs : Nat} {ra : Array Value} {M : Fun} (hz : a0.tmps.size = 88) (b3 : a0.eval (.tmp 3) = .pointer (some ⟨gs, 0, none⟩)) (hra : wa.heap[gs]? = some (Obj.cells ra 24 (0, 0))) (hsa : ra.size = 4)
    (hM : ∀ W, Below wa.heap.size wa W → Calls Try.prog 8 #[.agg ra] W (MadePost W M))
    (hend : ∀ (s : Tmp → Value) (W : World) (g7 g8 : Nat) (um ul : Value), s 7 = .pointer (some ⟨g7, 0, none⟩) → s 8 = .pointer (some ⟨g8, 0, none⟩) → g7 ≠ g8 → wa.heap.size ≤ g7 → wa.heap.size ≤ g8 → W.heap[g7]? = some (Obj.cells (funR M um) 28 (0, 0)) → W.heap[g8]? = some (Obj.cells (funR M ul) 28 (0, 0)) → BlksO wa.heap.size W um M.bs → BlksO wa.heap.size W ul M.bs → (∀ k, um.ownBlock = some k → ul.ownBlock ≠ some k) → Below wa.heap.size wa W → Q .normal (overlay a0 (dstsOf ops3) s) W) :
    (Code.region 3 ops3 true).wp Try.prog Q a0 wa := by
  have s1 := Q1_st wa.heap.size M
  have s2 := Q2_st wa.heap.size M
  refine L3.wp_region_eachL (by kernel_rfl) (fun _ d v _ => G3 (.agg ra) d v) (TB x3 28 3 (Q1 wa.heap.size M) (Q2 wa.heap.size M) wa) (by rw [hz]; kernel_rfl) (TB.start (Below.refl _ _).drew) ?_ ?_
  · refine And.intro ?_ (And.intro ?_ (And.intro ?_ (And.intro ?_ (And.intro ?_ (And.intro ?_ (And.intro ?_ (And.intro ?_ trivial)))))))
    · refine L3.asked_any rfl (fun l a W H => ?_)
      exact ⟨.agg ra, W, Gr.run_load_row rfl ((H.base 3 rfl).trans b3) ((H.s.below.block gs (Array.getElem?_eq_some_iff.1 hra).1).trans hra) Try.underlying24 (by rw [hsa]; exact size24), fun d hd => by cases hd; exact rfl, H.s.pure s1 s2 (by decide) (by decide) (Below.refl _ _), fun d _ h => h⟩
    · refine L3.asked_call rfl Try.func8 rfl rfl rfl rfl (fun l a W H => ?_)
      have e16 : a.eval (.tmp 16) = .agg ra := H.facts 16 rfl
      simp only [List.map_toArray, List.map_cons, List.map_nil, e16]
      have n2 : l 3 = false := by
        cases h : l 3 with
        | false => rfl
        | true => have h1 := H.closed 3 1 (by rfl) h; rw [H.new] at h1; cases h1
      have na : l 6 = false := by
        cases h : l 6 with
        | false => rfl
        | true => have h1 := H.closed 6 1 (by rfl) h; rw [H.new] at h1; cases h1
      refine (hM W H.s.below).mono ?_
      rintro e w' ⟨um, rfl, hO, hB⟩
      exact ⟨_, rfl, trivial, H.s.call1 x3_ok n2 na hB ⟨um, rfl, hO.mono H.s.below.size⟩, fun d _ h => h⟩
    · refine L3.asked_any rfl (fun l a W H => ?_)
      exact ⟨.agg ra, W, Gr.run_load_row rfl ((H.base 3 rfl).trans b3) ((H.s.below.block gs (Array.getElem?_eq_some_iff.1 hra).1).trans hra) Try.underlying24 (by rw [hsa]; exact size24), fun d hd => by cases hd; exact rfl, H.s.pure s1 s2 (by decide) (by decide) (Below.refl _ _), fun d _ h => h⟩
    · refine L3.asked_call rfl Try.func8 rfl rfl rfl rfl (fun l a W H => ?_)
      have e18 : a.eval (.tmp 18) = .agg ra := H.facts 18 rfl
      simp only [List.map_toArray, List.map_cons, List.map_nil, e18]
      have l1 : l 1 = true := H.deps ⟨1, .chain⟩ (by simp) rfl
      have nb : l 7 = false := by
        cases h : l 7 with
        | false => rfl
        | true => have h1 := H.closed 7 3 (by rfl) h; rw [H.new] at h1; cases h1
      obtain ⟨um, e1, hO1⟩ := H.s.c1 l1
      refine (hM W H.s.below).mono ?_
      rintro e w' ⟨ul, rfl, hO, hB⟩
      exact ⟨_, rfl, trivial, H.s.call2 s1 x3_ok nb hB ⟨um, ul, e1, rfl, hO1.keeps (Keeps.below hB), hO.mono H.s.below.size, fun k hk hk2 => by have := (hO1.lt k hk).2; have := (hO.lt k hk2).1; omega⟩, fun d _ h => h⟩
    · refine L3.asked_any rfl (fun l a W H => ?_)
      have na : l 6 = false := by
        cases h : l 6 with
        | false => rfl
        | true => have h1 := H.closed 6 4 (by rfl) h; rw [H.new] at h1; cases h1
      exact ⟨_, _, run_alloc rfl _ zero28v, fun d hd => by cases hd; trivial, H.s.alloc_a s1 s2 x3_ok na _ rfl, fun d _ h => h⟩
    · refine L3.asked_any rfl (fun l a W H => ?_)
      have nb : l 7 = false := by
        cases h : l 7 with
        | false => rfl
        | true => have h1 := H.closed 7 5 (by rfl) h; rw [H.new] at h1; cases h1
      exact ⟨_, _, run_alloc rfl _ zero28v, fun d hd => by cases hd; trivial, H.s.alloc_b s1 s2 x3_ok nb _ rfl, fun d _ h => h⟩
    · refine L3.asked_skip rfl rfl (fun l a W H => ?_)
      have l4 : l 4 = true := H.deps ⟨4, .data⟩ (by simp) rfl
      have l5 : l 5 = true := H.deps ⟨5, .phase⟩ (by simp) rfl
      have l1 : l 1 = true := H.deps ⟨1, .data⟩ (by simp) rfl
      have nb : l 7 = false := by
        cases h : l 7 with
        | false => rfl
        | true => have h1 := H.closed 7 6 (by rfl) h; rw [H.new] at h1; cases h1
      obtain ⟨um, e1, hO1⟩ := H.s.c1 l1
      obtain ⟨g, zs, h1, h2, h3, h4⟩ := H.s.a l4
      obtain ⟨ua, uc, hu⟩ := hO1.v.slice
      exact ⟨_, run_store_whole rfl h1 e1 h3 size28 h4 (by rw [hu]; simp [funR, Value.oneCell']), H.s.store_a s1 s2 x3_ok l4 nb l5 h1 e1 rfl, fun d h => h⟩
    · refine L3.asked_skip rfl rfl (fun l a W H => ?_)
      have l4 : l 4 = true := H.deps ⟨4, .phase⟩ (by simp) rfl
      have l5 : l 5 = true := H.deps ⟨5, .data⟩ (by simp) rfl
      have l3 : l 3 = true := H.deps ⟨3, .data⟩ (by simp) rfl
      obtain ⟨um, ul, e1, e2, hO1, hO2, hne⟩ := H.s.c2 l3
      obtain ⟨g, zs, h1, h2, h3, h4⟩ := H.s.b l5
      obtain ⟨ua, uc, hu⟩ := hO2.v.slice
      exact ⟨_, run_store_whole rfl h1 e2 h3 size28 h4 (by rw [hu]; simp [funR, Value.oneCell']), H.s.store_b s1 s2 x3_ok l5 l4 h1 e2 rfl, fun d h => h⟩
  · intro l s W hall hS hs
    obtain ⟨um, ul, e1, e2, hO1, hO2, hne⟩ := hS.c2 (hall 3 (by decide))
    obtain ⟨g7, z7, h1, h2, h3, h4⟩ := hS.a (hall 4 (by decide))
    obtain ⟨g8, z8, k1, k2, k3, k4⟩ := hS.b (hall 5 (by decide))
    obtain ⟨f7, y7, m1, m2, m3⟩ := hS.fa (hall 6 (by decide))
    obtain ⟨f8, y8, n1, n2, n3⟩ := hS.fb (hall 7 (by decide))
    obtain rfl : f7 = g7 := by rw [h1] at m1; simp at m1; exact m1.symm
    obtain rfl : f8 = g8 := by rw [k1] at n1; simp at n1; exact n1.symm
    rw [e1] at m3
    rw [e2] at n3
    cases m3
    cases n3
    exact hend s W f7 f8 um ul h1 k1 (fun e => hS.ne (hall 4 (by decide)) (hall 5 (by decide)) (by rw [h1, k1, e])) h2 k2 m2 n2 hO1 hO2 hne hS.below

def x12 : Ix := ⟨2, 5, 6, 7, 8, 9, 61, 64, 11, 12⟩
theorem x12_ok : x12.ok := ⟨by decide, by decide⟩
def R1v (F : Nat → Bool) (v : Value) (_ : World) : Prop := Bg.SetV v F
def R2v (F G : Nat → Bool) (v u : Value) (_ : World) : Prop := Bg.SetV v F ∧ Bg.SetV u G
theorem R1_st (F : Nat → Bool) : St1 35 (R1v F) := fun _ _ _ _ _ h => h
theorem R2_st (F G : Nat → Bool) : St2 35 (R2v F G) := fun _ _ _ _ _ _ h => h
def G12 (g7 g8 : Nat) (um ul : Value) : Tmp → Value → Prop
  | 59, v => v = .pointer (some ⟨g7, 2, none⟩)
  | 60, v => v = um
  | 62, v => v = .pointer (some ⟨g8, 2, none⟩)
  | 63, v => v = ul
  | _, _ => True
set_option maxHeartbeats 2000000 in
set_option maxRecDepth 100000 in
theorem r12_ok {Q : Exit → Act → World → Prop} {a0 : Act} {wa : World} {g7 g8 cm cl n m : Nat} {am al : Option Addr} {F G : Nat → Bool} (hz : a0.tmps.size = 88) (b7 : a0.eval (.tmp 7) = .pointer (some ⟨g7, 0, none⟩)) (b8 : a0.eval (.tmp 8) = .pointer (some ⟨g8, 0, none⟩)) (h7 : wa.cell? ⟨g7, 2, none⟩ = some (.slice am n cm)) (h8 : wa.cell? ⟨g8, 2, none⟩ = some (.slice al m cl))
    (hF : ∀ W, Below wa.heap.size wa W → Calls Try.prog 10 #[.slice am n cm] W fun e w' => ∃ u, e = .returned u ∧ Bg.SetV u F ∧ Below W.heap.size W w') (hG : ∀ W, Below wa.heap.size wa W → Calls Try.prog 10 #[.slice al m cl] W fun e w' => ∃ u, e = .returned u ∧ Bg.SetV u G ∧ Below W.heap.size W w')
    (hend : ∀ (s : Tmp → Value) (W : World) (p q : Nat) (cs ds : Array Value), s 11 = .pointer (some ⟨p, 0, none⟩) → s 12 = .pointer (some ⟨q, 0, none⟩) → p ≠ q → wa.heap.size ≤ p → wa.heap.size ≤ q → W.heap[p]? = some (Obj.cells cs 35 (0, 0)) → W.heap[q]? = some (Obj.cells ds 35 (0, 0)) → Bg.SetC cs F → Bg.SetC ds G → Below wa.heap.size wa W → Q .normal (overlay a0 (dstsOf ops12) s) W) :
    (Code.region 12 ops12 true).wp Try.prog Q a0 wa := by
  have s1 := R1_st F
  have s2 := R2_st F G
  have hsv : ∀ {u : Value} {f : Nat → Bool}, Bg.SetV u f → ∃ cs, u = .agg cs ∧ Bg.SetC cs f := fun h => h
  refine L3.wp_region_eachL (by kernel_rfl) (fun _ d v _ => G12 g7 g8 (.slice am n cm) (.slice al m cl) d v) (TB x12 35 64 (R1v F) (R2v F G) wa) (by rw [hz]; kernel_rfl) (TB.start (Below.refl _ _).drew) ?_ ?_
  · refine And.intro ?_ (And.intro ?_ (And.intro ?_ (And.intro ?_ (And.intro ?_ (And.intro ?_ (And.intro ?_ (And.intro ?_ (And.intro ?_ (And.intro ?_ trivial)))))))))
    · refine L3.asked_any rfl (fun l a W H => ?_)
      have e7 : a.eval (.tmp 7) = .pointer (some ⟨g7, 0, none⟩) := (H.base 7 rfl).trans b7
      exact ⟨.pointer (some ⟨g7, 2, none⟩), W, by (simp only [execOp]; try simp only [Option.map]); (simp only [e7]; go_simp), fun d hd => by cases hd; exact rfl, H.s.pure s1 s2 (by decide) (by decide) (Below.refl _ _), fun d _ h => h⟩
    · refine L3.asked_any rfl (fun l a W H => ?_)
      have e59 : a.eval (.tmp 59) = .pointer (some ⟨g7, 2, none⟩) := H.facts 59 rfl
      have hc := cell_below H.s.below h7
      exact ⟨.slice am n cm, W, by (simp only [execOp]; try simp only [Option.map]); (simp only [e59]; go_simp), fun d hd => by cases hd; exact rfl, H.s.pure s1 s2 (by decide) (by decide) (Below.refl _ _), fun d _ h => h⟩
    · refine L3.asked_call rfl Try.func10 rfl rfl rfl rfl (fun l a W H => ?_)
      have e60 : a.eval (.tmp 60) = .slice am n cm := H.facts 60 rfl
      simp only [List.map_toArray, List.map_cons, List.map_nil, e60]
      have n2 : l 5 = false := by
        cases h : l 5 with
        | false => rfl
        | true => have h1 := H.closed 5 2 (by rfl) h; rw [H.new] at h1; cases h1
      have na : l 8 = false := by
        cases h : l 8 with
        | false => rfl
        | true => have h1 := H.closed 8 2 (by rfl) h; rw [H.new] at h1; cases h1
      refine (hF W H.s.below).mono ?_
      rintro e w' ⟨u, rfl, hu, hB⟩
      exact ⟨_, rfl, trivial, H.s.call1 x12_ok n2 na hB hu, fun d _ h => h⟩
    · refine L3.asked_any rfl (fun l a W H => ?_)
      have e8 : a.eval (.tmp 8) = .pointer (some ⟨g8, 0, none⟩) := (H.base 8 rfl).trans b8
      exact ⟨.pointer (some ⟨g8, 2, none⟩), W, by (simp only [execOp]; try simp only [Option.map]); (simp only [e8]; go_simp), fun d hd => by cases hd; exact rfl, H.s.pure s1 s2 (by decide) (by decide) (Below.refl _ _), fun d _ h => h⟩
    · refine L3.asked_any rfl (fun l a W H => ?_)
      have e62 : a.eval (.tmp 62) = .pointer (some ⟨g8, 2, none⟩) := H.facts 62 rfl
      have hc := cell_below H.s.below h8
      exact ⟨.slice al m cl, W, by (simp only [execOp]; try simp only [Option.map]); (simp only [e62]; go_simp), fun d hd => by cases hd; exact rfl, H.s.pure s1 s2 (by decide) (by decide) (Below.refl _ _), fun d _ h => h⟩
    · refine L3.asked_call rfl Try.func10 rfl rfl rfl rfl (fun l a W H => ?_)
      have e63 : a.eval (.tmp 63) = .slice al m cl := H.facts 63 rfl
      simp only [List.map_toArray, List.map_cons, List.map_nil, e63]
      have l2 : l 2 = true := H.deps ⟨2, .chain⟩ (by simp) rfl
      have nb : l 9 = false := by
        cases h : l 9 with
        | false => rfl
        | true => have h1 := H.closed 9 5 (by rfl) h; rw [H.new] at h1; cases h1
      have hv := H.s.c1 l2
      refine (hG W H.s.below).mono ?_
      rintro e w' ⟨u, rfl, hu, hB⟩
      exact ⟨_, rfl, trivial, H.s.call2 s1 x12_ok nb hB ⟨hv, hu⟩, fun d _ h => h⟩
    · refine L3.asked_any rfl (fun l a W H => ?_)
      have na : l 8 = false := by
        cases h : l 8 with
        | false => rfl
        | true => have h1 := H.closed 8 6 (by rfl) h; rw [H.new] at h1; cases h1
      exact ⟨_, _, run_alloc rfl Bg.z64 Bg.z27, fun d hd => by cases hd; trivial, H.s.alloc_a s1 s2 x12_ok na _ (by simp [Bg.z64]), fun d _ h => h⟩
    · refine L3.asked_any rfl (fun l a W H => ?_)
      have nb : l 9 = false := by
        cases h : l 9 with
        | false => rfl
        | true => have h1 := H.closed 9 7 (by rfl) h; rw [H.new] at h1; cases h1
      exact ⟨_, _, run_alloc rfl Bg.z64 Bg.z27, fun d hd => by cases hd; trivial, H.s.alloc_b s1 s2 x12_ok nb _ (by simp [Bg.z64]), fun d _ h => h⟩
    · refine L3.asked_skip rfl rfl (fun l a W H => ?_)
      have l6 : l 6 = true := H.deps ⟨6, .data⟩ (by simp) rfl
      have l7 : l 7 = true := H.deps ⟨7, .phase⟩ (by simp) rfl
      have l2 : l 2 = true := H.deps ⟨2, .data⟩ (by simp) rfl
      have nb : l 9 = false := by
        cases h : l 9 with
        | false => rfl
        | true => have h1 := H.closed 9 8 (by rfl) h; rw [H.new] at h1; cases h1
      obtain ⟨cs, e1, hC⟩ := hsv (H.s.c1 l2)
      obtain ⟨g, zs, h1, h2, h3, h4⟩ := H.s.a l6
      exact ⟨_, run_store_whole rfl h1 e1 h3 (by rw [hC.1]; exact Bg.info27) (by rw [h4, hC.1]) (Array.all_eq_true_iff_forall_mem.2 fun v hv => hC.cells v (by simpa using hv)), H.s.store_a s1 s2 x12_ok l6 nb l7 h1 e1 hC.1, fun d h => h⟩
    · refine L3.asked_skip rfl rfl (fun l a W H => ?_)
      have l6 : l 6 = true := H.deps ⟨6, .phase⟩ (by simp) rfl
      have l7 : l 7 = true := H.deps ⟨7, .data⟩ (by simp) rfl
      have l5 : l 5 = true := H.deps ⟨5, .data⟩ (by simp) rfl
      obtain ⟨ds, e1, hC⟩ := hsv (H.s.c2 l5).2
      obtain ⟨g, zs, h1, h2, h3, h4⟩ := H.s.b l7
      exact ⟨_, run_store_whole rfl h1 e1 h3 (by rw [hC.1]; exact Bg.info27) (by rw [h4, hC.1]) (Array.all_eq_true_iff_forall_mem.2 fun v hv => hC.cells v (by simpa using hv)), H.s.store_b s1 s2 x12_ok l7 l6 h1 e1 hC.1, fun d h => h⟩
  · intro l s W hall hS hs
    obtain ⟨⟨cs, e1, hC⟩, ⟨ds, e2, hD⟩⟩ := hS.c2 (hall 5 (by decide))
    obtain ⟨p, z7, h1, h2, h3, h4⟩ := hS.a (hall 6 (by decide))
    obtain ⟨q, z8, k1, k2, k3, k4⟩ := hS.b (hall 7 (by decide))
    obtain ⟨f7, y7, m1, m2, m3⟩ := hS.fa (hall 8 (by decide))
    obtain ⟨f8, y8, n1, n2, n3⟩ := hS.fb (hall 9 (by decide))
    obtain rfl : f7 = p := by rw [h1] at m1; simp at m1; exact m1.symm
    obtain rfl : f8 = q := by rw [k1] at n1; simp at n1; exact n1.symm
    rw [e1] at m3
    rw [e2] at n3
    cases m3
    cases n3
    exact hend s W f7 f8 cs ds h1 k1 (fun e => hS.ne (hall 6 (by decide)) (hall 7 (by decide)) (by rw [h1, k1, e])) h2 k2 m2 n2 hC hD hS.below
end Go.Proofs.Ytgckpmaajmlijaa
