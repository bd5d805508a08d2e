/- WireApart's two makers; its answer. -/
import Derived.Test.YtbjnhicikkjadabSc
import Derived.Test.YtbjnhicikkjadabAw
import Derived.Test.YtbjnhicikkjadabRg
import Derived.Test.YtbjnhicikkjadabWs
namespace Go.Proofs.Ytbjnhicikkjadab
open Go Go.RowKit Ir Wire

def ops5 : Array Oper := #[⟨some 17, .load 24 (.tmp 3), 24, "law.go:188", #[], none⟩, ⟨some 18, .call { callee := Callee.value (Operand.func 5), args := #[.tmp 17], argTypes := #[24] }, 28, "law.go:188", #[⟨0, .data⟩], none⟩, ⟨some 19, .load 24 (.tmp 4), 24, "law.go:188", #[], none⟩, ⟨some 20, .call { callee := Callee.value (Operand.func 5), args := #[.tmp 19], argTypes := #[24] }, 28, "law.go:188", #[⟨2, .data⟩, ⟨1, .chain⟩], none⟩, ⟨some 7, .alloc 28, 0, "law.go:188", #[], none⟩, ⟨some 8, .alloc 28, 0, "law.go:188", #[], none⟩, ⟨none, .store 28 (.tmp 7) (.tmp 18), 0, "law.go:188", #[⟨4, .data⟩, ⟨1, .data⟩, ⟨3, .chain⟩, ⟨0, .phase⟩, ⟨1, .phase⟩, { on := 2, ground := Ground.textOnly Departure.lateStores }, { on := 3, ground := Ground.textOnly Departure.lateStoresUnsure }, ⟨4, .phase⟩, ⟨5, .phase⟩], none⟩, ⟨none, .store 28 (.tmp 8) (.tmp 20), 0, "law.go:188", #[⟨5, .data⟩, ⟨3, .data⟩, ⟨6, .chain⟩, ⟨0, .phase⟩, ⟨1, .phase⟩, ⟨2, .phase⟩, ⟨3, .phase⟩, ⟨4, .phase⟩, ⟨5, .phase⟩, ⟨6, .phase⟩], none⟩]
def ops8 : Array Oper := #[⟨some 31, .move (.tmp 10), 30, "law.go:191", #[], none⟩, ⟨some 32, .binOp .eql 30 (.tmp 31) (.const (.int .i64 0)) 30, 4, "law.go:191", #[⟨0, .data⟩], none⟩, ⟨some 33, .move (.tmp 32), 4, "law.go:191", #[⟨1, .data⟩], none⟩, ⟨some 34, .move (.tmp 12), 30, "law.go:191", #[⟨2, .guard⟩], some (2, true)⟩, ⟨some 35, .binOp .eql 30 (.tmp 34) (.const (.int .i64 0)) 30, 4, "law.go:191", #[⟨3, .data⟩, ⟨2, .guard⟩], some (2, true)⟩, ⟨some 36, .pick (.tmp 33) (.tmp 35) (.const (.bool false)), 4, "law.go:191", #[⟨2, .data⟩, ⟨4, .data⟩], none⟩, ⟨some 37, .move (.tmp 36), 4, "law.go:191", #[⟨5, .data⟩, ⟨2, .chain⟩], none⟩, ⟨some 38, .move (.tmp 9), 22, "law.go:191", #[⟨6, .guard⟩], some (6, true)⟩, ⟨some 39, .convert 22 9 (.tmp 38), 9, "law.go:191", #[⟨7, .data⟩, ⟨6, .guard⟩], some (6, true)⟩, ⟨some 40, .move (.tmp 11), 22, "law.go:191", #[⟨6, .guard⟩], some (6, true)⟩, ⟨some 41, .convert 22 9 (.tmp 40), 9, "law.go:191", #[⟨9, .data⟩, ⟨6, .guard⟩], some (6, true)⟩, ⟨some 42, .binOp .eql 9 (.tmp 39) (.tmp 41) 9, 4, "law.go:191", #[⟨8, .data⟩, ⟨10, .data⟩, ⟨6, .guard⟩], some (6, true)⟩, ⟨some 43, .load 28 (.tmp 7), 28, "law.go:191", #[⟨6, .guard⟩], some (6, true)⟩, ⟨some 44, .load 28 (.tmp 8), 28, "law.go:191", #[⟨6, .guard⟩], some (6, true)⟩, ⟨some 45, .call { callee := Callee.value (Operand.func 7), args := #[.tmp 43, .tmp 44], argTypes := #[28, 28] }, 4, "law.go:191", #[⟨12, .data⟩, ⟨13, .data⟩, ⟨6, .chain⟩, ⟨6, .guard⟩], some (6, true)⟩, ⟨some 46, .binOp .eql 4 (.tmp 42) (.tmp 45) 4, 4, "law.go:191", #[⟨11, .data⟩, ⟨14, .data⟩, ⟨6, .guard⟩], some (6, true)⟩, ⟨some 47, .pick (.tmp 37) (.tmp 46) (.const (.bool false)), 4, "law.go:191", #[⟨6, .data⟩, ⟨15, .data⟩], none⟩, ⟨some 6, .assign (.tmp 47), 4, "law.go:191", #[⟨16, .data⟩, ⟨14, .chain⟩, ⟨0, .phase⟩, ⟨1, .phase⟩, ⟨2, .phase⟩, ⟨3, .phase⟩, ⟨4, .phase⟩, ⟨5, .phase⟩, ⟨6, .phase⟩, ⟨7, .phase⟩, ⟨8, .phase⟩, ⟨9, .phase⟩, ⟨10, .phase⟩, ⟨11, .phase⟩, ⟨12, .phase⟩, ⟨13, .phase⟩, ⟨14, .phase⟩, ⟨15, .phase⟩, ⟨16, .phase⟩], none⟩]
theorem size24s (a b c d : Value) : (Try.prog.info? 24).map (·.size) = some (#[a, b, c, d] : Array Value).size := by kernel_rfl
def funR (M : Fun) (um : Value) : Array Value := #[.int .i64 M.p, .int .i64 M.v, um]
/-- A box of a function, the call's own. -/
def FB (B : Nat) (full : Bool) (M : Fun) (x : Value) (w : World) : Prop := ∃ (g : Nat) (zs : Array Value), x = .pointer (some ⟨g, 0, none⟩) ∧ B ≤ g ∧ w.heap[g]? = some (Obj.cells zs 28 (0, 0)) ∧ zs.size = 3 ∧ (full = true → ∃ (um : Value) (B' : Nat), zs = funR M um ∧ BlksO B' w um M.bs)
theorem FB.keep {B : Nat} {f f' : Bool} {M : Fun} {x : Value} {w w' : World} (h : FB B f M x w) (hf : f' = f) (hk : Keeps (fun _ => true) w w') : FB B f' M x w' := by
  subst hf
  obtain ⟨g, zs, h1, h2, h3, h4, h5⟩ := h
  refine ⟨g, zs, h1, h2, hk _ _ _ _ rfl h3, h4, fun e => ?_⟩
  obtain ⟨um, B', q1, q2⟩ := h5 e
  exact ⟨um, B', q1, q2.keeps (hk.weak fun _ _ => rfl)⟩
theorem FB.set {B : Nat} {f f' : Bool} {M : Fun} {x : Value} {w : World} {g : Nat} {zs cells : Array Value} (h : FB B f M x w) (hg : w.heap[g]? = some (Obj.cells zs 28 (0, 0))) (hc : cells.size = 3) (hf : f' = f) (hne : x ≠ .pointer (some ⟨g, 0, none⟩) ∨ f = false) : FB B f' M x (w.setRow g cells) := by
  subst hf
  obtain ⟨g', zs', h1, h2, h3, h4, h5⟩ := h
  by_cases e : g' = g
  · subst e
    rcases hne with hne | hne
    · exact absurd h1 hne
    · exact ⟨g', _, h1, h2, setRow_heap w g' _ _ _ _ hg, hc, fun e => by rw [hne] at e; cases e⟩
  · refine ⟨g', zs', h1, h2, by rw [setRow_other w g g' cells e]; exact h3, h4, fun e => ?_⟩
    obtain ⟨um, B', q1, q2⟩ := h5 e
    exact ⟨um, B', q1, q2.keeps (keeps_setRow hg rfl)⟩
/-- What is known of each temporary. -/
def G5 (SP SQ : Value) (M L : Fun) (B : Nat) (l : Nat → Bool) : Tmp → Value → World → Prop
  | 17, x, _ => x = SP
  | 19, x, _ => x = SQ
  | 18, x, w => ∃ (um : Value) (B' : Nat), x = .agg (funR M um) ∧ BlksO B' w um M.bs
  | 20, x, w => ∃ (um : Value) (B' : Nat), x = .agg (funR L um) ∧ BlksO B' w um L.bs
  | 7, x, w => FB B (l 6) M x w
  | 8, x, w => FB B (l 7) L x w
  | _, _, _ => True
section
variable {SP SQ : Value} {M L : Fun} {B : Nat} {l l' : Nat → Bool} {d : Tmp} {x : Value} {w w' : World}
theorem G5_keep (h : G5 SP SQ M L B l d x w) (h8 : l' 6 = l 6) (h9 : l' 7 = l 7) (hk : Keeps (fun _ => true) w w') : G5 SP SQ M L B l' d x w' := by
  unfold G5 at h ⊢
  split at h
  · exact h
  · exact h
  · obtain ⟨um, B', q1, q2⟩ := h
    exact ⟨um, B', q1, q2.keeps (hk.weak fun _ _ => rfl)⟩
  · obtain ⟨um, B', q1, q2⟩ := h
    exact ⟨um, B', q1, q2.keeps (hk.weak fun _ _ => rfl)⟩
  · exact h.keep h8 hk
  · exact h.keep h9 hk
  · trivial
theorem G5_set {g : Nat} {cells zs : Array Value} (h : G5 SP SQ M L B l d x w) (hg : w.heap[g]? = some (Obj.cells zs 28 (0, 0))) (hc : cells.size = 3) (h8 : d = 7 → l' 6 = l 6 ∧ (x ≠ .pointer (some ⟨g, 0, none⟩) ∨ l 6 = false)) (h9 : d = 8 → l' 7 = l 7 ∧ (x ≠ .pointer (some ⟨g, 0, none⟩) ∨ l 7 = false)) : G5 SP SQ M L B l' d x (w.setRow g cells) := by
  unfold G5 at h ⊢
  split at h
  · exact h
  · exact h
  · obtain ⟨um, B', q1, q2⟩ := h
    exact ⟨um, B', q1, q2.keeps (keeps_setRow hg rfl)⟩
  · obtain ⟨um, B', q1, q2⟩ := h
    exact ⟨um, B', q1, q2.keeps (keeps_setRow hg rfl)⟩
  · exact FB.set h hg hc (h8 rfl).1 (h8 rfl).2
  · exact FB.set h hg hc (h9 rfl).1 (h9 rfl).2
  · trivial
end
set_option maxHeartbeats 2000000 in
set_option maxRecDepth 100000 in
theorem r5_ok {Q : Exit → Act → World → Prop} {a0 : Act} {wa : World} {gs gt : Nat} {ra rb : Array Value} {M L : Fun} (hz : a0.tmps.size = 48) (b3 : a0.eval (.tmp 3) = .pointer (some ⟨gs, 0, none⟩)) (b4 : a0.eval (.tmp 4) = .pointer (some ⟨gt, 0, none⟩)) (hra : wa.heap[gs]? = some (Obj.cells ra 24 (0, 0))) (hrb : wa.heap[gt]? = some (Obj.cells rb 24 (0, 0))) (sa : ra.size = 4) (sb : rb.size = 4)
    (hM : ∀ W, Below wa.heap.size wa W → Calls Try.prog 5 #[.agg ra] W (MadePost W M)) (hL : ∀ W, Below wa.heap.size wa W → Calls Try.prog 5 #[.agg rb] W (MadePost W L))
    (hend : ∀ (s : Tmp → Value) (W : World) (g7 g8 : Nat) (um ul : Value), s 7 = .pointer (some ⟨g7, 0, none⟩) → s 8 = .pointer (some ⟨g8, 0, none⟩) → W.heap[g7]? = some (Obj.cells (funR M um) 28 (0, 0)) → W.heap[g8]? = some (Obj.cells (funR L ul) 28 (0, 0)) → BlksV W um M.bs → BlksV W ul L.bs → Below wa.heap.size wa W → Q .normal (overlay a0 (dstsOf ops5) s) W) : (Code.region 5 ops5 true).wp Try.prog Q a0 wa := by
  have hsz : (Try.prog.info? 24).map (·.size) = some 4 := by kernel_rfl
  refine L3.wp_region_eachL (by kernel_rfl) (fun l => G5 (.agg ra) (.agg rb) M L wa.heap.size l) (Sep 4 5 7 8 wa) (by rw [hz]; kernel_rfl) (sep_init (Below.refl _ _).drew) ?_ ?_
  · refine And.intro ?_ (And.intro ?_ (And.intro ?_ (And.intro ?_ (And.intro ?_ (And.intro ?_ (And.intro ?_ (And.intro ?_ trivial)))))))
    · refine L3.asked_any rfl (fun l a W H => ?_)
      exact ⟨.agg ra, W, run_load_row rfl ((H.base 3 rfl).trans b3) ((H.s.below.block gs (Array.getElem?_eq_some_iff.1 hra).1).trans hra) Try.underlying24 (by rw [hsz, sa]), fun d hd => by cases hd; exact rfl, H.s.pure (by decide) (by decide) (by decide) (by decide) (Below.refl _ _), fun d _ h => G5_keep h (if_neg (by decide)) (if_neg (by decide)) (Keeps.below (Below.refl _ _))⟩
    · refine L3.asked_call rfl Try.func5 rfl rfl rfl rfl (fun l a W H => ?_)
      have e17 : a.eval (.tmp 17) = .agg ra := H.facts 17 rfl
      simp only [List.map_toArray, List.map_cons, List.map_nil, e17]
      refine (hM W H.s.below).mono ?_
      rintro e w' ⟨um, rfl, hO, hB⟩
      exact ⟨_, rfl, ⟨um, _, rfl, hO⟩, H.s.pure (by decide) (by decide) (by decide) (by decide) hB, fun d _ h => G5_keep h (if_neg (by decide)) (if_neg (by decide)) (Keeps.below hB)⟩
    · refine L3.asked_any rfl (fun l a W H => ?_)
      exact ⟨.agg rb, W, run_load_row rfl ((H.base 4 rfl).trans b4) ((H.s.below.block gt (Array.getElem?_eq_some_iff.1 hrb).1).trans hrb) Try.underlying24 (by rw [hsz, sb]), fun d hd => by cases hd; exact rfl, H.s.pure (by decide) (by decide) (by decide) (by decide) (Below.refl _ _), fun d _ h => G5_keep h (if_neg (by decide)) (if_neg (by decide)) (Keeps.below (Below.refl _ _))⟩
    · refine L3.asked_call rfl Try.func5 rfl rfl rfl rfl (fun l a W H => ?_)
      have e19 : a.eval (.tmp 19) = .agg rb := H.facts 19 rfl
      simp only [List.map_toArray, List.map_cons, List.map_nil, e19]
      refine (hL W H.s.below).mono ?_
      rintro e w' ⟨um, rfl, hO, hB⟩
      exact ⟨_, rfl, ⟨um, _, rfl, hO⟩, H.s.pure (by decide) (by decide) (by decide) (by decide) hB, fun d _ h => G5_keep h (if_neg (by decide)) (if_neg (by decide)) (Keeps.below hB)⟩
    · refine L3.asked_any rfl (fun l a W H => ?_)
      have hB := bel1' W (.cells #[.int .i64 0, .int .i64 0, .slice none 0 0] 28)
      have hls : l 6 = false := by
        cases h12 : l 6 with
        | false => rfl
        | true => have h1 := H.closed 6 4 (by rfl) h12; rw [H.new] at h1; cases h1
      exact ⟨_, _, run_alloc rfl _ zero28v, fun d hd => by cases hd; exact ⟨W.heap.size, _, rfl, H.s.below.size, heap_alloc_new W _, rfl, fun e => by rw [show upd l 4 6 = l 6 from if_neg (by decide), hls] at e; cases e⟩, H.s.alloc_a (by decide) (by decide) _, fun d _ h => G5_keep h (if_neg (by decide)) (if_neg (by decide)) (Keeps.below hB)⟩
    · refine L3.asked_any rfl (fun l a W H => ?_)
      have hB := bel1' W (.cells #[.int .i64 0, .int .i64 0, .slice none 0 0] 28)
      have hls : l 7 = false := by
        cases h12 : l 7 with
        | false => rfl
        | true => have h1 := H.closed 7 5 (by rfl) h12; rw [H.new] at h1; cases h1
      exact ⟨_, _, run_alloc rfl _ zero28v, fun d hd => by cases hd; exact ⟨W.heap.size, _, rfl, H.s.below.size, heap_alloc_new W _, rfl, fun e => by rw [show upd l 5 7 = l 7 from if_neg (by decide), hls] at e; cases e⟩, H.s.alloc_b (by decide) (by decide) _, fun d _ h => G5_keep h (if_neg (by decide)) (if_neg (by decide)) (Keeps.below hB)⟩
    · refine L3.asked_skip rfl rfl (fun l a W H => ?_)
      obtain ⟨g, zs, e7, hBg, hg, hsz2, _⟩ : FB wa.heap.size (l 6) M (a.eval (.tmp 7)) W := H.facts 7 rfl
      obtain ⟨um, B', es, hO⟩ : ∃ (um : Value) (B' : Nat), a.eval (.tmp 18) = .agg (funR M um) ∧ BlksO B' W um M.bs := H.facts 18 rfl
      obtain ⟨ua, uc, hu⟩ := hO.v.slice
      have la : l 4 = true := H.deps ⟨4, .data⟩ (by simp) rfl
      have hBs := below_setRow H.s.below hBg (funR M um)
      refine ⟨_, run_store_whole rfl e7 es hg (size28 _ _ _) hsz2 (by rw [hu]; simp [funR, Value.oneCell']), H.s.store (by decide) (by decide) hBs (by simp [World.setRow]), fun d h => ?_⟩
      by_cases hd : d = 7
      · subst hd
        exact ⟨g, _, e7, hBg, setRow_heap W g _ _ _ _ hg, rfl, fun _ => ⟨um, B', rfl, hO.keeps (keeps_setRow hg rfl)⟩⟩
      · have hoth : ∀ e : d = 8, upd l 6 7 = l 7 ∧ (a.eval (.tmp d) ≠ .pointer (some ⟨g, 0, none⟩) ∨ l 7 = false) := fun e => by
          refine ⟨if_neg (by decide), ?_⟩
          cases hlb : l 5 with
          | true => exact .inl (fun ex => by subst e; exact H.s.ne la hlb (e7.trans ex.symm))
          | false =>
            refine .inr ?_
            cases hls : l 7 with
            | false => rfl
            | true => have h1 := H.closed 7 5 (by rfl) hls; rw [hlb] at h1; cases h1
        exact G5_set h hg (by simp [funR]) (fun e => absurd e hd) hoth
    · refine L3.asked_skip rfl rfl (fun l a W H => ?_)
      obtain ⟨g, zs, e7, hBg, hg, hsz2, _⟩ : FB wa.heap.size (l 7) L (a.eval (.tmp 8)) W := H.facts 8 rfl
      obtain ⟨um, B', es, hO⟩ : ∃ (um : Value) (B' : Nat), a.eval (.tmp 20) = .agg (funR L um) ∧ BlksO B' W um L.bs := H.facts 20 rfl
      obtain ⟨ua, uc, hu⟩ := hO.v.slice
      have la : l 5 = true := H.deps ⟨5, .data⟩ (by simp) rfl
      have hBs := below_setRow H.s.below hBg (funR L um)
      refine ⟨_, run_store_whole rfl e7 es hg (size28 _ _ _) hsz2 (by rw [hu]; simp [funR, Value.oneCell']), H.s.store (by decide) (by decide) hBs (by simp [World.setRow]), fun d h => ?_⟩
      by_cases hd : d = 8
      · subst hd
        exact ⟨g, _, e7, hBg, setRow_heap W g _ _ _ _ hg, rfl, fun _ => ⟨um, B', rfl, hO.keeps (keeps_setRow hg rfl)⟩⟩
      · have hoth : ∀ e : d = 7, upd l 7 6 = l 6 ∧ (a.eval (.tmp d) ≠ .pointer (some ⟨g, 0, none⟩) ∨ l 6 = false) := fun e => by
          refine ⟨if_neg (by decide), ?_⟩
          cases hlb : l 4 with
          | true => exact .inl (fun ex => by subst e; exact H.s.ne hlb la (ex.trans e7.symm))
          | false =>
            refine .inr ?_
            cases hls : l 6 with
            | false => rfl
            | true => have h1 := H.closed 6 4 (by rfl) hls; rw [hlb] at h1; cases h1
        exact G5_set h hg (by simp [funR]) hoth (fun e => absurd e hd)
  · intro l s W hall hS hs
    obtain ⟨g7, z7, q1, q2, q3, q4, q5⟩ : FB wa.heap.size (l 6) M (s 7) W := hs 7 rfl
    obtain ⟨g8, z8, p1, p2, p3, p4, p5⟩ : FB wa.heap.size (l 7) L (s 8) W := hs 8 rfl
    obtain ⟨um, B1, rfl, hO⟩ := q5 (hall 6 (by decide))
    obtain ⟨ul, B2, rfl, hO2⟩ := p5 (hall 7 (by decide))
    exact hend s W g7 g8 um ul q1 p1 q3 p3 hO.v hO2.v hS.below
def G8 (xa ya : Option Addr) (xn xc yn yc : Nat) (xs ys : List Int) (M L : Fun) (um ul : Value) (c : Bool) : Tmp → Value → World → Prop
  | 31, xx, _ => xx = .int .i64 0
  | 32, xx, _ => xx = .bool (true)
  | 33, xx, _ => xx = .bool (true)
  | 34, xx, _ => xx = if (true) = true then .int .i64 0 else undef
  | 35, xx, _ => xx = if (true) = true then .bool (true) else undef
  | 36, xx, _ => xx = .bool (true && true)
  | 37, xx, _ => xx = .bool (true && true)
  | 38, xx, _ => xx = if (true && true) = true then .slice xa xn xc else undef
  | 39, xx, _ => xx = if (true && true) = true then .string (strOfNums xs) else undef
  | 40, xx, _ => xx = if (true && true) = true then .slice ya yn yc else undef
  | 41, xx, _ => xx = if (true && true) = true then .string (strOfNums ys) else undef
  | 42, xx, _ => xx = if (true && true) = true then .bool (c) else undef
  | 43, xx, _ => xx = if (true && true) = true then .agg (funR M um) else undef
  | 44, xx, _ => xx = if (true && true) = true then .agg (funR L ul) else undef
  | 45, xx, _ => xx = if (true && true) = true then .bool (c) else undef
  | 46, xx, _ => xx = if (true && true) = true then .bool (true) else undef
  | 47, xx, _ => xx = .bool ((true && true) && true)
  | 6, xx, _ => xx = .bool ((true && true) && true)
  | _, _, _ => True
theorem run_eqS {a : Act} {w : World} {o : Oper} {x y : Operand} {t : TypeId} {p q : ByteArray} {c : Bool} (hop : o.op = .binOp .eql 9 x y t) (ex : a.eval x = .string p) (ey : a.eval y = .string q) (hc : (p.toList == q.toList) = c) : (execOp a.eval o).run Try.prog w = .ok (.value (.bool c)) w := by
  subst hc
  generalize a.eval = ρ at ex ey ⊢
  unfold execOp
  rw [hop]
  simp only [ex, ey]
  go_simp
theorem run_eqB {a : Act} {w : World} {o : Oper} {x y : Operand} {t : TypeId} {c : Bool} (hop : o.op = .binOp .eql 4 x y t) (ex : a.eval x = .bool c) (ey : a.eval y = .bool c) : (execOp a.eval o).run Try.prog w = .ok (.value (.bool true)) w := by
  generalize a.eval = ρ at ex ey ⊢
  unfold execOp
  rw [hop]
  simp only [ex, ey]
  cases c <;> go_simp
set_option maxHeartbeats 2000000 in
set_option maxRecDepth 100000 in
theorem r8_ok {Q : Exit → Act → World → Prop} {a0 : Act} {wa : World} {xa ya : Option Addr} {xn xc yn yc g7 g8 : Nat} {xs ys : List Int} {M L : Fun} {um ul : Value} {c : Bool} (hz : a0.tmps.size = 48) (b7 : a0.eval (.tmp 7) = .pointer (some ⟨g7, 0, none⟩)) (b8 : a0.eval (.tmp 8) = .pointer (some ⟨g8, 0, none⟩)) (b9 : a0.eval (.tmp 9) = .slice xa xn xc) (b10 : a0.eval (.tmp 10) = .int .i64 0) (b11 : a0.eval (.tmp 11) = .slice ya yn yc) (b12 : a0.eval (.tmp 12) = .int .i64 0)
    (h7 : wa.heap[g7]? = some (Obj.cells (funR M um) 28 (0, 0))) (h8 : wa.heap[g8]? = some (Obj.cells (funR L ul) 28 (0, 0))) (hx : Lb.Byt wa (.slice xa xn xc) xs) (hy : Lb.Byt wa (.slice ya yn yc) ys) (hcc : ((strOfNums xs).toList == (strOfNums ys).toList) = c) (hcM : c = true ↔ M = L)
    (hS : ∀ W, Below wa.heap.size wa W → Calls Try.prog 7 #[.agg (funR M um), .agg (funR L ul)] W (Dec (M = L) W))
    (hend : ∀ (s : Tmp → Value) (W : World), s 6 = .bool true → Below wa.heap.size wa W → Q .normal (overlay a0 (dstsOf ops8) s) W) : (Code.region 8 ops8 true).wp Try.prog Q a0 wa := by
  refine wp_region_each (by kernel_rfl) (fun d x _ => G8 xa ya xn xc yn yc xs ys M L um ul c d x wa) (fun _ W => Below wa.heap.size wa W) (by rw [hz]; kernel_rfl) (Below.refl _ _).drew ?_ ?_
  · refine And.intro ?_ (And.intro ?_ (And.intro ?_ (And.intro ?_ (And.intro ?_ (And.intro ?_ (And.intro ?_ (And.intro ?_ (And.intro ?_ (And.intro ?_ (And.intro ?_ (And.intro ?_ (And.intro ?_ (And.intro ?_ (And.intro ?_ (And.intro ?_ (And.intro ?_ (And.intro ?_ trivial)))))))))))))))))
    · refine asked_pure rfl rfl (fun _ _ h => h) (fun _ _ _ => rfl) (fun l a W H => ?_)
      have e10 : a.eval (.tmp 10) = .int .i64 0 := (H.base 10 rfl).trans b10
      exact run_move rfl e10
    · refine asked_pure rfl rfl (fun _ _ h => h) (fun _ _ _ => rfl) (fun l a W H => ?_)
      have e31 : a.eval (.tmp 31) = .int .i64 0 := H.facts 31 rfl
      (simp only [execOp]; try simp only [Option.map]); (try simp only [List.map_toArray, List.map_cons, List.map_nil]); (simp only [e31]; go_simp)
    · refine asked_pure rfl rfl (fun _ _ h => h) (fun _ _ _ => rfl) (fun l a W H => ?_)
      have e32 : a.eval (.tmp 32) = .bool (true) := H.facts 32 rfl
      exact run_move rfl e32
    · refine asked_guard (c := (true)) (v := .int .i64 0) rfl rfl rfl rfl (fun _ _ h => h) ?_ (fun _ _ _ => rfl) ?_
      · intro l u W _ hu
        have hu : u = .bool (true) := hu
        exact want_t hu
      intro hc l a W H
      have e12 : a.eval (.tmp 12) = .int .i64 0 := (H.base 12 rfl).trans b12
      exact run_move rfl e12
    · refine asked_guard (c := (true)) (v := .bool (true)) rfl rfl rfl rfl (fun _ _ h => h) ?_ (fun _ _ _ => rfl) ?_
      · intro l u W _ hu
        have hu : u = .bool (true) := hu
        exact want_t hu
      intro hc l a W H
      have e34 : a.eval (.tmp 34) = .int .i64 0 := by
        have e : a.eval (.tmp 34) = if (true) = true then .int .i64 0 else undef := H.facts 34 rfl
        rw [if_pos hc] at e
        exact e
      (simp only [execOp]; try simp only [Option.map]); (try simp only [List.map_toArray, List.map_cons, List.map_nil]); (simp only [e34]; go_simp)
    · refine asked_pure rfl rfl (fun _ _ h => h) (fun _ _ _ => rfl) (fun l a W H => ?_)
      have e33 : a.eval (.tmp 33) = .bool (true) := H.facts 33 rfl
      exact run_pick_and rfl e33 (fun hb => by
        have hc : (true) = true := by simp_all
        have e35 : a.eval (.tmp 35) = .bool (true) := by
          have e : a.eval (.tmp 35) = if (true) = true then .bool (true) else undef := H.facts 35 rfl
          rw [if_pos hc] at e
          exact e
        exact e35)
    · refine asked_pure rfl rfl (fun _ _ h => h) (fun _ _ _ => rfl) (fun l a W H => ?_)
      have e36 : a.eval (.tmp 36) = .bool (true && true) := H.facts 36 rfl
      exact run_move rfl e36
    · refine asked_guard (c := (true && true)) (v := .slice xa xn xc) rfl rfl rfl rfl (fun _ _ h => h) ?_ (fun _ _ _ => rfl) ?_
      · intro l u W _ hu
        have hu : u = .bool (true && true) := hu
        exact want_t hu
      intro hc l a W H
      have e9 : a.eval (.tmp 9) = .slice xa xn xc := (H.base 9 rfl).trans b9
      exact run_move rfl e9
    · refine asked_guard (c := (true && true)) (v := .string (strOfNums xs)) rfl rfl rfl rfl (fun _ _ h => h) ?_ (fun _ _ _ => rfl) ?_
      · intro l u W _ hu
        have hu : u = .bool (true && true) := hu
        exact want_t hu
      intro hc l a W H
      have e38 : a.eval (.tmp 38) = .slice xa xn xc := by
        have e : a.eval (.tmp 38) = if (true && true) = true then .slice xa xn xc else undef := H.facts 38 rfl
        rw [if_pos hc] at e
        exact e
      have hv := str_conv (hx.below H.s)
      (simp only [execOp]; try simp only [Option.map]); (try simp only [List.map_toArray, List.map_cons, List.map_nil]); (simp only [e38]; go_simp)
    · refine asked_guard (c := (true && true)) (v := .slice ya yn yc) rfl rfl rfl rfl (fun _ _ h => h) ?_ (fun _ _ _ => rfl) ?_
      · intro l u W _ hu
        have hu : u = .bool (true && true) := hu
        exact want_t hu
      intro hc l a W H
      have e11 : a.eval (.tmp 11) = .slice ya yn yc := (H.base 11 rfl).trans b11
      exact run_move rfl e11
    · refine asked_guard (c := (true && true)) (v := .string (strOfNums ys)) rfl rfl rfl rfl (fun _ _ h => h) ?_ (fun _ _ _ => rfl) ?_
      · intro l u W _ hu
        have hu : u = .bool (true && true) := hu
        exact want_t hu
      intro hc l a W H
      have e40 : a.eval (.tmp 40) = .slice ya yn yc := by
        have e : a.eval (.tmp 40) = if (true && true) = true then .slice ya yn yc else undef := H.facts 40 rfl
        rw [if_pos hc] at e
        exact e
      have hv := str_conv (hy.below H.s)
      (simp only [execOp]; try simp only [Option.map]); (try simp only [List.map_toArray, List.map_cons, List.map_nil]); (simp only [e40]; go_simp)
    · refine asked_guard (c := (true && true)) (v := .bool (c)) rfl rfl rfl rfl (fun _ _ h => h) ?_ (fun _ _ _ => rfl) ?_
      · intro l u W _ hu
        have hu : u = .bool (true && true) := hu
        exact want_t hu
      intro hc l a W H
      have e39 : a.eval (.tmp 39) = .string (strOfNums xs) := by
        have e : a.eval (.tmp 39) = if (true && true) = true then .string (strOfNums xs) else undef := H.facts 39 rfl
        rw [if_pos hc] at e
        exact e
      have e41 : a.eval (.tmp 41) = .string (strOfNums ys) := by
        have e : a.eval (.tmp 41) = if (true && true) = true then .string (strOfNums ys) else undef := H.facts 41 rfl
        rw [if_pos hc] at e
        exact e
      exact run_eqS rfl e39 e41 hcc
    · refine asked_guard (c := (true && true)) (v := .agg (funR M um)) rfl rfl rfl rfl (fun _ _ h => h) ?_ (fun _ _ _ => rfl) ?_
      · intro l u W _ hu
        have hu : u = .bool (true && true) := hu
        exact want_t hu
      intro hc l a W H
      have e7 : a.eval (.tmp 7) = .pointer (some ⟨g7, 0, none⟩) := (H.base 7 rfl).trans b7
      exact run_load_row rfl ((H.base 7 rfl).trans b7) ((H.s.block g7 (Array.getElem?_eq_some_iff.1 h7).1).trans h7) Try.underlying28 (size28 _ _ _)
    · refine asked_guard (c := (true && true)) (v := .agg (funR L ul)) rfl rfl rfl rfl (fun _ _ h => h) ?_ (fun _ _ _ => rfl) ?_
      · intro l u W _ hu
        have hu : u = .bool (true && true) := hu
        exact want_t hu
      intro hc l a W H
      have e8 : a.eval (.tmp 8) = .pointer (some ⟨g8, 0, none⟩) := (H.base 8 rfl).trans b8
      exact run_load_row rfl ((H.base 8 rfl).trans b8) ((H.s.block g8 (Array.getElem?_eq_some_iff.1 h8).1).trans h8) Try.underlying28 (size28 _ _ _)
    · refine asked_gcall (c := (true && true)) rfl rfl rfl Try.func7 (by kernel_rfl) (by kernel_rfl) rfl rfl ?_ ?_ ?_
      · intro l u W _ hu
        have hu : u = .bool (true && true) := hu
        exact want_t hu
      · intro hc l W hS
        exact absurd hc (by decide)
      intro hc l a W H
      have e43 : a.eval (.tmp 43) = .agg (funR M um) := by
        have e : a.eval (.tmp 43) = if (true && true) = true then .agg (funR M um) else undef := H.facts 43 rfl
        rw [if_pos hc] at e
        exact e
      have e44 : a.eval (.tmp 44) = .agg (funR L ul) := by
        have e : a.eval (.tmp 44) = if (true && true) = true then .agg (funR L ul) else undef := H.facts 44 rfl
        rw [if_pos hc] at e
        exact e
      have ea : (#[.tmp 43, .tmp 44] : Array Operand).map a.eval = #[.agg (funR M um), .agg (funR L ul)] := by
        simp only [List.map_toArray, List.map_cons, List.map_nil, e43, e44]
      rw [ea]
      refine (hS W H.s).mono ?_
      rintro e w' ⟨b, rfl, hb, hB⟩
      obtain rfl : b = c := by
        cases b <;> cases c <;> simp_all
      exact ⟨_, rfl, (if_pos (by decide)).symm, bel_of H.s hB, fun _ _ _ h => h⟩
    · refine asked_guard (c := (true && true)) (v := .bool (true)) rfl rfl rfl rfl (fun _ _ h => h) ?_ (fun _ _ _ => rfl) ?_
      · intro l u W _ hu
        have hu : u = .bool (true && true) := hu
        exact want_t hu
      intro hc l a W H
      have e42 : a.eval (.tmp 42) = .bool (c) := by
        have e : a.eval (.tmp 42) = if (true && true) = true then .bool (c) else undef := H.facts 42 rfl
        rw [if_pos hc] at e
        exact e
      have e45 : a.eval (.tmp 45) = .bool (c) := by
        have e : a.eval (.tmp 45) = if (true && true) = true then .bool (c) else undef := H.facts 45 rfl
        rw [if_pos hc] at e
        exact e
      exact run_eqB rfl e42 e45
    · refine asked_pure rfl rfl (fun _ _ h => h) (fun _ _ _ => rfl) (fun l a W H => ?_)
      have e37 : a.eval (.tmp 37) = .bool (true && true) := H.facts 37 rfl
      exact run_pick_and rfl e37 (fun hb => by
        have hc : (true && true) = true := by simp_all
        have e46 : a.eval (.tmp 46) = .bool (true) := by
          have e : a.eval (.tmp 46) = if (true && true) = true then .bool (true) else undef := H.facts 46 rfl
          rw [if_pos hc] at e
          exact e
        exact e46)
    · refine asked_pure rfl rfl (fun _ _ h => h) (fun _ _ _ => rfl) (fun l a W H => ?_)
      have e47 : a.eval (.tmp 47) = .bool ((true && true) && true) := H.facts 47 rfl
      exact run_assign rfl e47
  · intro l s W _ hS hs
    exact hend s W (show s 6 = .bool ((true && true) && true) from hs 6 rfl) hS
end Go.Proofs.Ytbjnhicikkjadab
