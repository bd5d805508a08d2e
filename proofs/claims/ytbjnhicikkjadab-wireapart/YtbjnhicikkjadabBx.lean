/- Two boxes of one type: the two instructions that SameBlocks compares; the two functions that WireApart makes. -/
import Derived.Test.YtbjnhicikkjadabAp
import Derived.Test.YtbjnhicikkjadabSame
import Derived.Test.YtbjnhicikkjadabMade
import Derived.Laws.CopyOwn
import Derived.Laws.Tables
namespace Go.Proofs.Ytbjnhicikkjadab
open Go Go.RowKit Ir

theorem keeps_setRow {T : TypeId → Bool} {w : World} {g : Nat} {old cs : Array Value} {t : TypeId} (hg : w.heap[g]? = some (Obj.cells old t (0, 0))) (ht : T t = false) : Keeps T w (w.setRow g cs) := by
  intro g' cs' t' fr hT h
  by_cases e : g' = g
  · subst e
    rw [hg] at h
    simp only [Option.some.injEq, Obj.cells.injEq] at h
    obtain ⟨_, rfl, _⟩ := h
    rw [ht] at hT
    cases hT
  · rw [setRow_other w g g' cs e]
    exact h
theorem zero49v (W : World) : (zeroValue 49).run Try.prog W = .ok (.agg #[.int .u8 0, .int .u8 0, .int .i64 0, .int .i64 0, .int .i64 0, .int .i64 0, .slice none 0 0]) W := by kernel_rfl
theorem zero28v (W : World) : (zeroValue 28).run Try.prog W = .ok (.agg #[.int .i64 0, .int .i64 0, .slice none 0 0]) W := by kernel_rfl
theorem size49 (a b c d e f g : Value) : (Try.prog.info? 49).map (·.size) = some (#[a, b, c, d, e, f, g] : Array Value).size := by kernel_rfl
theorem size28 (a b c : Value) : (Try.prog.info? 28).map (·.size) = some (#[a, b, c] : Array Value).size := by kernel_rfl
theorem run_alloc {a : Act} {w : World} {o : Oper} {t : TypeId} (ho : o.op = .alloc t) (Z : Array Value) (hz : ∀ W, (zeroValue t).run Try.prog W = .ok (.agg Z) W) : (execOp a.eval o).run Try.prog w = .ok (.value (.pointer (some ⟨w.heap.size, 0, none⟩))) (w.alloc (.cells Z t)) := by
  unfold execOp
  simp only [ho, Instr.alloc, Sem.run_bind, hz, Result.andThen_ok]
  rfl
theorem run_store_whole {a : Act} {w : World} {o : Oper} {ty t : TypeId} {x y : Operand} {g : Nat} {old cells : Array Value} (ho : o.op = .store ty x y) (hx : a.eval x = .pointer (some ⟨g, 0, none⟩)) (hy : a.eval y = .agg cells) (hg : w.heap[g]? = some (Obj.cells old t (0, 0))) (hi : (Try.prog.info? ty).map (·.size) = some cells.size) (hs : old.size = cells.size) (h1 : cells.all (·.oneCell') = true) :
    (execOp a.eval o).run Try.prog w = .ok .skip (w.setRow g cells) := by
  unfold execOp
  simp only [ho, hx, hy, Instr.storeAt, Instr.sureAddr, Sem.run_bind, Sem.run_pure, Result.andThen_ok, run_storeVar_row w g t ty old cells hg hi hs h1]
theorem run_load_row {o : Oper} {a : Act} {w : World} {ty : TypeId} {x : Operand} {g : Nat} {t : TypeId} {cs : Array Value} {fr : Nat × Nat} {fs : Array Field} (ho : o.op = .load ty x) (hx : a.eval x = .pointer (some ⟨g, 0, none⟩)) (hg : w.heap[g]? = some (.cells cs t fr))
    (hu : Try.prog.underlying ty = some (.struct fs)) (hi : (Try.prog.info? ty).map (·.size) = some cs.size) : (execOp a.eval o).run Try.prog w = .ok (.value (.agg cs)) w := by
  unfold execOp
  simp only [ho, hx, Instr.loadAt, Instr.sureAddr, Sem.run_bind, Sem.run_pure, Result.andThen_ok, run_loadVar_row w g t ty cs fr (.struct fs) hg hu rfl hi]
/-- A box of type t, the call's own, that lies at x; once it is full it holds cs. -/
def Bx (B : Nat) (t : TypeId) (full : Bool) (cs : Array Value) (x : Value) (w : World) : Prop := ∃ (g : Nat) (zs : Array Value), x = .pointer (some ⟨g, 0, none⟩) ∧ B ≤ g ∧ w.heap[g]? = some (Obj.cells zs t (0, 0)) ∧ zs.size = cs.size ∧ (full = true → zs = cs)
theorem Bx.keep {B : Nat} {t : TypeId} {f f' : Bool} {cs : Array Value} {x : Value} {w w' : World} (h : Bx B t f cs x w) (hf : f' = f) (hk : Keeps (fun _ => true) w w') : Bx B t f' cs x w' := by
  subst hf
  obtain ⟨g, zs, h1, h2, h3, h4⟩ := h
  exact ⟨g, zs, h1, h2, hk _ _ _ _ rfl h3, h4⟩
theorem Bx.set {B : Nat} {t : TypeId} {f f' : Bool} {cs cells zs : Array Value} {x : Value} {w : World} {g : Nat} (h : Bx B t f cs x w) (hg : w.heap[g]? = some (Obj.cells zs t (0, 0))) (hc : cells.size = cs.size) (hf : f' = f) (hne : x ≠ .pointer (some ⟨g, 0, none⟩) ∨ f = false) : Bx B t f' cs x (w.setRow g cells) := by
  subst hf
  obtain ⟨g', zs', h1, h2, h3, h4, h5⟩ := h
  by_cases e : g' = g
  · subst e
    rcases hne with hne | hne
    · exact absurd h1 hne
    · exact ⟨g', _, h1, h2, setRow_heap w g' _ _ _ _ hg, hc, fun e => by rw [hne] at e; cases e⟩
  · refine ⟨g', zs', h1, h2, ?_, h4, h5⟩
    rw [setRow_other w g g' cells e]
    exact h3
def ops11 : Array Oper := #[⟨some 56, .move (.tmp 0), 26, "ref.go:295", #[], none⟩, ⟨some 57, .move (.tmp 5), 3, "ref.go:295", #[], none⟩, ⟨some 58, .indexAddr 26 (.tmp 56) (.tmp 57), 0, "ref.go:295", #[⟨0, .data⟩, ⟨1, .data⟩], none⟩, ⟨some 59, .fieldAddr 40 (.tmp 58) 0, 0, "ref.go:295", #[⟨2, .data⟩], none⟩, ⟨some 60, .load 38 (.tmp 59), 38, "ref.go:295", #[⟨3, .data⟩], none⟩, ⟨some 61, .move (.tmp 6), 3, "ref.go:295", #[], none⟩, ⟨some 62, .indexAddr 38 (.tmp 60) (.tmp 61), 0, "ref.go:295", #[⟨4, .data⟩, ⟨5, .data⟩], none⟩, ⟨some 63, .load 49 (.tmp 62), 49, "ref.go:295", #[⟨6, .data⟩], none⟩, ⟨some 64, .move (.tmp 1), 26, "ref.go:295", #[{ on := 18, ground := Ground.gcOnly Departure.lateStores }], none⟩, ⟨some 65, .move (.tmp 5), 3, "ref.go:295", #[{ on := 18, ground := Ground.gcOnly Departure.lateStores }], none⟩, ⟨some 66, .indexAddr 26 (.tmp 64) (.tmp 65), 0, "ref.go:295", #[⟨8, .data⟩, ⟨9, .data⟩, { on := 18, ground := Ground.gcOnly Departure.lateStores }], none⟩, ⟨some 67, .fieldAddr 40 (.tmp 66) 0, 0, "ref.go:295", #[⟨10, .data⟩, { on := 18, ground := Ground.gcOnly Departure.lateStores }], none⟩, ⟨some 68, .load 38 (.tmp 67), 38, "ref.go:295", #[⟨11, .data⟩, { on := 18, ground := Ground.gcOnly Departure.lateStores }], none⟩, ⟨some 69, .move (.tmp 6), 3, "ref.go:295", #[{ on := 18, ground := Ground.gcOnly Departure.lateStores }], none⟩, ⟨some 70, .indexAddr 38 (.tmp 68) (.tmp 69), 0, "ref.go:295", #[⟨12, .data⟩, ⟨13, .data⟩, { on := 18, ground := Ground.gcOnly Departure.lateStores }], none⟩, ⟨some 71, .load 49 (.tmp 70), 49, "ref.go:295", #[⟨14, .data⟩, { on := 18, ground := Ground.gcOnly Departure.lateStores }], none⟩, ⟨some 7, .alloc 49, 0, "ref.go:295", #[], none⟩, ⟨some 8, .alloc 49, 0, "ref.go:295", #[], none⟩, ⟨none, .store 49 (.tmp 7) (.tmp 63), 0, "ref.go:295", #[⟨16, .data⟩, ⟨7, .data⟩, ⟨0, .phase⟩, ⟨1, .phase⟩, ⟨2, .phase⟩, ⟨3, .phase⟩, ⟨4, .phase⟩, ⟨5, .phase⟩, ⟨6, .phase⟩, ⟨7, .phase⟩, { on := 8, ground := Ground.textOnly Departure.lateStores }, { on := 9, ground := Ground.textOnly Departure.lateStores }, { on := 10, ground := Ground.textOnly Departure.lateStores }, { on := 11, ground := Ground.textOnly Departure.lateStores }, { on := 12, ground := Ground.textOnly Departure.lateStores }, { on := 13, ground := Ground.textOnly Departure.lateStores }, { on := 14, ground := Ground.textOnly Departure.lateStores }, { on := 15, ground := Ground.textOnly Departure.lateStores }, ⟨16, .phase⟩, ⟨17, .phase⟩], none⟩, ⟨none, .store 49 (.tmp 8) (.tmp 71), 0, "ref.go:295", #[⟨17, .data⟩, ⟨15, .data⟩, ⟨18, .chain⟩, ⟨0, .phase⟩, ⟨1, .phase⟩, ⟨2, .phase⟩, ⟨3, .phase⟩, ⟨4, .phase⟩, ⟨5, .phase⟩, ⟨6, .phase⟩, ⟨7, .phase⟩, ⟨8, .phase⟩, ⟨9, .phase⟩, ⟨10, .phase⟩, ⟨11, .phase⟩, ⟨12, .phase⟩, ⟨13, .phase⟩, ⟨14, .phase⟩, ⟨15, .phase⟩, ⟨16, .phase⟩, ⟨17, .phase⟩, ⟨18, .phase⟩], none⟩]

def insA (i : Ins) (u : Value) : Array Value := #[.int .u8 i.k, .int .u8 i.op, .int .i64 i.d, .int .i64 i.a, .int .i64 i.b, .int .i64 i.n, u]
theorem insA_V (i : Ins) (u : Value) : insV i u = .agg (insA i u) := rfl
/-- What is known of each temporary. -/
def G11 (ga oa gv ov n ca cv j k gi oi m ci gj oj q di : Nat) (i i2 : Ins) (u v : Value) (B : Nat) (l : Nat → Bool) : Tmp → Value → World → Prop
  | 56, x, _ => x = .slice (some ⟨ga, oa, none⟩) n ca
  | 57, x, _ => x = .int .i64 (j : Nat)
  | 58, x, _ => x = .pointer (some ⟨ga, oa + j * 5, none⟩)
  | 59, x, _ => x = .pointer (some ⟨ga, oa + j * 5, none⟩)
  | 60, x, _ => x = .slice (some ⟨gi, oi, none⟩) m ci
  | 61, x, _ => x = .int .i64 (k : Nat)
  | 62, x, _ => x = .pointer (some ⟨gi, oi + k * 7, none⟩)
  | 63, x, _ => x = insV i u
  | 64, x, _ => x = .slice (some ⟨gv, ov, none⟩) n cv
  | 65, x, _ => x = .int .i64 (j : Nat)
  | 66, x, _ => x = .pointer (some ⟨gv, ov + j * 5, none⟩)
  | 67, x, _ => x = .pointer (some ⟨gv, ov + j * 5, none⟩)
  | 68, x, _ => x = .slice (some ⟨gj, oj, none⟩) q di
  | 69, x, _ => x = .int .i64 (k : Nat)
  | 70, x, _ => x = .pointer (some ⟨gj, oj + k * 7, none⟩)
  | 71, x, _ => x = insV i2 v
  | 7, x, w => Bx B 49 (l 18) (insA i u) x w
  | 8, x, w => Bx B 49 (l 19) (insA i2 v) x w
  | _, _, _ => True
/-- Two boxes that operations ja, jb lay, at what the temporaries ta, tb hold: each has its own place. -/
structure Sep (ja jb : Nat) (ta tb : Tmp) (wa : World) (l : Nat → Bool) (s : Tmp → Value) (W : World) : Prop where
  below : Below wa.heap.size wa W
  a : l ja = true → ∃ g, s ta = .pointer (some ⟨g, 0, none⟩) ∧ g < W.heap.size
  b : l jb = true → ∃ g, s tb = .pointer (some ⟨g, 0, none⟩) ∧ g < W.heap.size
  ne : l ja = true → l jb = true → s ta ≠ s tb
section
variable {ja jb jj : Nat} {ta tb d : Tmp} {wa W W' : World} {l : Nat → Bool} {s : Tmp → Value} {y : Value}
theorem upd_ne {i : Nat} (h : i ≠ jj) : upd l jj i = l i := if_neg h
theorem Sep.pure (h : Sep ja jb ta tb wa l s W) (h1 : ja ≠ jj) (h2 : jb ≠ jj) (h3 : ta ≠ d) (h4 : tb ≠ d) (hB : Below W.heap.size W W') : Sep ja jb ta tb wa (upd l jj) (L3.putv s (some d) y) W' := by
  refine ⟨bel_of h.below hB, fun e => ?_, fun e => ?_, fun e1 e2 => ?_⟩
  · rw [upd_ne h1] at e
    rw [L3.putv_other _ _ h3]
    obtain ⟨g, q1, q2⟩ := h.a e
    exact ⟨g, q1, Nat.lt_of_lt_of_le q2 hB.size⟩
  · rw [upd_ne h2] at e
    rw [L3.putv_other _ _ h4]
    obtain ⟨g, q1, q2⟩ := h.b e
    exact ⟨g, q1, Nat.lt_of_lt_of_le q2 hB.size⟩
  · rw [upd_ne h1] at e1
    rw [upd_ne h2] at e2
    rw [L3.putv_other _ _ h3, L3.putv_other _ _ h4]
    exact h.ne e1 e2
theorem Sep.store (h : Sep ja jb ta tb wa l s W) (h1 : ja ≠ jj) (h2 : jb ≠ jj) (hB : Below wa.heap.size wa W') (hs : W.heap.size ≤ W'.heap.size) : Sep ja jb ta tb wa (upd l jj) s W' := by
  refine ⟨hB, fun e => ?_, fun e => ?_, fun e1 e2 => ?_⟩
  · rw [upd_ne h1] at e
    obtain ⟨g, q1, q2⟩ := h.a e
    exact ⟨g, q1, Nat.lt_of_lt_of_le q2 hs⟩
  · rw [upd_ne h2] at e
    obtain ⟨g, q1, q2⟩ := h.b e
    exact ⟨g, q1, Nat.lt_of_lt_of_le q2 hs⟩
  · rw [upd_ne h1] at e1
    rw [upd_ne h2] at e2
    exact h.ne e1 e2
theorem Sep.alloc_a (h : Sep ja jb ta tb wa l s W) (hj : jb ≠ ja) (ht : tb ≠ ta) (o : Obj) : Sep ja jb ta tb wa (upd l ja) (L3.putv s (some ta) (.pointer (some ⟨W.heap.size, 0, none⟩))) (W.alloc o) := by
  refine ⟨bel_of h.below (bel1' W o), fun _ => ⟨_, L3.putv_same _ _ _, by simp⟩, fun e => ?_, fun _ e => ?_⟩
  · rw [upd_ne hj] at e
    rw [L3.putv_other _ _ ht]
    obtain ⟨g, q1, q2⟩ := h.b e
    exact ⟨g, q1, by simp; omega⟩
  · rw [upd_ne hj] at e
    rw [L3.putv_other _ _ ht, L3.putv_same]
    obtain ⟨g, q1, q2⟩ := h.b e
    rw [q1]
    intro he
    simp at he <;> omega
theorem Sep.alloc_b (h : Sep ja jb ta tb wa l s W) (hj : ja ≠ jb) (ht : ta ≠ tb) (o : Obj) : Sep ja jb ta tb wa (upd l jb) (L3.putv s (some tb) (.pointer (some ⟨W.heap.size, 0, none⟩))) (W.alloc o) := by
  refine ⟨bel_of h.below (bel1' W o), fun e => ?_, fun _ => ⟨_, L3.putv_same _ _ _, by simp⟩, fun e _ => ?_⟩
  · rw [upd_ne hj] at e
    rw [L3.putv_other _ _ ht]
    obtain ⟨g, q1, q2⟩ := h.a e
    exact ⟨g, q1, by simp; omega⟩
  · rw [upd_ne hj] at e
    rw [L3.putv_other _ _ ht, L3.putv_same]
    obtain ⟨g, q1, q2⟩ := h.a e
    rw [q1]
    intro he
    simp at he <;> omega
theorem sep_init {w0 : World} (h : Below wa.heap.size wa w0) : Sep ja jb ta tb wa (fun _ => false) s w0 := ⟨h, fun e => by simp at e, fun e => by simp at e, fun e => by simp at e⟩
end
section
variable {ga oa gv ov n ca cv j k gi oi m ci gj oj q di : Nat} {i i2 : Ins} {u v : Value} {B : Nat} {l l' : Nat → Bool} {d : Tmp} {x : Value} {w w' : World}
theorem G11_keep (h : G11 ga oa gv ov n ca cv j k gi oi m ci gj oj q di i i2 u v B l d x w) (h8 : l' 18 = l 18) (h9 : l' 19 = l 19) (hk : Keeps (fun _ => true) w w') : G11 ga oa gv ov n ca cv j k gi oi m ci gj oj q di i i2 u v B l' d x w' := by
  unfold G11 at h ⊢
  split at h
  all_goals first | exact h | exact h.keep h8 hk | exact h.keep h9 hk | trivial
theorem G11_set {g : Nat} {cells zs : Array Value} (h : G11 ga oa gv ov n ca cv j k gi oi m ci gj oj q di i i2 u v B l d x w) (hg : w.heap[g]? = some (Obj.cells zs 49 (0, 0))) (hc : cells.size = 7) (h8 : d = 7 → l' 18 = l 18 ∧ (x ≠ .pointer (some ⟨g, 0, none⟩) ∨ l 18 = false)) (h9 : d = 8 → l' 19 = l 19 ∧ (x ≠ .pointer (some ⟨g, 0, none⟩) ∨ l 19 = false)) : G11 ga oa gv ov n ca cv j k gi oi m ci gj oj q di i i2 u v B l' d x (w.setRow g cells) := by
  unfold G11 at h ⊢
  split at h
  all_goals first | exact h | exact Bx.set h hg hc (h8 rfl).1 (h8 rfl).2 | exact Bx.set h hg hc (h9 rfl).1 (h9 rfl).2 | trivial
end
set_option maxHeartbeats 2000000 in
set_option maxRecDepth 100000 in
theorem r11_ok {Q : Exit → Act → World → Prop} {a0 : Act} {wa : World} {ga oa gv ov n ca cv j k gi oi m ci gj oj q di : Nat} {i i2 : Ins} {u v : Value} (hz : a0.tmps.size = 120) (b0 : a0.eval (.tmp 0) = .slice (some ⟨ga, oa, none⟩) n ca) (b1 : a0.eval (.tmp 1) = .slice (some ⟨gv, ov, none⟩) n cv) (b5 : a0.eval (.tmp 5) = .int .i64 (j : Nat)) (b6 : a0.eval (.tmp 6) = .int .i64 (k : Nat))
    (hjn : (j : Int) < (n : Int)) (hkm : (k : Int) < (m : Int)) (hkq : (k : Int) < (q : Int)) (c0 : wa.cell? ⟨ga, oa + j * 5, none⟩ = some (.slice (some ⟨gi, oi, none⟩) m ci)) (d0 : wa.cell? ⟨gv, ov + j * 5, none⟩ = some (.slice (some ⟨gj, oj, none⟩) q di)) (hi : InsCells wa gi (oi + k * 7) i u) (hi2 : InsCells wa gj (oj + k * 7) i2 v) (hu : ∃ a n c, u = .slice a n c) (hv : ∃ a n c, v = .slice a n c)
    (hend : ∀ (s : Tmp → Value) (W : World) (g7 g8 : Nat), s 7 = .pointer (some ⟨g7, 0, none⟩) → s 8 = .pointer (some ⟨g8, 0, none⟩) → W.heap[g7]? = some (Obj.cells (insA i u) 49 (0, 0)) → W.heap[g8]? = some (Obj.cells (insA i2 v) 49 (0, 0)) → Below wa.heap.size wa W → Q .normal (overlay a0 (dstsOf ops11) s) W) : (Code.region 11 ops11 true).wp Try.prog Q a0 wa := by
  obtain ⟨ua, un, uc, rfl⟩ := hu
  obtain ⟨va, vn, vc, rfl⟩ := hv
  refine L3.wp_region_eachL (by kernel_rfl) (fun l => G11 ga oa gv ov n ca cv j k gi oi m ci gj oj q di i i2 (.slice ua un uc) (.slice va vn vc) wa.heap.size l) (Sep 16 17 7 8 wa) (by rw [hz]; kernel_rfl) (sep_init (Below.refl _ _).drew) ?_ ?_
  · refine And.intro ?_ (And.intro ?_ (And.intro ?_ (And.intro ?_ (And.intro ?_ (And.intro ?_ (And.intro ?_ (And.intro ?_ (And.intro ?_ (And.intro ?_ (And.intro ?_ (And.intro ?_ (And.intro ?_ (And.intro ?_ (And.intro ?_ (And.intro ?_ (And.intro ?_ (And.intro ?_ (And.intro ?_ (And.intro ?_ trivial)))))))))))))))))))
    · refine L3.asked_any rfl (fun l a W H => ?_)
      exact ⟨.slice (some ⟨ga, oa, none⟩) n ca, W, run_move rfl ((H.base 0 rfl).trans b0), fun d hd => by cases hd; exact rfl, H.s.pure (by decide) (by decide) (by decide) (by decide) (Below.refl _ _), fun d _ h => G11_keep h (if_neg (by decide)) (if_neg (by decide)) (Keeps.below (Below.refl _ _))⟩
    · refine L3.asked_any rfl (fun l a W H => ?_)
      exact ⟨.int .i64 (j : Nat), W, run_move rfl ((H.base 5 rfl).trans b5), fun d hd => by cases hd; exact rfl, H.s.pure (by decide) (by decide) (by decide) (by decide) (Below.refl _ _), fun d _ h => G11_keep h (if_neg (by decide)) (if_neg (by decide)) (Keeps.below (Below.refl _ _))⟩
    · refine L3.asked_any rfl (fun l a W H => ?_)
      have e56 : a.eval (.tmp 56) = .slice (some ⟨ga, oa, none⟩) n ca := H.facts 56 rfl
      have e57 : a.eval (.tmp 57) = .int .i64 (j : Nat) := H.facts 57 rfl
      refine ⟨.pointer (some ⟨ga, oa + j * 5, none⟩), W, ?_, fun d hd => by cases hd; exact rfl, H.s.pure (by decide) (by decide) (by decide) (by decide) (Below.refl _ _), fun d _ h => G11_keep h (if_neg (by decide)) (if_neg (by decide)) (Keeps.below (Below.refl _ _))⟩
      (simp only [execOp]; try simp only [Option.map]); (try simp only [List.map_toArray, List.map_cons, List.map_nil]); (simp only [e56, e57]; go_simp)
    · refine L3.asked_any rfl (fun l a W H => ?_)
      have e58 : a.eval (.tmp 58) = .pointer (some ⟨ga, oa + j * 5, none⟩) := H.facts 58 rfl
      refine ⟨.pointer (some ⟨ga, oa + j * 5, none⟩), W, ?_, fun d hd => by cases hd; exact rfl, H.s.pure (by decide) (by decide) (by decide) (by decide) (Below.refl _ _), fun d _ h => G11_keep h (if_neg (by decide)) (if_neg (by decide)) (Keeps.below (Below.refl _ _))⟩
      (simp only [execOp]; try simp only [Option.map]); (try simp only [List.map_toArray, List.map_cons, List.map_nil]); (simp only [e58]; go_simp)
    · refine L3.asked_any rfl (fun l a W H => ?_)
      have e59 : a.eval (.tmp 59) = .pointer (some ⟨ga, oa + j * 5, none⟩) := H.facts 59 rfl
      have c0 := cell_below H.s.below c0
      refine ⟨.slice (some ⟨gi, oi, none⟩) m ci, W, ?_, fun d hd => by cases hd; exact rfl, H.s.pure (by decide) (by decide) (by decide) (by decide) (Below.refl _ _), fun d _ h => G11_keep h (if_neg (by decide)) (if_neg (by decide)) (Keeps.below (Below.refl _ _))⟩
      (simp only [execOp]; try simp only [Option.map]); (try simp only [List.map_toArray, List.map_cons, List.map_nil]); (simp only [e59]; go_simp)
    · refine L3.asked_any rfl (fun l a W H => ?_)
      exact ⟨.int .i64 (k : Nat), W, run_move rfl ((H.base 6 rfl).trans b6), fun d hd => by cases hd; exact rfl, H.s.pure (by decide) (by decide) (by decide) (by decide) (Below.refl _ _), fun d _ h => G11_keep h (if_neg (by decide)) (if_neg (by decide)) (Keeps.below (Below.refl _ _))⟩
    · refine L3.asked_any rfl (fun l a W H => ?_)
      have e60 : a.eval (.tmp 60) = .slice (some ⟨gi, oi, none⟩) m ci := H.facts 60 rfl
      have e61 : a.eval (.tmp 61) = .int .i64 (k : Nat) := H.facts 61 rfl
      refine ⟨.pointer (some ⟨gi, oi + k * 7, none⟩), W, ?_, fun d hd => by cases hd; exact rfl, H.s.pure (by decide) (by decide) (by decide) (by decide) (Below.refl _ _), fun d _ h => G11_keep h (if_neg (by decide)) (if_neg (by decide)) (Keeps.below (Below.refl _ _))⟩
      (simp only [execOp]; try simp only [Option.map]); (try simp only [List.map_toArray, List.map_cons, List.map_nil]); (simp only [e60, e61]; go_simp)
    · refine L3.asked_any rfl (fun l a W H => ?_)
      have e62 : a.eval (.tmp 62) = .pointer (some ⟨gi, oi + k * 7, none⟩) := H.facts 62 rfl
      exact ⟨insV i (.slice ua un uc), W, run_load46 rfl e62 (hi.below H.s.below), fun d hd => by cases hd; exact rfl, H.s.pure (by decide) (by decide) (by decide) (by decide) (Below.refl _ _), fun d _ h => G11_keep h (if_neg (by decide)) (if_neg (by decide)) (Keeps.below (Below.refl _ _))⟩
    · refine L3.asked_any rfl (fun l a W H => ?_)
      exact ⟨.slice (some ⟨gv, ov, none⟩) n cv, W, run_move rfl ((H.base 1 rfl).trans b1), fun d hd => by cases hd; exact rfl, H.s.pure (by decide) (by decide) (by decide) (by decide) (Below.refl _ _), fun d _ h => G11_keep h (if_neg (by decide)) (if_neg (by decide)) (Keeps.below (Below.refl _ _))⟩
    · refine L3.asked_any rfl (fun l a W H => ?_)
      exact ⟨.int .i64 (j : Nat), W, run_move rfl ((H.base 5 rfl).trans b5), fun d hd => by cases hd; exact rfl, H.s.pure (by decide) (by decide) (by decide) (by decide) (Below.refl _ _), fun d _ h => G11_keep h (if_neg (by decide)) (if_neg (by decide)) (Keeps.below (Below.refl _ _))⟩
    · refine L3.asked_any rfl (fun l a W H => ?_)
      have e64 : a.eval (.tmp 64) = .slice (some ⟨gv, ov, none⟩) n cv := H.facts 64 rfl
      have e65 : a.eval (.tmp 65) = .int .i64 (j : Nat) := H.facts 65 rfl
      refine ⟨.pointer (some ⟨gv, ov + j * 5, none⟩), W, ?_, fun d hd => by cases hd; exact rfl, H.s.pure (by decide) (by decide) (by decide) (by decide) (Below.refl _ _), fun d _ h => G11_keep h (if_neg (by decide)) (if_neg (by decide)) (Keeps.below (Below.refl _ _))⟩
      (simp only [execOp]; try simp only [Option.map]); (try simp only [List.map_toArray, List.map_cons, List.map_nil]); (simp only [e64, e65]; go_simp)
    · refine L3.asked_any rfl (fun l a W H => ?_)
      have e66 : a.eval (.tmp 66) = .pointer (some ⟨gv, ov + j * 5, none⟩) := H.facts 66 rfl
      refine ⟨.pointer (some ⟨gv, ov + j * 5, none⟩), W, ?_, fun d hd => by cases hd; exact rfl, H.s.pure (by decide) (by decide) (by decide) (by decide) (Below.refl _ _), fun d _ h => G11_keep h (if_neg (by decide)) (if_neg (by decide)) (Keeps.below (Below.refl _ _))⟩
      (simp only [execOp]; try simp only [Option.map]); (try simp only [List.map_toArray, List.map_cons, List.map_nil]); (simp only [e66]; go_simp)
    · refine L3.asked_any rfl (fun l a W H => ?_)
      have e67 : a.eval (.tmp 67) = .pointer (some ⟨gv, ov + j * 5, none⟩) := H.facts 67 rfl
      have d0 := cell_below H.s.below d0
      refine ⟨.slice (some ⟨gj, oj, none⟩) q di, W, ?_, fun d hd => by cases hd; exact rfl, H.s.pure (by decide) (by decide) (by decide) (by decide) (Below.refl _ _), fun d _ h => G11_keep h (if_neg (by decide)) (if_neg (by decide)) (Keeps.below (Below.refl _ _))⟩
      (simp only [execOp]; try simp only [Option.map]); (try simp only [List.map_toArray, List.map_cons, List.map_nil]); (simp only [e67]; go_simp)
    · refine L3.asked_any rfl (fun l a W H => ?_)
      exact ⟨.int .i64 (k : Nat), W, run_move rfl ((H.base 6 rfl).trans b6), fun d hd => by cases hd; exact rfl, H.s.pure (by decide) (by decide) (by decide) (by decide) (Below.refl _ _), fun d _ h => G11_keep h (if_neg (by decide)) (if_neg (by decide)) (Keeps.below (Below.refl _ _))⟩
    · refine L3.asked_any rfl (fun l a W H => ?_)
      have e68 : a.eval (.tmp 68) = .slice (some ⟨gj, oj, none⟩) q di := H.facts 68 rfl
      have e69 : a.eval (.tmp 69) = .int .i64 (k : Nat) := H.facts 69 rfl
      refine ⟨.pointer (some ⟨gj, oj + k * 7, none⟩), W, ?_, fun d hd => by cases hd; exact rfl, H.s.pure (by decide) (by decide) (by decide) (by decide) (Below.refl _ _), fun d _ h => G11_keep h (if_neg (by decide)) (if_neg (by decide)) (Keeps.below (Below.refl _ _))⟩
      (simp only [execOp]; try simp only [Option.map]); (try simp only [List.map_toArray, List.map_cons, List.map_nil]); (simp only [e68, e69]; go_simp)
    · refine L3.asked_any rfl (fun l a W H => ?_)
      have e70 : a.eval (.tmp 70) = .pointer (some ⟨gj, oj + k * 7, none⟩) := H.facts 70 rfl
      exact ⟨insV i2 (.slice va vn vc), W, run_load46 rfl e70 (hi2.below H.s.below), fun d hd => by cases hd; exact rfl, H.s.pure (by decide) (by decide) (by decide) (by decide) (Below.refl _ _), fun d _ h => G11_keep h (if_neg (by decide)) (if_neg (by decide)) (Keeps.below (Below.refl _ _))⟩
    · refine L3.asked_any rfl (fun l a W H => ?_)
      have hB := bel1' W (.cells #[.int .u8 0, .int .u8 0, .int .i64 0, .int .i64 0, .int .i64 0, .int .i64 0, .slice none 0 0] 49)
      have hls : l 18 = false := by
        cases h12 : l 18 with
        | false => rfl
        | true => have h1 := H.closed 18 16 (by rfl) h12; rw [H.new] at h1; cases h1
      exact ⟨_, _, run_alloc rfl _ zero49v, fun d hd => by cases hd; exact ⟨W.heap.size, _, rfl, H.s.below.size, heap_alloc_new W _, rfl, fun e => by rw [show upd l 16 18 = l 18 from if_neg (by decide), hls] at e; cases e⟩, H.s.alloc_a (by decide) (by decide) _, fun d _ h => G11_keep h (if_neg (by decide)) (if_neg (by decide)) (Keeps.below hB)⟩
    · refine L3.asked_any rfl (fun l a W H => ?_)
      have hB := bel1' W (.cells #[.int .u8 0, .int .u8 0, .int .i64 0, .int .i64 0, .int .i64 0, .int .i64 0, .slice none 0 0] 49)
      have hls : l 19 = false := by
        cases h12 : l 19 with
        | false => rfl
        | true => have h1 := H.closed 19 17 (by rfl) h12; rw [H.new] at h1; cases h1
      exact ⟨_, _, run_alloc rfl _ zero49v, fun d hd => by cases hd; exact ⟨W.heap.size, _, rfl, H.s.below.size, heap_alloc_new W _, rfl, fun e => by rw [show upd l 17 19 = l 19 from if_neg (by decide), hls] at e; cases e⟩, H.s.alloc_b (by decide) (by decide) _, fun d _ h => G11_keep h (if_neg (by decide)) (if_neg (by decide)) (Keeps.below hB)⟩
    · refine L3.asked_skip rfl rfl (fun l a W H => ?_)
      obtain ⟨g, zs, e7, hBg, hg, hsz, _⟩ : Bx wa.heap.size 49 (l 18) (insA i (.slice ua un uc)) (a.eval (.tmp 7)) W := H.facts 7 rfl
      have es : a.eval (.tmp 63) = .agg (insA i (.slice ua un uc)) := H.facts 63 rfl
      have la : l 16 = true := H.deps ⟨16, .data⟩ (by simp) rfl
      have hBs := below_setRow H.s.below hBg (insA i (.slice ua un uc))
      refine ⟨_, run_store_whole rfl e7 es hg (size49 _ _ _ _ _ _ _) hsz (by simp [insA, Value.oneCell']), H.s.store (by decide) (by decide) hBs (by simp [World.setRow]), fun d h => ?_⟩
      by_cases hd : d = 7
      · subst hd
        exact ⟨g, _, e7, hBg, setRow_heap W g _ _ _ _ hg, rfl, fun _ => rfl⟩
      · have hoth : ∀ e : d = 8, upd l 18 19 = l 19 ∧ (a.eval (.tmp d) ≠ .pointer (some ⟨g, 0, none⟩) ∨ l 19 = false) := fun e => by
          refine ⟨if_neg (by decide), ?_⟩
          cases hlb : l 17 with
          | true => exact .inl (fun ex => by subst e; exact H.s.ne la hlb (e7.trans ex.symm))
          | false =>
            refine .inr ?_
            cases hls : l 19 with
            | false => rfl
            | true => have h1 := H.closed 19 17 (by rfl) hls; rw [hlb] at h1; cases h1
        exact G11_set h hg (by simp [insA]) (fun e => absurd e hd) hoth
    · refine L3.asked_skip rfl rfl (fun l a W H => ?_)
      obtain ⟨g, zs, e7, hBg, hg, hsz, _⟩ : Bx wa.heap.size 49 (l 19) (insA i2 (.slice va vn vc)) (a.eval (.tmp 8)) W := H.facts 8 rfl
      have es : a.eval (.tmp 71) = .agg (insA i2 (.slice va vn vc)) := H.facts 71 rfl
      have la : l 17 = true := H.deps ⟨17, .data⟩ (by simp) rfl
      have hBs := below_setRow H.s.below hBg (insA i2 (.slice va vn vc))
      refine ⟨_, run_store_whole rfl e7 es hg (size49 _ _ _ _ _ _ _) hsz (by simp [insA, Value.oneCell']), H.s.store (by decide) (by decide) hBs (by simp [World.setRow]), fun d h => ?_⟩
      by_cases hd : d = 8
      · subst hd
        exact ⟨g, _, e7, hBg, setRow_heap W g _ _ _ _ hg, rfl, fun _ => rfl⟩
      · have hoth : ∀ e : d = 7, upd l 19 18 = l 18 ∧ (a.eval (.tmp d) ≠ .pointer (some ⟨g, 0, none⟩) ∨ l 18 = false) := fun e => by
          refine ⟨if_neg (by decide), ?_⟩
          cases hlb : l 16 with
          | true => exact .inl (fun ex => by subst e; exact H.s.ne hlb la (ex.trans e7.symm))
          | false =>
            refine .inr ?_
            cases hls : l 18 with
            | false => rfl
            | true => have h1 := H.closed 18 16 (by rfl) hls; rw [hlb] at h1; cases h1
        exact G11_set h hg (by simp [insA]) hoth (fun e => absurd e hd)
  · intro l s W hall hS hs
    obtain ⟨g7, z7, q1, q2, q3, q4, q5⟩ : Bx wa.heap.size 49 (l 18) (insA i (.slice ua un uc)) (s 7) W := hs 7 rfl
    obtain ⟨g8, z8, p1, p2, p3, p4, p5⟩ : Bx wa.heap.size 49 (l 19) (insA i2 (.slice va vn vc)) (s 8) W := hs 8 rfl
    rw [q5 (hall 18 (by decide))] at q3
    rw [p5 (hall 19 (by decide))] at p3
    exact hend s W g7 g8 q1 p1 q3 p3 hS.below
end Go.Proofs.Ytbjnhicikkjadab
