/- Two values that are come by, and the two boxes of one type into which they are put: a region that draws its order. -/
import Derived.Test.YtgckpmaajmlijaaAp
import Derived.Test.YtgckpmaajmlijaaR2
import Derived.Laws.CopyOwn
import Derived.Laws.Tables
namespace Go.Proofs.Ytgckpmaajmlijaa
open Go Go.RowKit Ir Wy

theorem keeps_setRow {T : TypeId → Bool} {w : World} {g : Nat} {old cs : Array Value} {t : TypeId} (hg : w.heap[g]? = some (Obj.cells old t (0, 0))) (ht : T t = false) : Keeps T w (w.setRow g cs) := by
  intro g' cs' t' fr hT h
  by_cases e : g' = g
  · subst e
    rw [hg] at h
    simp only [Option.some.injEq, Obj.cells.injEq] at h
    obtain ⟨_, rfl, _⟩ := h
    rw [ht] at hT
    cases hT
  · rw [setRow_other w g g' cs e]
    exact h
theorem run_alloc {a : Act} {w : World} {o : Oper} {t : TypeId} (ho : o.op = .alloc t) (Z : Array Value) (hz : ∀ W, (zeroValue t).run Try.prog W = .ok (.agg Z) W) : (execOp a.eval o).run Try.prog w = .ok (.value (.pointer (some ⟨w.heap.size, 0, none⟩))) (w.alloc (.cells Z t)) := by
  unfold execOp
  simp only [ho, Instr.alloc, Sem.run_bind, hz, Result.andThen_ok]
  rfl
theorem run_store_whole {a : Act} {w : World} {o : Oper} {ty t : TypeId} {x y : Operand} {g : Nat} {old cells : Array Value} (ho : o.op = .store ty x y) (hx : a.eval x = .pointer (some ⟨g, 0, none⟩)) (hy : a.eval y = .agg cells) (hg : w.heap[g]? = some (Obj.cells old t (0, 0))) (hi : (Try.prog.info? ty).map (·.size) = some cells.size) (hs : old.size = cells.size) (h1 : cells.all (·.oneCell') = true) :
    (execOp a.eval o).run Try.prog w = .ok .skip (w.setRow g cells) := by
  unfold execOp
  simp only [ho, hx, hy, Instr.storeAt, Instr.sureAddr, Sem.run_bind, Sem.run_pure, Result.andThen_ok, run_storeVar_row w g t ty old cells hg hi hs h1]

/-- The operations' places, the temporaries. -/
structure Ix where
  j1 : Nat
  j2 : Nat
  ja : Nat
  jb : Nat
  sa : Nat
  sb : Nat
  t1 : Nat
  t2 : Nat
  ta : Nat
  tb : Nat
def Ix.ok (x : Ix) : Prop := [x.j1, x.j2, x.ja, x.jb, x.sa, x.sb].Nodup ∧ [x.t1, x.t2, x.ta, x.tb].Nodup
/-- How far it has come. -/
structure TB (x : Ix) (T : TypeId) (n : Nat) (P1 : Value → World → Prop) (P2 : Value → Value → World → Prop) (wa : World) (l : Nat → Bool) (s : Tmp → Value) (W : World) : Prop where
  below : Below wa.heap.size wa W
  c1 : l x.j1 = true → P1 (s x.t1) W
  c2 : l x.j2 = true → P2 (s x.t1) (s x.t2) W
  a : l x.ja = true → ∃ g zs, s x.ta = .pointer (some ⟨g, 0, none⟩) ∧ wa.heap.size ≤ g ∧ W.heap[g]? = some (Obj.cells zs T (0, 0)) ∧ zs.size = n
  b : l x.jb = true → ∃ g zs, s x.tb = .pointer (some ⟨g, 0, none⟩) ∧ wa.heap.size ≤ g ∧ W.heap[g]? = some (Obj.cells zs T (0, 0)) ∧ zs.size = n
  ne : l x.ja = true → l x.jb = true → s x.ta ≠ s x.tb
  fa : l x.sa = true → ∃ g zs, s x.ta = .pointer (some ⟨g, 0, none⟩) ∧ W.heap[g]? = some (Obj.cells zs T (0, 0)) ∧ s x.t1 = .agg zs
  fb : l x.sb = true → ∃ g zs, s x.tb = .pointer (some ⟨g, 0, none⟩) ∧ W.heap[g]? = some (Obj.cells zs T (0, 0)) ∧ s x.t2 = .agg zs
section
variable {x : Ix} {T : TypeId} {n : Nat} {P1 : Value → World → Prop} {P2 : Value → Value → World → Prop} {wa W W' : World} {l : Nat → Bool} {s : Tmp → Value} {j d : Nat} {y : Value}
/-- What is known of the values stays while blocks of other types stay. -/
def St1 (T : TypeId) (P1 : Value → World → Prop) : Prop := ∀ v W W', Keeps (fun t => t != T) W W' → W.heap.size ≤ W'.heap.size → P1 v W → P1 v W'
def St2 (T : TypeId) (P2 : Value → Value → World → Prop) : Prop := ∀ v u W W', Keeps (fun t => t != T) W W' → W.heap.size ≤ W'.heap.size → P2 v u W → P2 v u W'
theorem upd_other {i k : Nat} (h : i ≠ k) : upd l k i = l i := if_neg h
theorem heap_below {g : Nat} {o : Obj} (h : W.heap[g]? = some o) (hB : Below W.heap.size W W') : W'.heap[g]? = some o := (hB.block g (Array.getElem?_eq_some_iff.1 h).1).trans h
theorem TB.start (hB : Below wa.heap.size wa W) : TB x T n P1 P2 wa (fun _ => false) s W :=
  ⟨hB, fun h => by simp at h, fun h => by simp at h, fun h => by simp at h, fun h => by simp at h, fun h => by simp at h, fun h => by simp at h, fun h => by simp at h⟩
/-- What stays where an operation comes up that is none of the six, and writes another temporary. -/
theorem TB.pure (h : TB x T n P1 P2 wa l s W) (s1 : St1 T P1) (s2 : St2 T P2) (hj : ¬ j ∈ [x.j1, x.j2, x.ja, x.jb, x.sa, x.sb]) (hd : ¬ d ∈ [x.t1, x.t2, x.ta, x.tb]) (hB : Below W.heap.size W W') : TB x T n P1 P2 wa (upd l j) (L3.putv s (some d) y) W' := by
  simp only [List.mem_cons, List.not_mem_nil, or_false, not_or] at hj hd
  obtain ⟨q1, q2, q3, q4, q5, q6⟩ := hj
  obtain ⟨r1, r2, r3, r4⟩ := hd
  have e1 := upd_other (l := l) (Ne.symm q1)
  have e2 := upd_other (l := l) (Ne.symm q2)
  have e3 := upd_other (l := l) (Ne.symm q3)
  have e4 := upd_other (l := l) (Ne.symm q4)
  have e5 := upd_other (l := l) (Ne.symm q5)
  have e6 := upd_other (l := l) (Ne.symm q6)
  have f1 := L3.putv_other s y (Ne.symm r1)
  have f2 := L3.putv_other s y (Ne.symm r2)
  have f3 := L3.putv_other s y (Ne.symm r3)
  have f4 := L3.putv_other s y (Ne.symm r4)
  refine ⟨bel_of h.below hB, ?_, ?_, ?_, ?_, ?_, ?_, ?_⟩
  · rw [e1, f1]; exact fun q => s1 _ _ _ (Keeps.below hB) hB.size (h.c1 q)
  · rw [e2, f1, f2]; exact fun q => s2 _ _ _ _ (Keeps.below hB) hB.size (h.c2 q)
  · rw [e3, f3]; intro q; obtain ⟨g, zs, h1, h2, h3, h4⟩ := h.a q; exact ⟨g, zs, h1, h2, heap_below h3 hB, h4⟩
  · rw [e4, f4]; intro q; obtain ⟨g, zs, h1, h2, h3, h4⟩ := h.b q; exact ⟨g, zs, h1, h2, heap_below h3 hB, h4⟩
  · rw [e3, e4, f3, f4]; exact h.ne
  · rw [e5, f3, f1]; intro q; obtain ⟨g, zs, h1, h2, h3⟩ := h.fa q; exact ⟨g, zs, h1, heap_below h2 hB, h3⟩
  · rw [e6, f4, f2]; intro q; obtain ⟨g, zs, h1, h2, h3⟩ := h.fb q; exact ⟨g, zs, h1, heap_below h2 hB, h3⟩
/-- The first value. -/
theorem TB.call1 (h : TB x T n P1 P2 wa l s W) (ok : x.ok) (n2 : l x.j2 = false) (na : l x.sa = false) (hB : Below W.heap.size W W') (hv : P1 y W') : TB x T n P1 P2 wa (upd l x.j1) (L3.putv s (some x.t1) y) W' := by
  obtain ⟨ok1, ok2⟩ := ok
  simp only [List.nodup_cons, List.mem_cons, List.not_mem_nil, or_false, not_or, List.nodup_nil, not_false_eq_true, and_true] at ok1 ok2
  obtain ⟨⟨q1, q2, q3, q4, q5⟩, _⟩ := ok1
  obtain ⟨⟨r1, r2, r3⟩, _⟩ := ok2
  have e2 := upd_other (l := l) (Ne.symm q1)
  have e3 := upd_other (l := l) (Ne.symm q2)
  have e4 := upd_other (l := l) (Ne.symm q3)
  have e5 := upd_other (l := l) (Ne.symm q4)
  have e6 := upd_other (l := l) (Ne.symm q5)
  have f2 := L3.putv_other s y (Ne.symm r1)
  have f3 := L3.putv_other s y (Ne.symm r2)
  have f4 := L3.putv_other s y (Ne.symm r3)
  refine ⟨bel_of h.below hB, ?_, ?_, ?_, ?_, ?_, ?_, ?_⟩
  · rw [L3.putv_same]; exact fun _ => hv
  · rw [e2, n2]; exact fun q => by simp at q
  · rw [e3, f3]; intro q; obtain ⟨g, zs, h1, h2, h3, h4⟩ := h.a q; exact ⟨g, zs, h1, h2, heap_below h3 hB, h4⟩
  · rw [e4, f4]; intro q; obtain ⟨g, zs, h1, h2, h3, h4⟩ := h.b q; exact ⟨g, zs, h1, h2, heap_below h3 hB, h4⟩
  · rw [e3, e4, f3, f4]; exact h.ne
  · rw [e5, na]; exact fun q => by simp at q
  · rw [e6, f4, f2]; intro q; obtain ⟨g, zs, h1, h2, h3⟩ := h.fb q; exact ⟨g, zs, h1, heap_below h2 hB, h3⟩
/-- The second one. -/
theorem TB.call2 (h : TB x T n P1 P2 wa l s W) (s1 : St1 T P1) (ok : x.ok) (nb : l x.sb = false) (hB : Below W.heap.size W W') (hv : P2 (s x.t1) y W') : TB x T n P1 P2 wa (upd l x.j2) (L3.putv s (some x.t2) y) W' := by
  obtain ⟨ok1, ok2⟩ := ok
  simp only [List.nodup_cons, List.mem_cons, List.not_mem_nil, or_false, not_or, List.nodup_nil, not_false_eq_true, and_true] at ok1 ok2
  obtain ⟨⟨q1, _⟩, ⟨q2, q3, q4, q5⟩, _⟩ := ok1
  obtain ⟨⟨r1, _⟩, ⟨r2, r3⟩, _⟩ := ok2
  have e1 := upd_other (l := l) q1
  have e3 := upd_other (l := l) (Ne.symm q2)
  have e4 := upd_other (l := l) (Ne.symm q3)
  have e5 := upd_other (l := l) (Ne.symm q4)
  have e6 := upd_other (l := l) (Ne.symm q5)
  have f1 := L3.putv_other s y r1
  have f3 := L3.putv_other s y (Ne.symm r2)
  have f4 := L3.putv_other s y (Ne.symm r3)
  refine ⟨bel_of h.below hB, ?_, ?_, ?_, ?_, ?_, ?_, ?_⟩
  · rw [e1, f1]; exact fun q => s1 _ _ _ (Keeps.below hB) hB.size (h.c1 q)
  · rw [L3.putv_same, f1]; exact fun _ => hv
  · rw [e3, f3]; intro q; obtain ⟨g, zs, h1, h2, h3, h4⟩ := h.a q; exact ⟨g, zs, h1, h2, heap_below h3 hB, h4⟩
  · rw [e4, f4]; intro q; obtain ⟨g, zs, h1, h2, h3, h4⟩ := h.b q; exact ⟨g, zs, h1, h2, heap_below h3 hB, h4⟩
  · rw [e3, e4, f3, f4]; exact h.ne
  · rw [e5, f3, f1]; intro q; obtain ⟨g, zs, h1, h2, h3⟩ := h.fa q; exact ⟨g, zs, h1, heap_below h2 hB, h3⟩
  · rw [e6, nb]; exact fun q => by simp at q
/-- The first box. -/
theorem TB.alloc_a (h : TB x T n P1 P2 wa l s W) (s1 : St1 T P1) (s2 : St2 T P2) (ok : x.ok) (na : l x.sa = false) (Z : Array Value) (hz : Z.size = n) : TB x T n P1 P2 wa (upd l x.ja) (L3.putv s (some x.ta) (.pointer (some ⟨W.heap.size, 0, none⟩))) (W.alloc (.cells Z T)) := by
  obtain ⟨ok1, ok2⟩ := ok
  simp only [List.nodup_cons, List.mem_cons, List.not_mem_nil, or_false, not_or, List.nodup_nil, not_false_eq_true, and_true] at ok1 ok2
  obtain ⟨⟨_, q1, _⟩, ⟨q2, _⟩, ⟨q3, q4, q5⟩, _⟩ := ok1
  obtain ⟨⟨_, r1, _⟩, ⟨r2, _⟩, r3⟩ := ok2
  have hB := bel1' W (.cells Z T)
  have e1 := upd_other (l := l) q1
  have e2 := upd_other (l := l) q2
  have e4 := upd_other (l := l) (Ne.symm q3)
  have e5 := upd_other (l := l) (Ne.symm q4)
  have e6 := upd_other (l := l) (Ne.symm q5)
  have f1 := L3.putv_other s (.pointer (some ⟨W.heap.size, 0, none⟩)) r1
  have f2 := L3.putv_other s (.pointer (some ⟨W.heap.size, 0, none⟩)) r2
  have f4 := L3.putv_other s (.pointer (some ⟨W.heap.size, 0, none⟩)) (Ne.symm r3)
  refine ⟨bel_of h.below hB, ?_, ?_, ?_, ?_, ?_, ?_, ?_⟩
  · rw [e1, f1]; exact fun q => s1 _ _ _ (Keeps.below hB) hB.size (h.c1 q)
  · rw [e2, f1, f2]; exact fun q => s2 _ _ _ _ (Keeps.below hB) hB.size (h.c2 q)
  · rw [L3.putv_same]; exact fun _ => ⟨_, Z, rfl, h.below.size, heap_alloc_new W _, hz⟩
  · rw [e4, f4]; intro q; obtain ⟨g, zs, h1, h2, h3, h4⟩ := h.b q; exact ⟨g, zs, h1, h2, heap_below h3 hB, h4⟩
  · rw [e4, f4, L3.putv_same]
    intro _ q e
    obtain ⟨g, zs, h1, h2, h3, h4⟩ := h.b q
    have := (Array.getElem?_eq_some_iff.1 h3).1
    rw [h1] at e
    simp at e
  · rw [e5, na]; exact fun q => by simp at q
  · rw [e6, f4, f2]; intro q; obtain ⟨g, zs, h1, h2, h3⟩ := h.fb q; exact ⟨g, zs, h1, heap_below h2 hB, h3⟩
/-- The second box. -/
theorem TB.alloc_b (h : TB x T n P1 P2 wa l s W) (s1 : St1 T P1) (s2 : St2 T P2) (ok : x.ok) (nb : l x.sb = false) (Z : Array Value) (hz : Z.size = n) : TB x T n P1 P2 wa (upd l x.jb) (L3.putv s (some x.tb) (.pointer (some ⟨W.heap.size, 0, none⟩))) (W.alloc (.cells Z T)) := by
  obtain ⟨ok1, ok2⟩ := ok
  simp only [List.nodup_cons, List.mem_cons, List.not_mem_nil, or_false, not_or, List.nodup_nil, not_false_eq_true, and_true] at ok1 ok2
  obtain ⟨⟨_, _, q1, _⟩, ⟨_, q2, _⟩, ⟨q3, _⟩, ⟨q4, q5⟩, _⟩ := ok1
  obtain ⟨⟨_, _, r1⟩, ⟨_, r2⟩, r3⟩ := ok2
  have hB := bel1' W (.cells Z T)
  have e1 := upd_other (l := l) q1
  have e2 := upd_other (l := l) q2
  have e3 := upd_other (l := l) q3
  have e5 := upd_other (l := l) (Ne.symm q4)
  have e6 := upd_other (l := l) (Ne.symm q5)
  have f1 := L3.putv_other s (.pointer (some ⟨W.heap.size, 0, none⟩)) r1
  have f2 := L3.putv_other s (.pointer (some ⟨W.heap.size, 0, none⟩)) r2
  have f3 := L3.putv_other s (.pointer (some ⟨W.heap.size, 0, none⟩)) r3
  refine ⟨bel_of h.below hB, ?_, ?_, ?_, ?_, ?_, ?_, ?_⟩
  · rw [e1, f1]; exact fun q => s1 _ _ _ (Keeps.below hB) hB.size (h.c1 q)
  · rw [e2, f1, f2]; exact fun q => s2 _ _ _ _ (Keeps.below hB) hB.size (h.c2 q)
  · rw [e3, f3]; intro q; obtain ⟨g, zs, h1, h2, h3, h4⟩ := h.a q; exact ⟨g, zs, h1, h2, heap_below h3 hB, h4⟩
  · rw [L3.putv_same]; exact fun _ => ⟨_, Z, rfl, h.below.size, heap_alloc_new W _, hz⟩
  · rw [e3, f3, L3.putv_same]
    intro q _ e
    obtain ⟨g, zs, h1, h2, h3, h4⟩ := h.a q
    have := (Array.getElem?_eq_some_iff.1 h3).1
    rw [h1] at e
    simp at e
  · rw [e5, f3, f1]; intro q; obtain ⟨g, zs, h1, h2, h3⟩ := h.fa q; exact ⟨g, zs, h1, heap_below h2 hB, h3⟩
  · rw [e6, nb]; exact fun q => by simp at q
theorem other_row {g k : Nat} {cs zs : Array Value} {t : TypeId} (h : W.heap[k]? = some (Obj.cells zs t (0, 0))) (hne : k ≠ g) : (W.setRow g cs).heap[k]? = some (Obj.cells zs t (0, 0)) := by rw [setRow_other W g k cs hne]; exact h
/-- The first box is filled. -/
theorem TB.store_a (h : TB x T n P1 P2 wa l s W) (s1 : St1 T P1) (s2 : St2 T P2) (ok : x.ok) (la : l x.ja = true) (nb : l x.sb = false) (hlb : l x.jb = true) {g : Nat} (hs : s x.ta = .pointer (some ⟨g, 0, none⟩)) {cs : Array Value} (hc : s x.t1 = .agg cs) (hn : cs.size = n) : TB x T n P1 P2 wa (upd l x.sa) s (W.setRow g cs) := by
  obtain ⟨ok1, ok2⟩ := ok
  simp only [List.nodup_cons, List.mem_cons, List.not_mem_nil, or_false, not_or, List.nodup_nil, not_false_eq_true, and_true] at ok1
  obtain ⟨⟨_, _, _, q1, _⟩, ⟨_, _, q2, _⟩, ⟨_, q3, _⟩, ⟨q4, _⟩, q5⟩ := ok1
  obtain ⟨g', zs, h1, h2, h3, h4⟩ := h.a la
  obtain rfl : g' = g := by rw [hs] at h1; simp at h1; exact h1.symm
  have hk : Keeps (fun t => t != T) W (W.setRow g' cs) := keeps_setRow h3 (by simp)
  have hz : W.heap.size ≤ (W.setRow g' cs).heap.size := by simp [World.setRow]
  obtain ⟨gb, zb, k1, k2, k3, k4⟩ := h.b hlb
  have hne : gb ≠ g' := by
    intro e
    subst e
    exact h.ne la hlb (hs.trans k1.symm)
  have e1 := upd_other (l := l) q1
  have e2 := upd_other (l := l) q2
  have e3 := upd_other (l := l) q3
  have e4 := upd_other (l := l) q4
  have e6 := upd_other (l := l) (Ne.symm q5)
  refine ⟨below_setRow h.below h2 cs, ?_, ?_, ?_, ?_, ?_, ?_, ?_⟩
  · rw [e1]; exact fun q => s1 _ _ _ hk hz (h.c1 q)
  · rw [e2]; exact fun q => s2 _ _ _ _ hk hz (h.c2 q)
  · rw [e3]; exact fun _ => ⟨g', cs, hs, h2, setRow_heap W g' _ _ _ _ h3, hn⟩
  · rw [e4]; exact fun _ => ⟨gb, zb, k1, k2, other_row k3 hne, k4⟩
  · rw [e3, e4]; exact h.ne
  · exact fun _ => ⟨g', cs, hs, setRow_heap W g' _ _ _ _ h3, hc⟩
  · rw [e6, nb]; exact fun q => by simp at q
/-- The second one. -/
theorem TB.store_b (h : TB x T n P1 P2 wa l s W) (s1 : St1 T P1) (s2 : St2 T P2) (ok : x.ok) (lb : l x.jb = true) (la : l x.ja = true) {g : Nat} (hs : s x.tb = .pointer (some ⟨g, 0, none⟩)) {cs : Array Value} (hc : s x.t2 = .agg cs) (hn : cs.size = n) : TB x T n P1 P2 wa (upd l x.sb) s (W.setRow g cs) := by
  obtain ⟨ok1, ok2⟩ := ok
  simp only [List.nodup_cons, List.mem_cons, List.not_mem_nil, or_false, not_or, List.nodup_nil, not_false_eq_true, and_true] at ok1
  obtain ⟨⟨_, _, _, _, q1⟩, ⟨_, _, _, q2⟩, ⟨_, _, q3⟩, ⟨_, q4⟩, q5⟩ := ok1
  obtain ⟨g', zs, h1, h2, h3, h4⟩ := h.b lb
  obtain rfl : g' = g := by rw [hs] at h1; simp at h1; exact h1.symm
  have hk : Keeps (fun t => t != T) W (W.setRow g' cs) := keeps_setRow h3 (by simp)
  have hz : W.heap.size ≤ (W.setRow g' cs).heap.size := by simp [World.setRow]
  obtain ⟨ga, za, k1, k2, k3, k4⟩ := h.a la
  have hne : ga ≠ g' := by
    intro e
    subst e
    exact h.ne la lb (k1.trans hs.symm)
  have e1 := upd_other (l := l) q1
  have e2 := upd_other (l := l) q2
  have e3 := upd_other (l := l) q3
  have e4 := upd_other (l := l) q4
  have e5 := upd_other (l := l) q5
  refine ⟨below_setRow h.below h2 cs, ?_, ?_, ?_, ?_, ?_, ?_, ?_⟩
  · rw [e1]; exact fun q => s1 _ _ _ hk hz (h.c1 q)
  · rw [e2]; exact fun q => s2 _ _ _ _ hk hz (h.c2 q)
  · rw [e3]; exact fun _ => ⟨ga, za, k1, k2, other_row k3 hne, k4⟩
  · rw [e4]; exact fun _ => ⟨g', cs, hs, h2, setRow_heap W g' _ _ _ _ h3, hn⟩
  · rw [e3, e4]; exact h.ne
  · rw [e5]
    intro q
    obtain ⟨gf, zf, m1, m2, m3⟩ := h.fa q
    obtain rfl : gf = ga := by rw [k1] at m1; simp at m1; exact m1.symm
    exact ⟨gf, zf, m1, other_row m2 hne, m3⟩
  · exact fun _ => ⟨g', cs, hs, setRow_heap W g' _ _ _ _ h3, hc⟩
end
end Go.Proofs.Ytgckpmaajmlijaa
