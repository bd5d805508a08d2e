/- FlowLeast: its problem; its rows' memory. -/
import Derived.Test.YtblcbccchlljhaaAh
import Derived.Test.YtblcbccchlljhaaAk
import Derived.Test.YtblcbccchlljhaaLw
namespace Go.Proofs.Ytblcbccchlljhaa
open Go.RowKit Ir Wy

abbrev lP (es : List En) : Fl.Prob Nat := Fl.least es.length (frmE false es)
set_option maxHeartbeats 1000000 in
set_option maxRecDepth 100000 in
theorem lst1 (b : Nat) (hb : b ≤ 1000) (w : World) : Calls Try.prog 21 #[.int .i64 (b : Int)] w fun e w' => ∃ u, e = .returned u ∧ I.FV u (if b = 0 then 0 else 99) ∧ Below w.heap.size w w' := by
  by_cases h : b = 0
  · subst h
    go_enter Try.func21, Try.ntmps21
    go_wp2_with fail
    go_ret
    exact ⟨_, rfl, rfl, Below.refl _ _⟩
  · have hd : ((b : Int) == 0) = false := by simpa using h
    rw [if_neg h]
    go_enter Try.func21, Try.ntmps21
    go_wp2_with fail
    go_ret
    exact ⟨_, rfl, rfl, Below.refl _ _⟩
set_option maxHeartbeats 1000000 in
set_option maxRecDepth 100000 in
theorem lst2 (g b f k : Nat) (w : World) (h : I.FO w g b f) : Calls Try.prog 22 #[.pointer (some ⟨g, b, none⟩), .int .i64 (k : Int)] w fun e w' => e = .returned (.bool (decide (min f k < f))) ∧ I.FO w' g b (min f k) ∧ w.grownBy w' (some g) ∧ I.Only w w' g b := by
  obtain ⟨h1, h2⟩ := h
  have hs := hide (World.cell?_setCell_same (w := w) (a := ⟨g, b, none⟩) (v := .int .i64 ((min f k : Nat) : Int)) h1)
  have H2 := hide h2
  by_cases hk : k < f
  · have hm : min f k = k := by omega
    rw [hm] at hs ⊢
    rw [decide_eq_true hk]
    go_enter Try.func22, Try.ntmps22
    go_wp2_with fail
    go_ret
    exact ⟨rfl, ⟨hs.out, by rw [World.frozen?_setCell]; exact H2.out⟩, Bg.gb_set _ _ _ _, only_set _ _ _ _⟩
  · have hm : min f k = f := by omega
    rw [hm] at hs ⊢
    rw [decide_eq_false (by omega)]
    go_enter Try.func22, Try.ntmps22
    go_wp2_with fail
    go_ret
    exact ⟨rfl, ⟨hs.out, by rw [World.frozen?_setCell]; exact H2.out⟩, Bg.gb_set _ _ _ _, only_set _ _ _ _⟩
set_option maxHeartbeats 1000000 in
set_option maxRecDepth 100000 in
theorem lst3 (a f : Nat) (hf : f ≤ 99) (w : World) : Calls Try.prog 23 #[.int .i64 (a : Int), .int .i64 (f : Int)] w fun e w' => ∃ u, e = .returned u ∧ I.FV u (min (f + 1) 99) ∧ Below w.heap.size w w' := by
  by_cases h : f + 1 ≤ 99
  · have hm : min (f + 1) 99 = f + 1 := by omega
    rw [hm]
    go_enter Try.func23, Try.ntmps23
    go_wp2_with fail
    go_ret
    exact ⟨_, rfl, by simp [I.FV], Below.refl _ _⟩
  · have hm : min (f + 1) 99 = 99 := by omega
    rw [hm]
    go_enter Try.func23, Try.ntmps23
    go_wp2_with fail
    go_ret
    exact ⟨_, rfl, by simp [I.FV], Below.refl _ _⟩
theorem lFns (w0 : World) (pb : Nat) (al : Option Addr) (cl : Nat) (es : List En) (hin : EndsIn es) (h7 : es.length ≤ 7) (hp : w0.heap[pb]? = some (.cells #[.slice al es.length cl] 26 (0, 0))) (hE : EndsV w0 (.slice al es.length cl) es) : I.FnsOk w0 (lP es) (fromV false pb) (fv 21) (fv 22) (fv 23) := by
  refine ⟨from_ok w0 false pb al cl es hin h7 hp hE, fun W _ b hb => callV_func Try.func21 rfl rfl (lst1 b (by have hb : b < es.length := hb; omega) W), fun fs hc a ha W _ v hv => ?_, fun fs hc b a hb ha hm W _ g v _ ho hv => ?_⟩
  · cases hv
    exact callV_func Try.func23 rfl rfl (lst3 a (fs a) (Fl.least_99 hc a) W)
  · cases hv
    exact callV_func Try.func22 rfl rfl (lst2 g b (fs b) ((lP es).pass a (fs a)) W ho)
theorem sum_le (k : Nat → Nat) (c : Nat) (h : ∀ b, k b ≤ c) : ∀ n, Fl.sum n k ≤ n * c
  | 0 => by simp [Fl.sum]
  | n + 1 => by
    rw [Fl.sum_succ, Nat.add_mul, Nat.one_mul]
    have := sum_le k c h n
    have := h n
    omega
theorem least_solve {W : World} {pb cl fb : Nat} {al : Option Addr} {es : List En} (hvF : fromV false pb = .func (.func fb) #[] #[.pointer (some ⟨pb, 0, none⟩)]) (hin : EndsIn es) (h0 : 0 < es.length) (h7 : es.length ≤ 7) (hp : W.heap[pb]? = some (.cells #[.slice al es.length cl] 26 (0, 0))) (hE : EndsV W (.slice al es.length cl) es) :
    Calls Try.prog 20 #[.agg #[.int .i64 (es.length : Int), .func (.func fb) #[] #[.pointer (some ⟨pb, 0, none⟩)], .func (.func 21) #[] #[], .func (.func 22) #[] #[], .func (.func 23) #[] #[]]] W fun e w' => ∃ g cap d, e = .returned (.slice (some ⟨g, 0, none⟩) es.length cap) ∧ W.heap.size ≤ g ∧ (lP es).Come d ∧ (lP es).Still d ∧ I.FactsAt w' g es.length d ∧ Below W.heap.size W w' := by
  rw [← hvF]
  refine I.solve_any W (lFns W pb al cl es hin h7 hp hE) (Fl.least_ok fun b hb => frmE_lt hin hb) h0 (show es.length ≤ 100 by omega) (fun b _ => Nat.le_trans (frmE_len (back := false) h7 b) (by decide)) ?_ rfl rfl rfl rfl
  show Fl.sum es.length (fun b => if b = 0 then 0 else 99) * (es.length + 1) + es.length ≤ 100000000
  have h1 := sum_le (fun b => if b = 0 then 0 else 99) 99 (fun b => by split <;> omega) es.length
  have h2 : Fl.sum es.length (fun b => if b = 0 then 0 else 99) ≤ 693 := Nat.le_trans h1 (by omega)
  have h3 : Fl.sum es.length (fun b => if b = 0 then 0 else 99) * (es.length + 1) ≤ 693 * 8 := Nat.mul_le_mul h2 (by omega)
  omega
/-! ### Rows that grow -/
/-- What was seen and what comes next: two rows of the call's own. -/
structure Sn (w0 w : World) (vs vn : Value) (S N : List Nat) : Prop where
  s : ArgsO w0.heap.size w vs (ci S)
  n : ArgsO w0.heap.size w vn (ci N)
  sn : ∀ k, vs.ownBlock = some k → vn.ownBlock ≠ some k
  bel : Below w0.heap.size w0 w
/-- Another row. -/
structure Rw (w0 w : World) (vs vn v : Value) (l : List Nat) : Prop where
  own : ArgsO w0.heap.size w v (ci l)
  rs : ∀ k, v.ownBlock = some k → vs.ownBlock ≠ some k
  rn : ∀ k, v.ownBlock = some k → vn.ownBlock ≠ some k
theorem Sn.below {w0 w w' : World} {vs vn : Value} {S N : List Nat} (h : Sn w0 w vs vn S N) (hB : Below w.heap.size w w') : Sn w0 w' vs vn S N := ⟨h.s.below hB, h.n.below hB, h.sn, bel_of h.bel hB⟩
theorem Rw.below {w0 w w' : World} {vs vn v : Value} {l : List Nat} (h : Rw w0 w vs vn v l) (hB : Below w.heap.size w w') : Rw w0 w' vs vn v l := ⟨h.own.below hB, h.rs, h.rn⟩
/-- One more was seen. -/
theorem Sn.snocS {w0 w w' : World} {vs vn v' : Value} {S N : List Nat} {x : Nat} (h : Sn w0 w vs vn S N) (hO : ArgsO w0.heap.size w' v' (ci S ++ [(x : Int)])) (hg : w.grownBy w' vs.ownBlock) (how : ∀ k, v'.ownBlock = some k → vs.ownBlock = some k ∨ w.heap.size ≤ k) :
    Sn w0 w' v' vn (S ++ [x]) N ∧ ∀ v l, Rw w0 w vs vn v l → Rw w0 w' v' vn v l := by
  refine ⟨⟨by simpa [ci] using hO, h.n.stays fun k hk => hg.block k (h.n.lt k hk).2 (fun e => h.sn k e.symm hk), fun k hk e => ?_, h.bel.grown hg h.bel.size (fun k e => (h.s.lt k e).1)⟩, fun v l hr => ⟨hr.own.stays fun k hk => hg.block k (hr.own.lt k hk).2 (fun e => hr.rs k hk e.symm), fun k hk e => ?_, hr.rn⟩⟩
  · rcases how k hk with q | q
    · exact h.sn k q e
    · have := (h.n.lt k e).2
      omega
  · rcases how k e with q | q
    · exact hr.rs k hk q
    · have := (hr.own.lt k hk).2
      omega
/-- One more comes next. -/
theorem Sn.snocN {w0 w w' : World} {vs vn v' : Value} {S N : List Nat} {x : Nat} (h : Sn w0 w vs vn S N) (hO : ArgsO w0.heap.size w' v' (ci N ++ [(x : Int)])) (hg : w.grownBy w' vn.ownBlock) (how : ∀ k, v'.ownBlock = some k → vn.ownBlock = some k ∨ w.heap.size ≤ k) :
    Sn w0 w' vs v' S (N ++ [x]) ∧ ∀ v l, Rw w0 w vs vn v l → Rw w0 w' vs v' v l := by
  refine ⟨⟨h.s.stays fun k hk => hg.block k (h.s.lt k hk).2 (fun e => h.sn k hk e.symm), by simpa [ci] using hO, fun k hk e => ?_, h.bel.grown hg h.bel.size (fun k e => (h.n.lt k e).1)⟩, fun v l hr => ⟨hr.own.stays fun k hk => hg.block k (hr.own.lt k hk).2 (fun e => hr.rn k hk e.symm), hr.rs, fun k hk e => ?_⟩⟩
  · rcases how k e with q | q
    · exact h.sn k hk q
    · have := (h.s.lt k hk).2
      omega
  · rcases how k e with q | q
    · exact hr.rn k hk q
    · have := (hr.own.lt k hk).2
      omega
/-- What comes next is the row. -/
theorem Sn.turn {w0 w : World} {vs vn : Value} {S N : List Nat} (h : Sn w0 w vs vn S N) : Sn w0 w vs (.slice none 0 0) S [] ∧ Rw w0 w vs (.slice none 0 0) vn N :=
  ⟨⟨h.s, ArgsO.nil _ _, fun k _ e => by simp [Value.ownBlock] at e, h.bel⟩, ⟨h.n, fun k hk e => h.sn k e hk, fun k _ e => by simp [Value.ownBlock] at e⟩⟩
/-- A new row. -/
theorem Sn.row {w0 w w' : World} {vs vn v : Value} {S N l : List Nat} (h : Sn w0 w vs vn S N) (hO : ArgsO w.heap.size w' v (ci l)) : Rw w0 w' vs vn v l :=
  ⟨hO.mono h.bel.size, fun k hk e => by have := (hO.lt k hk).1; have := (h.s.lt k e).2; omega, fun k hk e => by have := (hO.lt k hk).1; have := (h.n.lt k e).2; omega⟩
/-- The first row, the first one seen. -/
theorem Sn.first {w0 w : World} (hB : Below w0.heap.size w0 w) : Sn w0 ((w.alloc (.cells #[.int .i64 0] 3)).alloc (.cells #[.int .i64 0] 3)) (.slice (some ⟨w.heap.size + 1, 0, none⟩) 1 1) (.slice none 0 0) [0] [] ∧ Rw w0 ((w.alloc (.cells #[.int .i64 0] 3)).alloc (.cells #[.int .i64 0] 3)) (.slice (some ⟨w.heap.size + 1, 0, none⟩) 1 1) (.slice none 0 0) (.slice (some ⟨w.heap.size, 0, none⟩) 1 1) [0] := by
  have h1 := args_one w w0.heap.size hB.size 0
  have h2 := args_one (w.alloc (.cells #[.int .i64 0] 3)) w0.heap.size (Nat.le_trans hB.size (by simp)) 0
  rw [World.size_alloc] at h2
  refine ⟨⟨h2, ArgsO.nil _ _, fun k _ e => by simp [Value.ownBlock] at e, bel_of hB (bel2' w _ _)⟩, ⟨h1.below (bel1' _ _), fun k hk e => ?_, fun k _ e => by simp [Value.ownBlock] at e⟩⟩
  simp only [Value.ownBlock, Option.some.injEq] at hk e
  omega
theorem puts_len {n : Nat} {S L : List Nat} (h1 : S.Nodup) (h2 : ∀ x ∈ S, x < n) (h3 : ∀ x ∈ L, x < n) : (S ++ Fl.puts S L).length ≤ n := by
  obtain ⟨p1, p2⟩ := Fl.puts_mem S L
  refine Fl.nodup_len (List.nodup_append.2 ⟨h1, p1, fun a ha b hb e => ?_⟩) fun x hx => ?_
  · subst e
    exact ((p2 a).1 hb).2 ha
  · rcases List.mem_append.1 hx with h | h
    · exact h2 x h
    · exact h3 x ((p2 x).1 h).1
theorem in_row (u : Value) (xs : List Nat) (y : Nat) (w : World) (h : IntsV w u (ci xs)) (hl : xs.length ≤ 1000) :
    Calls Try.prog 18 #[u, .int .i64 (y : Int)] w fun e w' => e = .returned (.bool (decide (y ∈ xs))) ∧ w' = w := by
  refine (in_any u (ci xs) (y : Int) w h (by rw [List.length_map]; omega)).mono ?_
  rintro e w' ⟨rfl, rfl⟩
  refine ⟨?_, rfl⟩
  congr 2
  exact decide_eq_decide.2 (ci_mem xs y)
/-- From whom facts come, who follows. -/
theorem frm_nx (es : List En) (b a : Nat) (ha : a < es.length) : a ∈ frmE false es b ↔ b ∈ nxE es a := by
  show a ∈ ahd (nxE es) es.length b ↔ _
  rw [mem_ahd]
  exact ⟨fun h => h.2, fun h => ⟨ha, h⟩⟩
theorem frm_lt (es : List En) (b a : Nat) (h : a ∈ frmE false es b) : a < es.length := ((mem_ahd _ _ _ _).1 (show a ∈ ahd (nxE es) es.length b from h)).1
end Go.Proofs.Ytblcbccchlljhaa
