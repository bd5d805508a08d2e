/- A set that lies amid a row; Join into it; rows of sets. -/
import Derived.Test.YtblcbccchlljhaaJo
namespace Go.Proofs.Ytblcbccchlljhaa.Bg
open Go.RowKit Bag
/-- From off on in block b lie 64 cells that tell the numbers that f has, and may be written. -/
def SetO (w : World) (b off : Nat) (f : Nat → Bool) : Prop := ∀ i, i < 64 → ∃ x : Nat, w.cell? ⟨b, off + i, none⟩ = some (.int .u64 x) ∧ w.frozen? ⟨b, off + i, none⟩ = false ∧ Word f i x
/-- The cells of block b but those 64 are as they were. -/
def OnlyO (w w' : World) (b off : Nat) : Prop := ∀ j, (j < off ∨ off + 64 ≤ j) → w'.cell? ⟨b, j, none⟩ = w.cell? ⟨b, j, none⟩ ∧ w'.frozen? ⟨b, j, none⟩ = w.frozen? ⟨b, j, none⟩
section
variable {w w' w1 : World} {b off : Nat} {f g : Nat → Bool} {r : Option Nat}
theorem cell_eq (h : w'.heap[b]? = w.heap[b]?) (j : Nat) : w'.cell? ⟨b, j, none⟩ = w.cell? ⟨b, j, none⟩ ∧ w'.frozen? ⟨b, j, none⟩ = w.frozen? ⟨b, j, none⟩ := by
  simp only [World.cell?, World.frozen?, h, and_self]
theorem SetO.lt (h : SetO w b off f) : b < w.heap.size := by
  obtain ⟨x, hx, _⟩ := h 0 (by omega)
  exact World.block_lt_of_cell? w _ hx
theorem SetO.eq (h : SetO w b off f) (he : w'.heap[b]? = w.heap[b]?) : SetO w' b off f := fun i hi => by
  obtain ⟨x, h1, h2, h3⟩ := h i hi
  obtain ⟨e1, e2⟩ := cell_eq he (off + i)
  exact ⟨x, e1.trans h1, e2.trans h2, h3⟩
theorem SetO.kept (h : SetO w b off f) (hg : w.grownBy w' r) (hne : some b ≠ r) : SetO w' b off f := h.eq (hg.block b h.lt hne)
theorem SetO.below (h : SetO w b off f) (hB : Below w.heap.size w w') : SetO w' b off f := h.eq (hB.block b h.lt)
theorem SetO.congr (h : SetO w b off f) (e : ∀ x, x < 4096 → f x = g x) : SetO w b off g := fun i hi => by
  obtain ⟨x, h1, h2, h3⟩ := h i hi
  exact ⟨x, h1, h2, word_congr h3 fun j hj => e _ (by omega)⟩
theorem SetO.drew (h : SetO w b off f) : SetO w.drew b off f := h
theorem SetAt.o (h : SetAt w b f) : SetO w b 0 f := fun i hi => by
  obtain ⟨x, h1, h2, h3⟩ := h.cell i hi
  exact ⟨x, by rw [Nat.zero_add]; exact h1, by rw [Nat.zero_add]; exact h2, h3⟩
/-- Of a row the cells from off on. -/
theorem SetO.of_row {cs : Array Value} {t : TypeId} (hr : w.heap[b]? = some (.cells cs t (0, 0))) (h : ∀ i, i < 64 → ∃ x : Nat, cs[off + i]? = some (.int .u64 x) ∧ Word f i x) : SetO w b off f := fun i hi => by
  obtain ⟨x, h1, h2⟩ := h i hi
  exact ⟨x, by rw [cell_of_row w b _ cs t _ hr, h1], by simp [World.frozen?, hr], h2⟩
/-- As a value. -/
theorem SetO.load (h : SetO w b off f) : ∃ fs : Array Value, SetC fs f ∧ w.rangeAt b off fs.toList := by
  refine ⟨((List.range 64).map fun i => (w.cell? ⟨b, off + i, none⟩).getD undef).toArray, ⟨by simp, fun i hi => ?_⟩, fun j v hv => ?_⟩
  · obtain ⟨x, h1, _, h3⟩ := h i hi
    exact ⟨x, by simp [hi, h1], h3⟩
  · have hj : j < 64 := by simpa using (List.getElem?_eq_some_iff.1 hv).1
    obtain ⟨x, h1, _, _⟩ := h j hj
    simp [hj, h1] at hv
    rw [h1, hv]
theorem SetO.there (h : SetO w b off f) : w.there b off 64 := fun j hj => by
  obtain ⟨x, h1, h2, _⟩ := h j hj
  exact ⟨by rw [h1]; rfl, h2⟩
/-- One word is written. -/
theorem SetO.set (h : SetO w b off f) (i : Nat) (hi : i < 64) (y : Nat) (hy : Word g i y) (he : ∀ j, j < 64 → j ≠ i → ∀ k, k < 64 → f (64 * j + k) = g (64 * j + k)) : SetO (w.setCell ⟨b, off + i, none⟩ (.int .u64 y)) b off g := fun j hj => by
  by_cases e : j = i
  · subst e
    obtain ⟨x, h1, h2, _⟩ := h j hj
    exact ⟨y, World.cell?_setCell_same (w := w) (a := ⟨b, off + j, none⟩) (v := .int .u64 y) h1, by rw [World.frozen?_setCell]; exact h2, hy⟩
  · obtain ⟨x, h1, h2, h3⟩ := h j hj
    refine ⟨x, ?_, by rw [World.frozen?_setCell]; exact h2, word_congr h3 fun k hk => he j hj e k hk⟩
    rw [World.cell?_setCell_other (w := w) (a := ⟨b, off + i, none⟩) (b := ⟨b, off + j, none⟩) (v := .int .u64 y) (by
      intro e2
      simp only [Addr.mk.injEq] at e2
      omega)]
    exact h1
/-- The whole set is written. -/
theorem SetO.setAll (ht : w.there b off 64) {cs : Array Value} (hc : SetC cs f) : SetO (w.setCells b off cs.toList) b off f := fun i hi => by
  obtain ⟨x, hx, hw⟩ := hc.2 i hi
  have hl : cs.toList.length = 64 := by rw [Array.length_toList]; exact hc.1
  refine ⟨x, ?_, by rw [World.frozen?_setCells]; exact (ht i hi).2, hw⟩
  exact World.rangeAt_setCells_same w b off cs.toList (by rw [hl]; exact ht) i _ (by simpa using hx)
theorem OnlyO.refl (w : World) (b off : Nat) : OnlyO w w b off := fun _ _ => ⟨rfl, rfl⟩
theorem OnlyO.trans (h1 : OnlyO w w1 b off) (h2 : OnlyO w1 w' b off) : OnlyO w w' b off := fun j hj => ⟨((h2 j hj).1).trans (h1 j hj).1, ((h2 j hj).2).trans (h1 j hj).2⟩
theorem OnlyO.eq (he : w'.heap[b]? = w.heap[b]?) : OnlyO w w' b off := fun j _ => cell_eq he j
theorem OnlyO.set (i : Nat) (hi : i < 64) (y : Value) : OnlyO w (w.setCell ⟨b, off + i, none⟩ y) b off := fun j hj => by
  refine ⟨World.cell?_setCell_other (w := w) (a := ⟨b, off + i, none⟩) (b := ⟨b, j, none⟩) (v := y) ?_, World.frozen?_setCell ..⟩
  intro e2
  simp only [Addr.mk.injEq] at e2
  omega
theorem OnlyO.setAll (vs : List Value) (hl : vs.length = 64) : OnlyO w (w.setCells b off vs) b off := fun j hj => by
  refine ⟨World.cell?_setCells_out b vs off w ⟨b, j, none⟩ (fun _ _ => ?_), World.frozen?_setCells ..⟩
  show j < off ∨ off + vs.length ≤ j
  omega
theorem OnlyO.drew (h : OnlyO w w' b off) : OnlyO w w'.drew b off := h
end

/-! ### Rows of sets -/
/-- In block b lie n sets, one behind the other. -/
def SetsAt (w : World) (b n : Nat) (fs : Nat → Nat → Bool) : Prop := ∀ j, j < n → SetO w b (j * 64) (fs j)
section
variable {w w' : World} {b n : Nat} {fs : Nat → Nat → Bool} {r : Option Nat}
theorem SetsAt.kept (h : SetsAt w b n fs) (hg : w.grownBy w' r) (hne : some b ≠ r) : SetsAt w' b n fs := fun j hj => (h j hj).kept hg hne
theorem SetsAt.below (h : SetsAt w b n fs) (hB : Below w.heap.size w w') : SetsAt w' b n fs := fun j hj => (h j hj).below hB
theorem SetsAt.drew (h : SetsAt w b n fs) : SetsAt w.drew b n fs := h
theorem SetsAt.congr {gs : Nat → Nat → Bool} (h : SetsAt w b n fs) (e : ∀ j, j < n → ∀ x, x < 4096 → fs j x = gs j x) : SetsAt w b n gs := fun j hj => (h j hj).congr (e j hj)
/-- One of them turns. -/
theorem SetsAt.upd (h : SetsAt w b n fs) {i : Nat} {g : Nat → Bool} (ho : OnlyO w w' b (i * 64)) (hs : SetO w' b (i * 64) g) : SetsAt w' b n (fun x => if x = i then g else fs x) := fun j hj => by
  by_cases e : j = i
  · subst e
    show SetO w' b (j * 64) (if j = j then g else fs j)
    rw [if_pos rfl]
    exact hs
  · show SetO w' b (j * 64) (if j = i then g else fs j)
    rw [if_neg e]
    intro k hk
    obtain ⟨x, h1, h2, h3⟩ := h j hj k hk
    obtain ⟨e1, e2⟩ := ho (j * 64 + k) (by omega)
    exact ⟨x, e1.trans h1, e2.trans h2, h3⟩
/-- A list of cells that tells n sets. -/
def SetsL (xs : List Value) (n : Nat) (fs : Nat → Nat → Bool) : Prop := xs.length = n * 64 ∧ ∀ j, j < n → ∀ i, i < 64 → ∃ x : Nat, xs[j * 64 + i]? = some (.int .u64 x) ∧ Word (fs j) i x
theorem SetsL.nil (fs : Nat → Nat → Bool) : SetsL [] 0 fs := ⟨rfl, fun j hj => by omega⟩
theorem SetsL.snoc {xs : List Value} (h : SetsL xs n fs) {cs : Array Value} (hc : SetC cs (fs n)) : SetsL (xs ++ cs.toList) (n + 1) fs := by
  refine ⟨by rw [List.length_append, h.1, Array.length_toList, hc.1]; omega, fun j hj i hi => ?_⟩
  by_cases e : j < n
  · obtain ⟨x, hx, hw⟩ := h.2 j e i hi
    exact ⟨x, by rw [List.getElem?_append_left (by rw [h.1]; omega)]; exact hx, hw⟩
  · obtain rfl : j = n := by omega
    obtain ⟨x, hx, hw⟩ := hc.2 i hi
    refine ⟨x, ?_, hw⟩
    rw [List.getElem?_append_right (by rw [h.1]; omega), h.1, Nat.add_sub_cancel_left]
    simpa using hx
theorem SetsL.at {xs : List Value} {g cap : Nat} {B : Nat} (h : SetsL xs n fs) (ho : w.ownsRow B 40 64 (.slice (some ⟨g, 0, none⟩) n cap) n xs) : SetsAt w g n fs := fun j hj i hi => by
  obtain ⟨x, hx, hw⟩ := h.2 j hj i hi
  exact ⟨x, by rw [ho.cellAt (j * 64 + i) (by omega), hx], ho.frozenAt _, hw⟩
/-- A row of zero sets. -/
theorem SetsAt.zero {cs : Array Value} {t : TypeId} (hr : w.heap[b]? = some (.cells cs t (0, 0))) (hc : ∀ k, k < n * 64 → cs[k]? = some (.int .u64 0)) : SetsAt w b n (fun _ _ => false) := fun j hj => SetO.of_row hr fun i hi => ⟨0, hc _ (by omega), word_zero i⟩
end

/-! ### Join -/
/-- A set amid a row is loaded. -/
theorem ex_load_o {ρ : Operand → Value} {o : Oper} {w : World} {x : Operand} {b off : Nat} {cs : Array Value} (ho : o.op = .load 40 x) (hx : ρ x = .pointer (some ⟨b, off, none⟩)) (hc : w.rangeAt b off cs.toList) (hs : cs.size = 64) : (execOp ρ o).run Try.prog w = .ok (.value (.agg cs)) w := by
  unfold execOp
  have hr := run_loadVar_mid (P := Try.prog) w b off 40 cs.toList _ hc Try.underlying40 rfl (by rw [Array.length_toList, hs]; exact info27)
  rw [Array.toArray_toList] at hr
  simp only [ho, hx, Instr.loadAt, Instr.sureAddr, Sem.run_bind, Sem.run_pure, Result.andThen_ok, hr]
theorem wpList_load_o {ops : Array Oper} {rest : List Oper} {o : Oper} {a : Act} {w : World} {Q : Exit → Act → World → Prop} (hw : Region.wanted o (yielded ops a.tmps) = true) (x : Operand) (ho : o.op = .load 40 x) (b off : Nat) (hx : a.eval x = .pointer (some ⟨b, off, none⟩)) (cs : Array Value) (hc : w.rangeAt b off cs.toList) (hs : cs.size = 64)
    (hK : wpList Try.prog ops Q rest (a.put o.dst (.agg cs)) w) : wpList Try.prog ops Q (o :: rest) a w := by
  refine wpList_step fun K hK' => ?_
  rw [if_pos hw]
  unfold Oper.wp
  rw [ex_load_o ho hx hc hs]
  exact hK' _ _ hK
set_option maxHeartbeats 4000000 in
set_option maxRecDepth 100000 in
theorem jn7_off {Q : Exit → Act → World → Prop} {a0 : Act} {wa : World} (b off c : Nat) (cs ds : Array Value) (rr : Bool) (hz : a0.tmps.size = 34) (b0 : a0.eval (.tmp 0) = .pointer (some ⟨b, off, none⟩)) (b5 : a0.eval (.tmp 5) = .pointer (some ⟨c, 0, none⟩)) (t2 : TypeId) (hb : wa.drew.rangeAt b off cs.toList) (hc : wa.drew.heap[c]? = some (.cells ds t2 (0, 0))) (hi1 : cs.size = 64) (hi2 : (Try.prog.info? 40).map (·.size) = some ds.size) (heq : ∀ W : World, (Op.equalIn 10000 40 (.agg cs) (.agg ds)).run Try.prog W = .ok (!rr) W)
    (hend : ∀ s : Tmp → Value, s 4 = .bool rr → Q .normal (overlay a0 (dstsOf ops_jn7_ok) s) wa.drew) : (Code.region 7 ops_jn7_ok true).wp Try.prog Q a0 wa := by
  refine L.wp_region_eachL (by kernel_rfl) (fun _ t v _ => (match t with | 29 => v = .pointer (some ⟨b, off, none⟩) | 30 => v = .pointer (some ⟨b, off, none⟩) | 31 => v = .agg cs | 32 => v = .agg ds | 33 => v = .bool rr | 4 => v = .bool rr | _ => True)) (fun l W => W = wa.drew) (by rw [hz]; kernel_rfl) (rfl) ?_ ?_
  · refine And.intro ?_ (And.intro ?_ (And.intro ?_ (And.intro ?_ (And.intro ?_ (And.intro ?_ trivial)))))
    · refine ask_v rfl rfl (fun l a W H => ⟨_, W, ?_, rfl, H.s⟩)
      have e0 : a.eval (.tmp 0) = .pointer (some ⟨b, off, none⟩) := (H.base 0 rfl).trans b0
      exact ex_move rfl e0
    · refine ask_v rfl rfl (fun l a W H => ⟨_, W, ?_, rfl, H.s⟩)
      have e29 : a.eval (.tmp 29) = .pointer (some ⟨b, off, none⟩) := H.facts 29 rfl
      (simp only [execOp]; try simp only [Option.map]); (try simp only [List.map_toArray, List.map_cons, List.map_nil]); (simp only [e29]; go_simp)
    · refine ask_v rfl rfl (fun l a W H => ⟨_, W, ?_, rfl, H.s⟩)
      have e30 : a.eval (.tmp 30) = .pointer (some ⟨b, off, none⟩) := H.facts 30 rfl
      exact ex_load_o rfl e30 (by rw [show W = _ from H.s]; exact hb) hi1
    · refine ask_v rfl rfl (fun l a W H => ⟨_, W, ?_, rfl, H.s⟩)
      have e5 : a.eval (.tmp 5) = .pointer (some ⟨c, 0, none⟩) := (H.base 5 rfl).trans b5
      exact ex_load rfl e5 (by rw [show W = _ from H.s]; exact hc) Try.underlying40 rfl hi2
    · refine ask_v rfl rfl (fun l a W H => ⟨_, W, ?_, rfl, H.s⟩)
      have e31 : a.eval (.tmp 31) = .agg cs := H.facts 31 rfl
      have e32 : a.eval (.tmp 32) = .agg ds := H.facts 32 rfl
      exact ex_neq27 rfl e31 e32 (heq W)
    · refine ask_v rfl rfl (fun l a W H => ⟨_, W, ?_, rfl, H.s⟩)
      have e33 : a.eval (.tmp 33) = .bool rr := H.facts 33 rfl
      exact ex_assign rfl e33
  · intro l s W hall hS hs
    have hS : W = wa.drew := hS
    subst hS
    exact hend s (hs 4 rfl)
set_option maxHeartbeats 4000000 in
set_option maxRecDepth 100000 in
theorem join_off (b off : Nat) (v : Value) (f g : Nat → Bool) (w : World) (h : SetO w b off f) (k : SetV v g) : Calls Try.prog 13 #[.pointer (some ⟨b, off, none⟩), v] w fun e w' => e = .returned (.bool (!same f (fun y => f y || g y) 4096)) ∧ SetO w' b off (fun y => f y || g y) ∧ w.grownBy w' (some b) ∧ OnlyO w w' b off := by
  obtain ⟨cs, rfl, ks⟩ := k
  have hb := h.lt
  obtain ⟨fs, hfs, hf0⟩ := h.load
  have HF0 := hide hf0
  have H0 := hide h
  clear hf0 h
  go_enter Try.func13, Try.ntmps13
  go_wp2_with (first | (refine wpList_box' rfl 40 (.tmp 1) rfl cs rfl ?_; intro o w1 h1; have HF1 : Hid (w1.rangeAt b off fs.toList) := hide (fun j v hv => ((cell_eq (h1.out.2.2.block b (by rw [h1.out.1]; exact hb)) _).1).trans (HF0.out j v hv))) | (refine wpList_load_o (by simp [Region.wanted]) (.tmp 9) rfl b off rfl fs HF1.out hfs.1 ?_) | (refine wpList_var 40 5 rfl rfl rfl rfl (.tmp 10) rfl rfl z64 fs z27 (by simp [Act.put]) rfl (by rw [hfs.1]; exact info27) (by rw [hfs.1]; rfl) hfs.cells ?_; intro c w2 h2) | (refine wpList_load_row rfl 38 (.tmp 11) rfl o rfl 40 cs _ ((h2.out.2.2.block o (by have := (Array.getElem?_eq_some_iff.1 h1.out.2.1).1; rw [h2.out.1]; exact this)).trans h1.out.2.1) Try.underlying38 rfl (by rw [ks.1]; exact info25) ?_))
  have G1 := hide ((gb_at h1.out).trans (gb_at h2.out))
  have H1 : Hid (SetO w2 b off f) := hide (H0.out.kept G1.out (by simp))
  have HO1 : Hid (OnlyO w w2 b off) := hide (OnlyO.eq (G1.out.block b hb (by simp)))
  have hbc : b ≠ c := by
    have := h1.out.2.2.size
    have := h2.out.1
    omega
  clear HF0 HF1 H0
  go_loopw [6, 7, 13] (fun _ _ iv wr => ∃ i : Nat, i ≤ 64 ∧ iv = .int .i64 i ∧ Hid (SetO wr b off (upto (64 * i) (fun y => f y || g y) f)) ∧ Hid (w2.grownBy wr (some b)) ∧ Hid (OnlyO w2 wr b off)) (fun _ _ iv _ => 64 - (intOf iv).toNat)
  case atStart => exact ⟨0, by omega, rfl, hide (H1.out.congr fun x _ => by simp [upto]), hide (gb_refl _ _), hide (OnlyO.refl _ _ _)⟩
  case round =>
    rename World => wq
    obtain ⟨i, hi, rfl, HS, HG, HO⟩ := hrel
    by_cases hlt : i < 64
    · obtain ⟨x, hx, hw⟩ := ks.2 i hlt
      have hix := run_index25 hx hlt
      have hlt' : (i : Int) < 64 := by omega
      obtain ⟨y, hc, hf, hy⟩ := HS.out i hlt
      have hy' : Word f i y := word_congr hy fun j hj => upto_no _ _ (by omega)
      have HW := hide hw
      have HY := hide hy'
      clear hx hw hy hy' hbc
      go_wp2_with fail
      go_region
      go_wp2
      go_roundw
      case rel =>
        refine ⟨i + 1, by omega, by go_num, hide ?_, hide (gb_drew' ((HG.out).trans (gb_set _ _ _ _))), hide (HO.out.trans (OnlyO.set i hlt _)).drew⟩
        rw [u64_or_nat _ _ HY.out.1 HW.out.1]
        refine (HS.out.set i hlt _ (word_congr (word_or HY.out HW.out) fun j hj => ?_) fun j hj hne k hk => ?_).drew
        · rw [upto_yes _ _ (by omega)]
        · exact upto_step (n := 64 * i) (m := 64 * (i + 1)) _ _ (x := 64 * j + k) (by omega)
      case measure => simp [intOf]; omega
    · obtain rfl : i = 64 := by omega
      have HE := hide (HS.out.congr fun x hx => upto_yes (fun y => f y || g y) f hx)
      obtain ⟨ds, hds, hd1⟩ := HE.out.load
      have HD1 := hide hd1
      clear hd1
      have hcw := hide ((HG.out.block c (Array.getElem?_eq_some_iff.1 h2.out.2.1).1 (by simpa using fun e => hbc e.symm)).trans h2.out.2.1)
      go_wp2_with fail
      refine jn7_off b off c ds fs (!same f (fun y => f y || g y) 4096) rfl rfl rfl 40 HD1.out hcw.out hds.1 (by rw [hfs.1]; exact info27) (fun W => ?_) (fun s hs => ?_)
      · rw [Bool.not_not, eq27 ds fs (fun y => f y || g y) f hds hfs W, same_comm]
      · simp [overlay, dstsOf, ops_jn7_ok, hs]
        go_wp2_with fail
        go_ret
        exact ⟨rfl, HE.out.drew, gb_drew' (gb_then G1.out HG.out), (HO1.out.trans HO.out).drew⟩
end Go.Proofs.Ytblcbccchlljhaa.Bg
