/- Less, Meet, Join. -/
import Derived.Test.YtblcbccchlljhaaSm
import Derived.Test.YtblcbccchlljhaaAny
import Derived.Test.YtblcbccchlljhaaBs
namespace Go.Proofs.Ytblcbccchlljhaa.Bg
open Go.RowKit Bag
/-- The numbers below n by h, the others by f. -/
def upto (n : Nat) (h f : Nat → Bool) : Nat → Bool := fun x => if x < n then h x else f x
theorem upto_yes {n : Nat} (h f : Nat → Bool) {x : Nat} (hx : x < n) : upto n h f x = h x := by simp [upto, hx]
theorem upto_no {n : Nat} (h f : Nat → Bool) {x : Nat} (hx : ¬ x < n) : upto n h f x = f x := by simp [upto, hx]
theorem upto_step {n m : Nat} (h f : Nat → Bool) {x : Nat} (hx : (x < n ↔ x < m)) : upto n h f x = upto m h f x := by simp [upto, hx]
end Go.Proofs.Ytblcbccchlljhaa.Bg
namespace Go.Proofs.Ytblcbccchlljhaa.Bg
open Go Go.RowKit
section
variable {P : Program} {md : Region.Mode} {ops : Array Oper} {a0 : Act} {Q : Exit → Act → World → Prop} {g : Tmp → Value → Prop} {S : (Nat → Bool) → World → Prop} {j : Nat} {o : Oper} {d : Tmp}
/-- Its guard comes out as b where what is known of it holds. -/
def Guard (md : Region.Mode) (ops : Array Oper) (g : Tmp → Value → Prop) (o : Oper) (c : Bool) : Prop :=
  match o.guard with
  | none => c = true
  | some (gi, b) => ∃ dg, (ops[gi]?).bind (·.dst) = some dg ∧ waits md ops o dg = true ∧ ∀ u, g dg u → u = .bool (if c then b else !b)
theorem guard_want {a : Act} (hg : Guard md ops g o true) (h5 : ∀ d, waits md ops o d = true → g d (a.eval (.tmp d))) : want ops o a := by
  unfold Guard at hg
  unfold want
  cases hgd : o.guard with
  | none => trivial
  | some p =>
    obtain ⟨gi, b⟩ := p
    rw [hgd] at hg
    obtain ⟨dg, e1, e2, e3⟩ := hg
    simp only [e1]
    simpa using e3 _ (h5 dg e2)
theorem guard_not {a : Act} (hg : Guard md ops g o false) (h5 : ∀ d, waits md ops o d = true → g d (a.eval (.tmp d))) : ¬ want ops o a := by
  unfold Guard at hg
  unfold want
  cases hgd : o.guard with
  | none => rw [hgd] at hg; simp at hg
  | some p =>
    obtain ⟨gi, b⟩ := p
    rw [hgd] at hg
    obtain ⟨dg, e1, e2, e3⟩ := hg
    simp only [e1]
    rw [e3 _ (h5 dg e2)]
    cases b <;> simp
theorem ask_v (hg : Guard md ops g o true) (hd : o.dst = some d)
    (h : ∀ l a w, L.Hand md ops a0 (fun _ t v _ => g t v) S j o l a w → ∃ v w', (execOp a.eval o).run P w = .ok (.value v) w' ∧ g d v ∧ S (upd l j) w') : L.Asked P md ops a0 Q (fun _ t v _ => g t v) S j o := by
  intro l a w h1 h2 hcl h3 h4 h5
  refine ⟨fun _ K hK => ?_, fun hw => absurd (guard_want hg h5) hw⟩
  obtain ⟨v, w', e1, e2, e3⟩ := h l a w ⟨h1, h2, hcl, h3, h4, h5⟩
  exact wp_value e1 (hK _ _ (fun d' h' => by rw [hd] at h'; cases h'; exact e2) e3 (fun _ _ _ h => h))
theorem ask_no (hg : Guard md ops g o false) (h : ∀ d, o.dst = some d → g d undef) (hS : ∀ l w, S l w → S (upd l j) w) : L.Asked P md ops a0 Q (fun _ t v _ => g t v) S j o := by
  intro l a w h1 h2 hcl h3 h4 h5
  exact ⟨fun hw => absurd hw (guard_not hg h5), fun _ => ⟨h, hS _ _ h3, fun _ _ _ h => h⟩⟩
theorem ask_s (hg : Guard md ops g o true) (hd : o.dst = none)
    (h : ∀ l a w, L.Hand md ops a0 (fun _ t v _ => g t v) S j o l a w → ∃ w', (execOp a.eval o).run P w = .ok .skip w' ∧ S (upd l j) w') : L.Asked P md ops a0 Q (fun _ t v _ => g t v) S j o := by
  intro l a w h1 h2 hcl h3 h4 h5
  refine ⟨fun _ K hK => ?_, fun hw => absurd (guard_want hg h5) hw⟩
  obtain ⟨w', e1, e3⟩ := h l a w ⟨h1, h2, hcl, h3, h4, h5⟩
  unfold Oper.wp
  rw [e1]
  exact hK undef w' (fun d h' => by rw [hd] at h'; cases h') e3 (fun _ _ _ h => h)
theorem ask_c {f : FuncId} {fn : Func} {xs : Array Operand} {ts : Array TypeId} (hg : Guard md ops g o true) (hf : P.funcs[f]? = some fn) (hn : (fn.name == "runtime.NumGoroutine") = false) (hbody : fn.body.isNone = false) (hop : o.op = .call { callee := .value (.func f), args := xs, argTypes := ts })
    (h : ∀ l a w, L.Hand md ops a0 (fun _ t v _ => g t v) S j o l a w → Calls P f (xs.map a.eval) w fun e w' => ∃ v, e = .returned v ∧ (∀ d, o.dst = some d → g d v) ∧ S (upd l j) w') : L.Asked P md ops a0 Q (fun _ t v _ => g t v) S j o := by
  intro l a w h1 h2 hcl h3 h4 h5
  refine ⟨fun _ K hK => ?_, fun hw => absurd (guard_want hg h5) hw⟩
  have hrun : (execOp a.eval o).run P w = .ok (.enter f (xs.map a.eval)) w := by
    have : execOp a.eval o = callFunc f (#[] ++ xs.map a.eval ++ #[]) := by
      unfold execOp
      rw [hop]
      rfl
    rw [this]
    simp [callFunc, hf]
    rw [if_neg (by simpa using hn), if_neg (fun e => by rw [e] at hbody; simp at hbody)]
  unfold Oper.wp
  rw [hrun, Oper.upon_enter]
  refine (h l a w ⟨h1, h2, hcl, h3, h4, h5⟩).mono ?_
  rintro e w' ⟨v, rfl, e2, e3⟩
  exact hK _ _ e2 e3 (fun _ _ _ h => h)
end
section
variable {P : Program} {ρ : Operand → Value} {o : Oper} {w : World}
theorem ex_move {x : Operand} {v : Value} (ho : o.op = .move x) (h : ρ x = v) : (execOp ρ o).run P w = .ok (.value v) w := by
  unfold execOp; simp only [ho, h]; rfl
theorem ex_assign {x : Operand} {v : Value} (ho : o.op = .assign x) (h : ρ x = v) : (execOp ρ o).run P w = .ok (.value v) w := by
  unfold execOp; simp only [ho, h]; rfl
theorem ex_not {x : Operand} {t : TypeId} {b c : Bool} (ho : o.op = .unOp .not t x) (h : ρ x = .bool b) (hc : (!b) = c) : (execOp ρ o).run P w = .ok (.value (.bool c)) w := by
  subst hc
  unfold execOp; simp only [ho, h]; rfl
theorem ex_pick1 {x y z : Operand} {v : Value} (ho : o.op = .pick x y z) (hx : ρ x = .bool true) (hy : ρ y = v) : (execOp ρ o).run P w = .ok (.value v) w := by
  unfold execOp; simp only [ho, hx, hy]; rfl
theorem ex_pick0 {x y z : Operand} {v : Value} (ho : o.op = .pick x y z) (hx : ρ x = .bool false) (hz : ρ z = v) : (execOp ρ o).run P w = .ok (.value v) w := by
  unfold execOp; simp only [ho, hx, hz]; rfl
/-- A whole block is loaded. -/
theorem ex_load {x : Operand} {ty t : TypeId} {g : Nat} {cs : Array Value} {d : TypeDesc} (ho : o.op = .load ty x) (hx : ρ x = .pointer (some ⟨g, 0, none⟩)) (hg : w.heap[g]? = some (.cells cs t (0, 0)))
    (hu : P.underlying ty = some d) (hd : d.isRow = true) (hi : (P.info? ty).map (·.size) = some cs.size) : (execOp ρ o).run P w = .ok (.value (.agg cs)) w := by
  unfold execOp
  have hc : w.rangeAt g 0 cs.toList := fun j v hv => by
    rw [Nat.zero_add, cell_of_row w g j cs t _ hg]
    simpa using hv
  have hr := run_loadVar_mid (P := P) w g 0 ty cs.toList d hc hu hd (by simpa using hi)
  rw [Array.toArray_toList] at hr
  simp only [ho, hx, Instr.loadAt, Instr.sureAddr, Sem.run_bind, Sem.run_pure, Result.andThen_ok, hr]
end
end Go.Proofs.Ytblcbccchlljhaa.Bg
namespace Go.Proofs.Ytblcbccchlljhaa.Bg
open Go.RowKit Bag
theorem ex_neq27 {ρ : Operand → Value} {o : Oper} {w : World} {x y : Operand} {t : TypeId} {cs ds : Array Value} {r : Bool} (ho : o.op = .binOp .neq 40 x y t) (hx : ρ x = .agg cs) (hy : ρ y = .agg ds) (h : (Op.equalIn 10000 40 (.agg cs) (.agg ds)).run Try.prog w = .ok (!r) w) : (execOp ρ o).run Try.prog w = .ok (.value (.bool r)) w := by
  have h : (binOp .neq 40 (.agg cs) (.agg ds)).run Try.prog w = .ok (.bool r) w := by
    simp [binOp, Op.equal, Op.maxDepth, h]
  have hg : (eqGuard .neq 40 x y (.agg cs) (.agg ds)).run Try.prog w = .ok () w := by
    simp [eqGuard]
  unfold execOp
  simp only [ho, hx, hy, Sem.run_bind, hg, h, Result.andThen_ok, Sem.run_pure]
theorem same_comm (f g : Nat → Bool) (n : Nat) : same f g n = same g f n := by
  unfold same
  congr 1
  funext x
  exact Bool.beq_comm
def ops_jn7_ok : Array Oper := #[⟨some 29, .move (.tmp 0), 44, "bag.go:90", #[], none⟩, ⟨some 30, .nilCheck (.tmp 29), 0, "bag.go:90", #[⟨0, .data⟩], none⟩, ⟨some 31, .load 40 (.tmp 30), 40, "bag.go:90", #[⟨1, .data⟩], none⟩, ⟨some 32, .load 40 (.tmp 5), 40, "bag.go:90", #[], none⟩, ⟨some 33, .binOp .neq 40 (.tmp 31) (.tmp 32) 40, 4, "bag.go:90", #[⟨2, .data⟩, ⟨3, .data⟩], none⟩, ⟨some 4, .assign (.tmp 33), 4, "bag.go:90", #[⟨4, .data⟩, ⟨0, .phase⟩, ⟨1, .phase⟩, ⟨2, .phase⟩, ⟨3, .phase⟩, ⟨4, .phase⟩], none⟩]
def G_jn7_ok (b : Nat) (cs ds : Array Value) (rr : Bool) : Tmp → Value → Prop
  | 29, xx => xx = .pointer (some ⟨b, 0, none⟩)
  | 30, xx => xx = .pointer (some ⟨b, 0, none⟩)
  | 31, xx => xx = .agg cs
  | 32, xx => xx = .agg ds
  | 33, xx => xx = .bool rr
  | 4, xx => xx = .bool rr
  | _, _ => True
set_option maxHeartbeats 4000000 in
set_option maxRecDepth 100000 in
theorem jn7_ok {Q : Exit → Act → World → Prop} {a0 : Act} {wa : World} (b c : Nat) (cs ds : Array Value) (rr : Bool) (hz : a0.tmps.size = 34) (b0 : a0.eval (.tmp 0) = .pointer (some ⟨b, 0, none⟩)) (b5 : a0.eval (.tmp 5) = .pointer (some ⟨c, 0, none⟩)) (t1 t2 : TypeId) (hb : wa.drew.heap[b]? = some (.cells cs t1 (0, 0))) (hc : wa.drew.heap[c]? = some (.cells ds t2 (0, 0))) (hi1 : (Try.prog.info? 40).map (·.size) = some cs.size) (hi2 : (Try.prog.info? 40).map (·.size) = some ds.size) (heq : ∀ W : World, (Op.equalIn 10000 40 (.agg cs) (.agg ds)).run Try.prog W = .ok (!rr) W)
    (hend : ∀ s : Tmp → Value, s 4 = .bool rr → Q .normal (overlay a0 (dstsOf ops_jn7_ok) s) wa.drew) : (Code.region 7 ops_jn7_ok true).wp Try.prog Q a0 wa := by
  refine L.wp_region_eachL (by kernel_rfl) (fun _ t v _ => G_jn7_ok b cs ds rr t v) (fun l W => W = wa.drew) (by rw [hz]; kernel_rfl) (rfl) ?_ ?_
  · refine And.intro ?_ (And.intro ?_ (And.intro ?_ (And.intro ?_ (And.intro ?_ (And.intro ?_ trivial)))))
    · refine ask_v rfl rfl (fun l a W H => ⟨_, W, ?_, rfl, H.s⟩)
      have e0 : a.eval (.tmp 0) = .pointer (some ⟨b, 0, none⟩) := (H.base 0 rfl).trans b0
      exact ex_move rfl e0
    · refine ask_v rfl rfl (fun l a W H => ⟨_, W, ?_, rfl, H.s⟩)
      have e29 : a.eval (.tmp 29) = .pointer (some ⟨b, 0, none⟩) := H.facts 29 rfl
      (simp only [execOp]; try simp only [Option.map]); (try simp only [List.map_toArray, List.map_cons, List.map_nil]); (simp only [e29]; go_simp)
    · refine ask_v rfl rfl (fun l a W H => ⟨_, W, ?_, rfl, H.s⟩)
      have e30 : a.eval (.tmp 30) = .pointer (some ⟨b, 0, none⟩) := H.facts 30 rfl
      exact ex_load rfl e30 (by rw [show W = _ from H.s]; exact hb) Try.underlying40 rfl hi1
    · refine ask_v rfl rfl (fun l a W H => ⟨_, W, ?_, rfl, H.s⟩)
      have e5 : a.eval (.tmp 5) = .pointer (some ⟨c, 0, none⟩) := (H.base 5 rfl).trans b5
      exact ex_load rfl e5 (by rw [show W = _ from H.s]; exact hc) Try.underlying40 rfl hi2
    · refine ask_v rfl rfl (fun l a W H => ⟨_, W, ?_, rfl, H.s⟩)
      have e31 : a.eval (.tmp 31) = .agg cs := H.facts 31 rfl
      have e32 : a.eval (.tmp 32) = .agg ds := H.facts 32 rfl
      exact ex_neq27 rfl e31 e32 (heq W)
    · refine ask_v rfl rfl (fun l a W H => ⟨_, W, ?_, rfl, H.s⟩)
      have e33 : a.eval (.tmp 33) = .bool rr := H.facts 33 rfl
      exact ex_assign rfl e33
  · intro l s W hall hS hs
    have hS : W = wa.drew := hS
    subst hS
    exact hend s (hs 4 rfl)
set_option maxHeartbeats 4000000 in
set_option maxRecDepth 100000 in
theorem join_any (b : Nat) (v : Value) (f g : Nat → Bool) (w : World) (h : SetAt w b f) (k : SetV v g) : Calls Try.prog 13 #[.pointer (some ⟨b, 0, none⟩), v] w fun e w' => e = .returned (.bool (!same f (fun y => f y || g y) 4096)) ∧ SetAt w' b (fun y => f y || g y) ∧ w.grownBy w' (some b) := by
  obtain ⟨cs, rfl, ks⟩ := k
  have hb := h.lt
  obtain ⟨fs, t0, hf0, hfs⟩ := id h
  have HF0 := hide hf0
  clear hf0
  go_enter Try.func13, Try.ntmps13
  go_wp2_with (first | (refine wpList_box' rfl 40 (.tmp 1) rfl cs rfl ?_; intro o w1 h1) | (refine wpList_load_row rfl 40 (.tmp 9) rfl b rfl t0 fs _ ((h1.out.2.2.block b (by rw [h1.out.1]; exact hb)).trans HF0.out) Try.underlying40 rfl (by rw [hfs.1]; exact info27) ?_) | (refine wpList_var 40 5 rfl rfl rfl rfl (.tmp 10) rfl rfl z64 fs z27 (by simp [Act.put]) rfl (by rw [hfs.1]; exact info27) (by rw [hfs.1]; rfl) hfs.cells ?_; intro c w2 h2) | (refine wpList_load_row rfl 38 (.tmp 11) rfl o rfl 40 cs _ ((h2.out.2.2.block o (by have := (Array.getElem?_eq_some_iff.1 h1.out.2.1).1; rw [h2.out.1]; exact this)).trans h1.out.2.1) Try.underlying38 rfl (by rw [ks.1]; exact info25) ?_))
  have G1 := hide ((gb_at h1.out).trans (gb_at h2.out))
  have H1 : Hid (SetAt w2 b f) := hide (h.kept G1.out (by simp))
  have hbc : b ≠ c := by
    have := h1.out.2.2.size
    have := h2.out.1
    omega
  go_loopw [6, 7, 13] (fun _ _ iv wr => ∃ i : Nat, i ≤ 64 ∧ iv = .int .i64 i ∧ Hid (SetAt wr b (upto (64 * i) (fun y => f y || g y) f)) ∧ Hid (w2.grownBy wr (some b))) (fun _ _ iv _ => 64 - (intOf iv).toNat)
  case atStart => exact ⟨0, by omega, rfl, hide (H1.out.congr fun x _ => by simp [upto]), hide (gb_refl _ _)⟩
  case round =>
    rename World => wq
    obtain ⟨i, hi, rfl, HS, HG⟩ := hrel
    by_cases hlt : i < 64
    · obtain ⟨x, hx, hw⟩ := ks.2 i hlt
      have hix := run_index25 hx hlt
      have hlt' : (i : Int) < 64 := by omega
      obtain ⟨y, hc, hf, hy⟩ := HS.out.cell i hlt
      have hy' : Word f i y := word_congr hy fun j hj => upto_no _ _ (by omega)
      have HW := hide hw
      have HY := hide hy'
      clear hx hw hy hy' hbc
      go_wp2_with fail
      go_region
      go_wp2
      go_roundw
      case rel =>
        refine ⟨i + 1, by omega, by go_num, hide ?_, hide (gb_drew' ((HG.out).trans (gb_set _ _ _ _)))⟩
        rw [u64_or_nat _ _ HY.out.1 HW.out.1]
        refine (HS.out.set i hlt _ _ (word_congr (word_or HY.out HW.out) fun j hj => ?_) fun j hj hne k hk => ?_).drew
        · rw [upto_yes _ _ (by omega)]
        · exact upto_step (n := 64 * i) (m := 64 * (i + 1)) _ _ (x := 64 * j + k) (by omega)
      case measure => simp [intOf]; omega
    · obtain rfl : i = 64 := by omega
      have HE := hide (HS.out.congr fun x hx => upto_yes (fun y => f y || g y) f hx)
      obtain ⟨ds, t1, hd1, hds⟩ := HE.out
      have HD1 := hide hd1
      clear hd1
      have hcw := hide ((HG.out.block c (Array.getElem?_eq_some_iff.1 h2.out.2.1).1 (by simpa using fun e => hbc e.symm)).trans h2.out.2.1)
      go_wp2_with fail
      refine jn7_ok b c ds fs (!same f (fun y => f y || g y) 4096) rfl rfl rfl t1 40 HD1.out hcw.out (by rw [hds.1]; exact info27) (by rw [hfs.1]; exact info27) (fun W => ?_) (fun s hs => ?_)
      · rw [Bool.not_not, eq27 ds fs (fun y => f y || g y) f hds hfs W, same_comm]
      · simp [overlay, dstsOf, ops_jn7_ok, hs]
        go_wp2_with fail
        go_ret
        exact ⟨rfl, HE.out.drew, gb_drew' (gb_then G1.out HG.out)⟩
end Go.Proofs.Ytblcbccchlljhaa.Bg
