/- marks: which numbers each block adds, which it takes away. -/
import Derived.Test.YtblcbccchlljhaaWy
import Derived.Test.YtblcbccchlljhaaFi
namespace Go.Proofs.Ytblcbccchlljhaa
open Go.RowKit Ir Wy

theorem Wst.snoc4 {w0 w4 w5 : World} {gf gt n x : Nat} {Vf Vt : Nat → Value} {Rf Rt : Nat → List Int} {v' : Value} {L' : List Int} (h4 : Wst w0 gf gt n w4 Vf Vt Rf Rt) (hx : x < n) (hg : w4.grownBy w5 (Vf x).ownBlock) (ho : ArgsO w0.heap.size w5 v' L') (how : ∀ k, v'.ownBlock = some k → (Vf x).ownBlock = some k ∨ w4.heap.size ≤ k) :
    Wst w0 gf gt n (w5.setCell ⟨gf, x, none⟩ v') (upV Vf x v') Vt (upV Rf x L') Rt ∧ w5.cell? ⟨gf, x, none⟩ = some (Vf x) ∧ w5.frozen? ⟨gf, x, none⟩ = false := by
  have hset := set_grown w5 gf x v'
  have oth : ∀ k, k ≠ gf → (w5.setCell ⟨gf, x, none⟩ v').heap[k]? = w5.heap[k]? := fun k hk => Below.heap_setCell _ _ _ _ hk
  have hot : ∀ k, k < w4.heap.size → k ≠ gf → (Vf x).ownBlock ≠ some k → (w5.setCell ⟨gf, x, none⟩ v').heap[k]? = w4.heap[k]? := fun k hk h1 h2 => (oth k h1).trans (hg.block k hk (fun e => h2 e.symm))
  have hb5 : Below w0.heap.size w0 (w5.setCell ⟨gf, x, none⟩ v') := by
    have h1 := h4.below.grown hg h4.below.size (fun k e1 => ((h4.f.row x hx).lt k e1).1)
    exact h1.grown hset h1.size (fun k e1 => by cases e1; exact h4.f0)
  refine ⟨⟨h4.f.snoc hx hg ho how, h4.t.keep (hot gt h4.t.lt (fun e => h4.ne e.symm) (h4.t.off (h4.f.row x hx))) (fun b hb k hk => hot k ((h4.t.row b hb).lt k hk).2 (fun e => h4.f.off (h4.t.row b hb) (by rw [hk, e])) (fun e => h4.ap x b hx hb k e hk)), h4.ne, fun a b ha hb k hk e => ?_, hb5, h4.f0, h4.t0⟩, ?_⟩
  · by_cases ea : a = x
    · subst ea
      rw [upV_same] at hk
      rcases how k hk with q1 | q1
      · exact h4.ap a b ha hb k q1 e
      · have := ((h4.t.row b hb).lt k e).2
        omega
    · rw [upV_ne _ _ ea] at hk
      exact h4.ap a b ha hb k hk e
  · obtain ⟨cs, h1, h2, h3⟩ := h4.f.cell
    have hg1 : w5.heap[gf]? = some (.cells cs 48 (0, 0)) := (hg.block _ (heap_lt' h1) (fun e1 => h4.f.away x hx e1.symm)).trans h1
    exact ⟨by rw [cell_of_row _ _ _ _ _ _ hg1, h3 x hx], frozen_of_row _ _ _ _ _ hg1⟩
/-- How far it has come. -/
structure S6 (w0 : World) (gf gt n x y : Nat) (Vf Vt : Nat → Value) (Rf Rt : Nat → List Int) (wa : World) (tm ta : Nat) (l : Nat → Bool) (s : Tmp → Value) (W : World) : Prop where
  pre : l 15 = false → Below wa.heap.size wa W
  one : l 15 = true → l 16 = false → ∃ h, s tm = .slice (some ⟨h, 0, none⟩) 1 1 ∧ W.heap[h]? = some (.cells #[.int .i64 (y : Int)] 3 (0, 0)) ∧ Below wa.heap.size wa W
  app : l 16 = true → l 18 = false → ∃ w4, Wst w0 gf gt n w4 Vf Vt Rf Rt ∧ w4.grownBy W (Vf x).ownBlock ∧ ArgsO w0.heap.size W (s ta) (Rf x ++ [(y : Int)]) ∧ ∀ k, (s ta).ownBlock = some k → (Vf x).ownBlock = some k ∨ w4.heap.size ≤ k
  fin : l 18 = true → ∃ v', Wst w0 gf gt n W (upV Vf x v') Vt (upV Rf x (Rf x ++ [(y : Int)])) Rt
theorem dep_in3 {md : Region.Mode} {ops : Array Oper} {a0 : Act} {G : (Nat → Bool) → Tmp → Value → World → Prop} {S : (Nat → Bool) → (Tmp → Value) → World → Prop} {j : Nat} {o : Oper} {l : Nat → Bool} {a : Act} {w : World} (H : L3.Hand md ops a0 G S j o l a w) (i k : Nat) (hd : dep md ops i k = true) (hk : dep md ops k j = true) : l i = false := by
  cases e : l i
  · rfl
  · have := H.closed k j hk (H.closed i k hd e)
    rw [H.new] at this
    cases this
theorem rem3 (i n : Nat) (hn : 0 < n) (W : World) : (binOp .rem 3 (.int .i64 (i : Int)) (.int .i64 (n : Int))).run Try.prog W = .ok (.int .i64 ((i % n : Nat) : Int)) W := by
  have h1 : ¬ ((n : Int) = 0) := by omega
  have h0 : binOp .rem 3 (.int .i64 (i : Int)) (.int .i64 (n : Int)) = Op.intDiv .rem .i64 (i : Int) (n : Int) := rfl
  rw [h0, Op.intDiv, if_neg h1]
  rfl
theorem rem5 (a : Nat) (W : World) : (binOp .rem 5 (.int .u8 (a : Int)) (.int .u8 20)).run Try.prog W = .ok (.int .u8 ((a % 20 : Nat) : Int)) W := rfl
theorem conv53 (a : Nat) (ha : a < 256) (W : World) : (convert 5 3 (.int .u8 (a : Int))).run Try.prog W = .ok (.int .i64 (a : Int)) W := by
  go_simp
  simp [IntKind.wrap, IntKind.signed, IntKind.bits]
  omega
theorem exec_rem {ρ : Operand → Value} {o : Oper} {x y : Operand} {W : World} {i n : Nat} (ho : o.op = .binOp .rem 3 x y 3) (hx : ρ x = .int .i64 (i : Int)) (hy : ρ y = .int .i64 (n : Int)) (hn : 0 < n) {r : Nat} (hr : i % n = r) : (execOp ρ o).run Try.prog W = .ok (.value (.int .i64 (r : Int))) W := by
  have h := rem3 i n hn W
  rw [hr] at h
  unfold execOp
  simp only [ho, hx, hy, Sem.run_bind]
  have hg : (eqGuard .rem 3 x y (.int .i64 (i : Int)) (.int .i64 (n : Int))).run Try.prog W = .ok () W := by
    unfold eqGuard
    rfl
  simp only [hg, Result.andThen_ok, h]
  rfl
theorem exec_len {ρ : Operand → Value} {o : Oper} {x : Operand} {W : World} {t e : TypeId} {ao : Option Addr} {n c : Nat} (hu : Try.prog.underlying t = some (.slice e)) (ho : o.op = .call { callee := .builtin .len, args := #[x], argTypes := #[t] }) (hx : ρ x = .slice ao n c) : (execOp ρ o).run Try.prog W = .ok (.value (.int .i64 (n : Int))) W := by
  unfold execOp
  simp only [ho, resolve, invoke, builtin, Sem.run_bind, Sem.run_pure, Result.andThen_ok, List.map_toArray, List.map_cons, List.map_nil, hx]
  simp [Builtin.len_, run_underlying hu, goInt]
theorem exec_rem5 {ρ : Operand → Value} {o : Oper} {x y : Operand} {W : World} {a : Nat} (ho : o.op = .binOp .rem 5 x y 5) (hx : ρ x = .int .u8 (a : Int)) (hy : ρ y = .int .u8 20) {r : Nat} (hr : a % 20 = r) : (execOp ρ o).run Try.prog W = .ok (.value (.int .u8 (r : Int))) W := by
  have h := rem5 a W
  rw [hr] at h
  unfold execOp
  simp only [ho, hx, hy, Sem.run_bind]
  have hg : (eqGuard .rem 5 x y (.int .u8 (a : Int)) (.int .u8 20)).run Try.prog W = .ok () W := by
    unfold eqGuard
    rfl
  simp only [hg, Result.andThen_ok, h]
  rfl
theorem exec_conv {ρ : Operand → Value} {o : Oper} {x : Operand} {W : World} {a : Nat} (ho : o.op = .convert 5 3 x) (hx : ρ x = .int .u8 (a : Int)) (ha : a < 256) : (execOp ρ o).run Try.prog W = .ok (.value (.int .i64 (a : Int))) W := by
  have h := conv53 a ha W
  unfold execOp
  simp only [ho, hx, Sem.run_bind, h, Result.andThen_ok]
  rfl
def ops_m6 : Array Oper := #[⟨some 27, .move (.tmp 6), 30, "law.go:42", #[], none⟩, ⟨some 28, .move (.tmp 8), 3, "law.go:42", #[], none⟩, ⟨some 29, .move (.tmp 0), 26, "law.go:42", #[], none⟩, ⟨some 30, .call { callee := Callee.builtin Builtin.len, args := #[.tmp 29], argTypes := #[26] }, 3, "law.go:42", #[⟨2, .data⟩], none⟩, ⟨some 31, .binOp .rem 3 (.tmp 28) (.tmp 30) 3, 3, "law.go:42", #[⟨1, .data⟩, ⟨3, .data⟩], none⟩, ⟨some 32, .move (.tmp 6), 30, "law.go:42", #[], none⟩, ⟨some 33, .move (.tmp 8), 3, "law.go:42", #[], none⟩, ⟨some 34, .move (.tmp 0), 26, "law.go:42", #[], none⟩, ⟨some 35, .call { callee := Callee.builtin Builtin.len, args := #[.tmp 34], argTypes := #[26] }, 3, "law.go:42", #[⟨7, .data⟩], none⟩, ⟨some 36, .binOp .rem 3 (.tmp 33) (.tmp 35) 3, 3, "law.go:42", #[⟨6, .data⟩, ⟨8, .data⟩], none⟩, ⟨some 37, .indexAddr 30 (.tmp 32) (.tmp 36), 0, "law.go:42", #[⟨5, .data⟩, ⟨9, .data⟩], none⟩, ⟨some 38, .load 48 (.tmp 37), 48, "law.go:42", #[⟨10, .data⟩], none⟩, ⟨some 39, .move (.tmp 9), 5, "law.go:42", #[], none⟩, ⟨some 40, .binOp .rem 5 (.tmp 39) (.const (.int .u8 20)) 5, 5, "law.go:42", #[⟨12, .data⟩], none⟩, ⟨some 41, .convert 5 3 (.tmp 40), 3, "law.go:42", #[⟨13, .data⟩], none⟩, ⟨some 42, .buildSlice 48 1 #[(0, .tmp 41)], 48, "law.go:42", #[⟨14, .data⟩], none⟩, ⟨some 43, .call { callee := Callee.builtin Builtin.append, args := #[.tmp 38, .tmp 42], argTypes := #[48, 48] }, 48, "law.go:42", #[⟨11, .data⟩, ⟨15, .data⟩], none⟩, ⟨some 44, .indexAddr 30 (.tmp 27) (.tmp 31), 0, "law.go:42", #[⟨0, .data⟩, ⟨4, .data⟩, ⟨0, .phase⟩, ⟨1, .phase⟩, ⟨2, .phase⟩, ⟨3, .phase⟩, ⟨4, .phase⟩, ⟨5, .phase⟩, ⟨6, .phase⟩, ⟨7, .phase⟩, ⟨8, .phase⟩, ⟨9, .phase⟩, ⟨10, .phase⟩, ⟨11, .phase⟩, ⟨12, .phase⟩, ⟨13, .phase⟩, ⟨14, .phase⟩, ⟨15, .phase⟩, ⟨16, .phase⟩], none⟩, ⟨none, .store 48 (.tmp 44) (.tmp 43), 0, "law.go:42", #[⟨17, .data⟩, ⟨16, .data⟩, ⟨16, .chain⟩, ⟨0, .phase⟩, ⟨1, .phase⟩, ⟨2, .phase⟩, ⟨3, .phase⟩, ⟨4, .phase⟩, ⟨5, .phase⟩, ⟨6, .phase⟩, ⟨7, .phase⟩, ⟨8, .phase⟩, ⟨9, .phase⟩, ⟨10, .phase⟩, ⟨11, .phase⟩, ⟨12, .phase⟩, ⟨13, .phase⟩, ⟨14, .phase⟩, ⟨15, .phase⟩, ⟨16, .phase⟩], none⟩]
set_option maxHeartbeats 2000000 in
set_option maxRecDepth 100000 in
theorem m6_ok {Q : Exit → Act → World → Prop} {a0 : Act} {wa w0 : World} {gf gt n : Nat} {Vf Vt : Nat → Value} {Rf Rt : Nat → List Int} (hst : Wst w0 gf gt n wa Vf Vt Rf Rt) (i by0 c x y : Nat) (hx : i % n = x) (hy : by0 % 20 = y) (ao : Option Addr) (hn0 : 0 < n) (hlen : (Rf x).length ≤ 1000000) (hz : a0.tmps.size = 76) (b0 : a0.eval (.tmp 0) = .slice ao n c) (b6 : a0.eval (.tmp 6) = .slice (some ⟨gf, 0, none⟩) n n) (b8 : a0.eval (.tmp 8) = .int .i64 (i : Int)) (b9 : a0.eval (.tmp 9) = .int .u8 (by0 : Int))
    (hend : ∀ (s : Tmp → Value) (W : World) (v' : Value), Wst w0 gf gt n W (upV Vf x v') Vt (upV Rf x (Rf x ++ [(y : Int)])) Rt → Q .normal (overlay a0 (dstsOf ops_m6) s) W) : (Code.region 6 ops_m6 true).wp Try.prog Q a0 wa := by
  have hxn : x < n := by rw [← hx]; exact Nat.mod_lt _ hn0
  have hxn' : (x : Int) < (n : Int) := by omega
  have hyl : y < 256 := by rw [← hy]; have := Nat.mod_lt by0 (show 0 < 20 by omega); omega
  obtain ⟨aV, cV, hvx⟩ := (hst.f.row _ hxn).slice
  have hcellW : ∀ (l : Nat → Bool) (s : Tmp → Value) (W : World), S6 w0 gf gt n x y Vf Vt Rf Rt wa 42 43 l s W → l 16 = false → W.cell? ⟨gf, x, none⟩ = some (Vf x) := fun l s W h h16 => by
    have hB : Below wa.heap.size wa W := by
      cases e : l 15
      · exact h.pre e
      · obtain ⟨_, _, _, h3⟩ := h.one e h16
        exact h3
    exact (((hst.grow hB).f.at _ hxn)).1
  refine L3.wp_region_eachL (by kernel_rfl) (fun _ t v _ => (match t with | 27 => v = .slice (some ⟨gf, 0, none⟩) n n | 28 => v = .int .i64 (i : Int) | 29 => v = .slice ao n c | 30 => v = .int .i64 (n : Int) | 31 => v = .int .i64 (x : Int) | 32 => v = .slice (some ⟨gf, 0, none⟩) n n | 33 => v = .int .i64 (i : Int) | 34 => v = .slice ao n c | 35 => v = .int .i64 (n : Int) | 36 => v = .int .i64 (x : Int) | 37 => v = .pointer (some ⟨gf, x, none⟩) | 38 => v = Vf x | 39 => v = .int .u8 (by0 : Int) | 40 => v = .int .u8 (y : Int) | 41 => v = .int .i64 (y : Int) | 44 => v = .pointer (some ⟨gf, x, none⟩) | _ => True)) (S6 w0 gf gt n x y Vf Vt Rf Rt wa 42 43) (by rw [hz]; kernel_rfl) ⟨fun _ => (Below.refl _ _).drew, fun h => (by simp at h), fun h => (by simp at h), fun h => (by simp at h)⟩ ?_ ?_
  · refine And.intro ?_ (And.intro ?_ (And.intro ?_ (And.intro ?_ (And.intro ?_ (And.intro ?_ (And.intro ?_ (And.intro ?_ (And.intro ?_ (And.intro ?_ (And.intro ?_ (And.intro ?_ (And.intro ?_ (And.intro ?_ (And.intro ?_ (And.intro ?_ (And.intro ?_ (And.intro ?_ (And.intro ?_ trivial))))))))))))))))))
    · exact L3.asked_any rfl fun l z W H => ⟨.slice (some ⟨gf, 0, none⟩) n n, W, Bg.ex_move rfl ((H.base 6 rfl).trans b6), (fun d hd => by cases hd; rfl), ⟨H.s.pre, H.s.one, H.s.app, H.s.fin⟩, fun _ _ h => h⟩
    · exact L3.asked_any rfl fun l z W H => ⟨.int .i64 (i : Int), W, Bg.ex_move rfl ((H.base 8 rfl).trans b8), (fun d hd => by cases hd; rfl), ⟨H.s.pre, H.s.one, H.s.app, H.s.fin⟩, fun _ _ h => h⟩
    · exact L3.asked_any rfl fun l z W H => ⟨.slice ao n c, W, Bg.ex_move rfl ((H.base 0 rfl).trans b0), (fun d hd => by cases hd; rfl), ⟨H.s.pre, H.s.one, H.s.app, H.s.fin⟩, fun _ _ h => h⟩
    · refine L3.asked_any rfl fun l z W H => ⟨.int .i64 (n : Int), W, ?_, (fun d hd => by cases hd; rfl), ⟨H.s.pre, H.s.one, H.s.app, H.s.fin⟩, fun _ _ h => h⟩
      have e29 : z.eval (.tmp 29) = .slice ao n c := H.facts 29 rfl
      exact exec_len Try.underlying26 rfl e29
    · refine L3.asked_any rfl fun l z W H => ⟨.int .i64 (x : Int), W, ?_, (fun d hd => by cases hd; rfl), ⟨H.s.pre, H.s.one, H.s.app, H.s.fin⟩, fun _ _ h => h⟩
      have e28 : z.eval (.tmp 28) = .int .i64 (i : Int) := H.facts 28 rfl
      have e30 : z.eval (.tmp 30) = .int .i64 (n : Int) := H.facts 30 rfl
      exact exec_rem rfl e28 e30 hn0 hx
    · exact L3.asked_any rfl fun l z W H => ⟨.slice (some ⟨gf, 0, none⟩) n n, W, Bg.ex_move rfl ((H.base 6 rfl).trans b6), (fun d hd => by cases hd; rfl), ⟨H.s.pre, H.s.one, H.s.app, H.s.fin⟩, fun _ _ h => h⟩
    · exact L3.asked_any rfl fun l z W H => ⟨.int .i64 (i : Int), W, Bg.ex_move rfl ((H.base 8 rfl).trans b8), (fun d hd => by cases hd; rfl), ⟨H.s.pre, H.s.one, H.s.app, H.s.fin⟩, fun _ _ h => h⟩
    · exact L3.asked_any rfl fun l z W H => ⟨.slice ao n c, W, Bg.ex_move rfl ((H.base 0 rfl).trans b0), (fun d hd => by cases hd; rfl), ⟨H.s.pre, H.s.one, H.s.app, H.s.fin⟩, fun _ _ h => h⟩
    · refine L3.asked_any rfl fun l z W H => ⟨.int .i64 (n : Int), W, ?_, (fun d hd => by cases hd; rfl), ⟨H.s.pre, H.s.one, H.s.app, H.s.fin⟩, fun _ _ h => h⟩
      have e34 : z.eval (.tmp 34) = .slice ao n c := H.facts 34 rfl
      exact exec_len Try.underlying26 rfl e34
    · refine L3.asked_any rfl fun l z W H => ⟨.int .i64 (x : Int), W, ?_, (fun d hd => by cases hd; rfl), ⟨H.s.pre, H.s.one, H.s.app, H.s.fin⟩, fun _ _ h => h⟩
      have e33 : z.eval (.tmp 33) = .int .i64 (i : Int) := H.facts 33 rfl
      have e35 : z.eval (.tmp 35) = .int .i64 (n : Int) := H.facts 35 rfl
      exact exec_rem rfl e33 e35 hn0 hx
    · refine L3.asked_any rfl fun l z W H => ⟨.pointer (some ⟨gf, x, none⟩), W, ?_, (fun d hd => by cases hd; rfl), ⟨H.s.pre, H.s.one, H.s.app, H.s.fin⟩, fun _ _ h => h⟩
      have e32 : z.eval (.tmp 32) = .slice (some ⟨gf, 0, none⟩) n n := H.facts 32 rfl
      have e36 : z.eval (.tmp 36) = .int .i64 (x : Int) := H.facts 36 rfl
      (simp only [execOp]; try simp only [Option.map]); (try simp only [List.map_toArray, List.map_cons, List.map_nil]); (simp only [e32, e36]; go_simp)
    · refine L3.asked_any rfl fun l z W H => ⟨Vf x, W, ?_, (fun d hd => by cases hd; rfl), ⟨H.s.pre, H.s.one, H.s.app, H.s.fin⟩, fun _ _ h => h⟩
      have e37 : z.eval (.tmp 37) = .pointer (some ⟨gf, x, none⟩) := H.facts 37 rfl
      have hcell : W.cell? ⟨gf, x, none⟩ = some (Vf x) := hcellW l _ W H.s (dep_in H 16 rfl)
      rw [hvx] at hcell ⊢
      (simp only [execOp]; simp only [e37]; go_simp)
    · exact L3.asked_any rfl fun l z W H => ⟨.int .u8 (by0 : Int), W, Bg.ex_move rfl ((H.base 9 rfl).trans b9), (fun d hd => by cases hd; rfl), ⟨H.s.pre, H.s.one, H.s.app, H.s.fin⟩, fun _ _ h => h⟩
    · refine L3.asked_any rfl fun l z W H => ⟨.int .u8 (y : Int), W, ?_, (fun d hd => by cases hd; rfl), ⟨H.s.pre, H.s.one, H.s.app, H.s.fin⟩, fun _ _ h => h⟩
      have e39 : z.eval (.tmp 39) = .int .u8 (by0 : Int) := H.facts 39 rfl
      exact exec_rem5 rfl e39 rfl hy
    · refine L3.asked_any rfl fun l z W H => ⟨.int .i64 (y : Int), W, ?_, (fun d hd => by cases hd; rfl), ⟨H.s.pre, H.s.one, H.s.app, H.s.fin⟩, fun _ _ h => h⟩
      have e40 : z.eval (.tmp 40) = .int .u8 (y : Int) := H.facts 40 rfl
      exact exec_conv rfl e40 hyl
    · refine L3.asked_any rfl fun l z W H => ?_
      have e41 : z.eval (.tmp 41) = .int .i64 (y : Int) := H.facts 41 rfl
      have hw := H.s.pre H.new
      have n16 : l 16 = false := dep_in H 16 rfl
      have n18 : l 18 = false := dep_in H 18 rfl
      refine ⟨.slice (some ⟨W.heap.size, 0, none⟩) 1 1, W.alloc (.cells #[.int .i64 (y : Int)] 3), ?_, (fun d hd => by cases hd; trivial), ⟨fun h => (by rw [show (upd l 15) 15 = true from rfl] at h; cases h), fun _ _ => ⟨_, rfl, heap_alloc_new W _, bel_of hw (bel1' W _)⟩, fun h => (by rw [show (upd l 15) 16 = l 16 from rfl, n16] at h; cases h), fun h => (by rw [show (upd l 15) 18 = l 18 from rfl, n18] at h; cases h)⟩, fun _ _ h => h⟩
      simp only [execOp, List.map_toArray, List.map_cons, List.map_nil, e41, Sem.run_bind, I.run_one, Result.andThen_ok]
      rfl
    · refine L3.asked_any rfl fun l z W H => ?_
      have e38 : z.eval (.tmp 38) = Vf x := H.facts 38 rfl
      have n18 : l 18 = false := dep_in H 18 rfl
      obtain ⟨h, h1, h2, h3⟩ := H.s.one (H.deps ⟨15, .data⟩ (by simp [Array.mem_def]) rfl) H.new
      have hS := hst.grow h3
      obtain ⟨v', w', r1, r2, r3, r4⟩ := run_snoc W 48 w0.heap.size h (Vf x) (Rf x) (y : Int) (hS.f.row _ hxn) h2 hlen hS.below.size
      have e42 : z.eval (.tmp 42) = .slice (some ⟨h, 0, none⟩) 1 1 := h1
      refine ⟨v', w', ?_, (fun d hd => by cases hd; trivial), ⟨fun h => (by rw [show (upd l 16) 15 = l 15 from rfl, H.deps ⟨15, .data⟩ (by simp [Array.mem_def]) rfl] at h; cases h), fun _ h => (by rw [show (upd l 16) 16 = true from rfl] at h; cases h), fun _ _ => ⟨W, hS, r3, r2, r4⟩, fun h => (by rw [show (upd l 16) 18 = l 18 from rfl, n18] at h; cases h)⟩, fun _ _ h => h⟩
      simp only [execOp, resolve, invoke, builtin, Sem.run_bind, Sem.run_pure, Result.andThen_ok, List.map_toArray, List.map_cons, List.map_nil, e38, e42, r1]
    · refine L3.asked_any rfl fun l z W H => ⟨.pointer (some ⟨gf, x, none⟩), W, ?_, (fun d hd => by cases hd; rfl), ⟨H.s.pre, H.s.one, H.s.app, H.s.fin⟩, fun _ _ h => h⟩
      have e27 : z.eval (.tmp 27) = .slice (some ⟨gf, 0, none⟩) n n := H.facts 27 rfl
      have e31 : z.eval (.tmp 31) = .int .i64 (x : Int) := H.facts 31 rfl
      (simp only [execOp]; try simp only [Option.map]); (try simp only [List.map_toArray, List.map_cons, List.map_nil]); (simp only [e27, e31]; go_simp)
    · refine L3.asked_skip rfl rfl fun l z W H => ?_
      have e44 : z.eval (.tmp 44) = .pointer (some ⟨gf, x, none⟩) := H.facts 44 rfl
      obtain ⟨w4, h1, h2, h3, h4⟩ := H.s.app (H.deps ⟨16, .data⟩ (by simp [Array.mem_def]) rfl) H.new
      obtain ⟨q1, q2, q3⟩ := h1.snoc4 hxn h2 h3 h4
      have h3' : ArgsO w0.heap.size W (z.eval (.tmp 43)) (Rf x ++ [(y : Int)]) := h3
      obtain ⟨av, cv, hav⟩ := h3'.slice
      have q1' : Wst w0 gf gt n (W.setCell ⟨gf, x, none⟩ (z.eval (.tmp 43))) (upV Vf x (z.eval (.tmp 43))) Vt (upV Rf x (Rf x ++ [(y : Int)])) Rt := q1
      refine ⟨W.setCell ⟨gf, x, none⟩ (z.eval (.tmp 43)), ?_, ⟨fun h => (by rw [show (upd l 18) 15 = l 15 from rfl, H.deps ⟨15, .phase⟩ (by simp [Array.mem_def]) rfl] at h; cases h), fun _ h => (by rw [show (upd l 18) 16 = l 16 from rfl, H.deps ⟨16, .data⟩ (by simp [Array.mem_def]) rfl] at h; cases h), fun _ h => (by rw [show (upd l 18) 18 = true from rfl] at h; cases h), fun _ => ⟨_, q1'⟩⟩, fun _ h => h⟩
      rw [hvx] at q2
      rw [hav]
      (simp only [execOp]; simp only [e44, hav]; go_simp)
  · intro l s W hall hS hs
    obtain ⟨v', h1⟩ := hS.fin (hall 18 (by decide))
    exact hend s W v' h1
def ops_m12 : Array Oper := #[⟨some 55, .move (.tmp 7), 30, "law.go:47", #[], none⟩, ⟨some 56, .move (.tmp 10), 3, "law.go:47", #[], none⟩, ⟨some 57, .move (.tmp 0), 26, "law.go:47", #[], none⟩, ⟨some 58, .call { callee := Callee.builtin Builtin.len, args := #[.tmp 57], argTypes := #[26] }, 3, "law.go:47", #[⟨2, .data⟩], none⟩, ⟨some 59, .binOp .rem 3 (.tmp 56) (.tmp 58) 3, 3, "law.go:47", #[⟨1, .data⟩, ⟨3, .data⟩], none⟩, ⟨some 60, .move (.tmp 7), 30, "law.go:47", #[], none⟩, ⟨some 61, .move (.tmp 10), 3, "law.go:47", #[], none⟩, ⟨some 62, .move (.tmp 0), 26, "law.go:47", #[], none⟩, ⟨some 63, .call { callee := Callee.builtin Builtin.len, args := #[.tmp 62], argTypes := #[26] }, 3, "law.go:47", #[⟨7, .data⟩], none⟩, ⟨some 64, .binOp .rem 3 (.tmp 61) (.tmp 63) 3, 3, "law.go:47", #[⟨6, .data⟩, ⟨8, .data⟩], none⟩, ⟨some 65, .indexAddr 30 (.tmp 60) (.tmp 64), 0, "law.go:47", #[⟨5, .data⟩, ⟨9, .data⟩], none⟩, ⟨some 66, .load 48 (.tmp 65), 48, "law.go:47", #[⟨10, .data⟩], none⟩, ⟨some 67, .move (.tmp 11), 5, "law.go:47", #[], none⟩, ⟨some 68, .binOp .rem 5 (.tmp 67) (.const (.int .u8 20)) 5, 5, "law.go:47", #[⟨12, .data⟩], none⟩, ⟨some 69, .convert 5 3 (.tmp 68), 3, "law.go:47", #[⟨13, .data⟩], none⟩, ⟨some 70, .buildSlice 48 1 #[(0, .tmp 69)], 48, "law.go:47", #[⟨14, .data⟩], none⟩, ⟨some 71, .call { callee := Callee.builtin Builtin.append, args := #[.tmp 66, .tmp 70], argTypes := #[48, 48] }, 48, "law.go:47", #[⟨11, .data⟩, ⟨15, .data⟩], none⟩, ⟨some 72, .indexAddr 30 (.tmp 55) (.tmp 59), 0, "law.go:47", #[⟨0, .data⟩, ⟨4, .data⟩, ⟨0, .phase⟩, ⟨1, .phase⟩, ⟨2, .phase⟩, ⟨3, .phase⟩, ⟨4, .phase⟩, ⟨5, .phase⟩, ⟨6, .phase⟩, ⟨7, .phase⟩, ⟨8, .phase⟩, ⟨9, .phase⟩, ⟨10, .phase⟩, ⟨11, .phase⟩, ⟨12, .phase⟩, ⟨13, .phase⟩, ⟨14, .phase⟩, ⟨15, .phase⟩, ⟨16, .phase⟩], none⟩, ⟨none, .store 48 (.tmp 72) (.tmp 71), 0, "law.go:47", #[⟨17, .data⟩, ⟨16, .data⟩, ⟨16, .chain⟩, ⟨0, .phase⟩, ⟨1, .phase⟩, ⟨2, .phase⟩, ⟨3, .phase⟩, ⟨4, .phase⟩, ⟨5, .phase⟩, ⟨6, .phase⟩, ⟨7, .phase⟩, ⟨8, .phase⟩, ⟨9, .phase⟩, ⟨10, .phase⟩, ⟨11, .phase⟩, ⟨12, .phase⟩, ⟨13, .phase⟩, ⟨14, .phase⟩, ⟨15, .phase⟩, ⟨16, .phase⟩], none⟩]
set_option maxHeartbeats 2000000 in
set_option maxRecDepth 100000 in
theorem m12_ok {Q : Exit → Act → World → Prop} {a0 : Act} {wa w0 : World} {gf gt n : Nat} {Vf Vt : Nat → Value} {Rf Rt : Nat → List Int} (hst : Wst w0 gf gt n wa Vf Vt Rf Rt) (i by0 c x y : Nat) (hx : i % n = x) (hy : by0 % 20 = y) (ao : Option Addr) (hn0 : 0 < n) (hlen : (Rf x).length ≤ 1000000) (hz : a0.tmps.size = 76) (b0 : a0.eval (.tmp 0) = .slice ao n c) (b7 : a0.eval (.tmp 7) = .slice (some ⟨gf, 0, none⟩) n n) (b10 : a0.eval (.tmp 10) = .int .i64 (i : Int)) (b11 : a0.eval (.tmp 11) = .int .u8 (by0 : Int))
    (hend : ∀ (s : Tmp → Value) (W : World) (v' : Value), Wst w0 gf gt n W (upV Vf x v') Vt (upV Rf x (Rf x ++ [(y : Int)])) Rt → Q .normal (overlay a0 (dstsOf ops_m12) s) W) : (Code.region 12 ops_m12 true).wp Try.prog Q a0 wa := by
  have hxn : x < n := by rw [← hx]; exact Nat.mod_lt _ hn0
  have hxn' : (x : Int) < (n : Int) := by omega
  have hyl : y < 256 := by rw [← hy]; have := Nat.mod_lt by0 (show 0 < 20 by omega); omega
  obtain ⟨aV, cV, hvx⟩ := (hst.f.row _ hxn).slice
  have hcellW : ∀ (l : Nat → Bool) (s : Tmp → Value) (W : World), S6 w0 gf gt n x y Vf Vt Rf Rt wa 70 71 l s W → l 16 = false → W.cell? ⟨gf, x, none⟩ = some (Vf x) := fun l s W h h16 => by
    have hB : Below wa.heap.size wa W := by
      cases e : l 15
      · exact h.pre e
      · obtain ⟨_, _, _, h3⟩ := h.one e h16
        exact h3
    exact (((hst.grow hB).f.at _ hxn)).1
  refine L3.wp_region_eachL (by kernel_rfl) (fun _ t v _ => (match t with | 55 => v = .slice (some ⟨gf, 0, none⟩) n n | 56 => v = .int .i64 (i : Int) | 57 => v = .slice ao n c | 58 => v = .int .i64 (n : Int) | 59 => v = .int .i64 (x : Int) | 60 => v = .slice (some ⟨gf, 0, none⟩) n n | 61 => v = .int .i64 (i : Int) | 62 => v = .slice ao n c | 63 => v = .int .i64 (n : Int) | 64 => v = .int .i64 (x : Int) | 65 => v = .pointer (some ⟨gf, x, none⟩) | 66 => v = Vf x | 67 => v = .int .u8 (by0 : Int) | 68 => v = .int .u8 (y : Int) | 69 => v = .int .i64 (y : Int) | 72 => v = .pointer (some ⟨gf, x, none⟩) | _ => True)) (S6 w0 gf gt n x y Vf Vt Rf Rt wa 70 71) (by rw [hz]; kernel_rfl) ⟨fun _ => (Below.refl _ _).drew, fun h => (by simp at h), fun h => (by simp at h), fun h => (by simp at h)⟩ ?_ ?_
  · refine And.intro ?_ (And.intro ?_ (And.intro ?_ (And.intro ?_ (And.intro ?_ (And.intro ?_ (And.intro ?_ (And.intro ?_ (And.intro ?_ (And.intro ?_ (And.intro ?_ (And.intro ?_ (And.intro ?_ (And.intro ?_ (And.intro ?_ (And.intro ?_ (And.intro ?_ (And.intro ?_ (And.intro ?_ trivial))))))))))))))))))
    · exact L3.asked_any rfl fun l z W H => ⟨.slice (some ⟨gf, 0, none⟩) n n, W, Bg.ex_move rfl ((H.base 7 rfl).trans b7), (fun d hd => by cases hd; rfl), ⟨H.s.pre, H.s.one, H.s.app, H.s.fin⟩, fun _ _ h => h⟩
    · exact L3.asked_any rfl fun l z W H => ⟨.int .i64 (i : Int), W, Bg.ex_move rfl ((H.base 10 rfl).trans b10), (fun d hd => by cases hd; rfl), ⟨H.s.pre, H.s.one, H.s.app, H.s.fin⟩, fun _ _ h => h⟩
    · exact L3.asked_any rfl fun l z W H => ⟨.slice ao n c, W, Bg.ex_move rfl ((H.base 0 rfl).trans b0), (fun d hd => by cases hd; rfl), ⟨H.s.pre, H.s.one, H.s.app, H.s.fin⟩, fun _ _ h => h⟩
    · refine L3.asked_any rfl fun l z W H => ⟨.int .i64 (n : Int), W, ?_, (fun d hd => by cases hd; rfl), ⟨H.s.pre, H.s.one, H.s.app, H.s.fin⟩, fun _ _ h => h⟩
      have e57 : z.eval (.tmp 57) = .slice ao n c := H.facts 57 rfl
      exact exec_len Try.underlying26 rfl e57
    · refine L3.asked_any rfl fun l z W H => ⟨.int .i64 (x : Int), W, ?_, (fun d hd => by cases hd; rfl), ⟨H.s.pre, H.s.one, H.s.app, H.s.fin⟩, fun _ _ h => h⟩
      have e56 : z.eval (.tmp 56) = .int .i64 (i : Int) := H.facts 56 rfl
      have e58 : z.eval (.tmp 58) = .int .i64 (n : Int) := H.facts 58 rfl
      exact exec_rem rfl e56 e58 hn0 hx
    · exact L3.asked_any rfl fun l z W H => ⟨.slice (some ⟨gf, 0, none⟩) n n, W, Bg.ex_move rfl ((H.base 7 rfl).trans b7), (fun d hd => by cases hd; rfl), ⟨H.s.pre, H.s.one, H.s.app, H.s.fin⟩, fun _ _ h => h⟩
    · exact L3.asked_any rfl fun l z W H => ⟨.int .i64 (i : Int), W, Bg.ex_move rfl ((H.base 10 rfl).trans b10), (fun d hd => by cases hd; rfl), ⟨H.s.pre, H.s.one, H.s.app, H.s.fin⟩, fun _ _ h => h⟩
    · exact L3.asked_any rfl fun l z W H => ⟨.slice ao n c, W, Bg.ex_move rfl ((H.base 0 rfl).trans b0), (fun d hd => by cases hd; rfl), ⟨H.s.pre, H.s.one, H.s.app, H.s.fin⟩, fun _ _ h => h⟩
    · refine L3.asked_any rfl fun l z W H => ⟨.int .i64 (n : Int), W, ?_, (fun d hd => by cases hd; rfl), ⟨H.s.pre, H.s.one, H.s.app, H.s.fin⟩, fun _ _ h => h⟩
      have e62 : z.eval (.tmp 62) = .slice ao n c := H.facts 62 rfl
      exact exec_len Try.underlying26 rfl e62
    · refine L3.asked_any rfl fun l z W H => ⟨.int .i64 (x : Int), W, ?_, (fun d hd => by cases hd; rfl), ⟨H.s.pre, H.s.one, H.s.app, H.s.fin⟩, fun _ _ h => h⟩
      have e61 : z.eval (.tmp 61) = .int .i64 (i : Int) := H.facts 61 rfl
      have e63 : z.eval (.tmp 63) = .int .i64 (n : Int) := H.facts 63 rfl
      exact exec_rem rfl e61 e63 hn0 hx
    · refine L3.asked_any rfl fun l z W H => ⟨.pointer (some ⟨gf, x, none⟩), W, ?_, (fun d hd => by cases hd; rfl), ⟨H.s.pre, H.s.one, H.s.app, H.s.fin⟩, fun _ _ h => h⟩
      have e60 : z.eval (.tmp 60) = .slice (some ⟨gf, 0, none⟩) n n := H.facts 60 rfl
      have e64 : z.eval (.tmp 64) = .int .i64 (x : Int) := H.facts 64 rfl
      (simp only [execOp]; try simp only [Option.map]); (try simp only [List.map_toArray, List.map_cons, List.map_nil]); (simp only [e60, e64]; go_simp)
    · refine L3.asked_any rfl fun l z W H => ⟨Vf x, W, ?_, (fun d hd => by cases hd; rfl), ⟨H.s.pre, H.s.one, H.s.app, H.s.fin⟩, fun _ _ h => h⟩
      have e65 : z.eval (.tmp 65) = .pointer (some ⟨gf, x, none⟩) := H.facts 65 rfl
      have hcell : W.cell? ⟨gf, x, none⟩ = some (Vf x) := hcellW l _ W H.s (dep_in H 16 rfl)
      rw [hvx] at hcell ⊢
      (simp only [execOp]; simp only [e65]; go_simp)
    · exact L3.asked_any rfl fun l z W H => ⟨.int .u8 (by0 : Int), W, Bg.ex_move rfl ((H.base 11 rfl).trans b11), (fun d hd => by cases hd; rfl), ⟨H.s.pre, H.s.one, H.s.app, H.s.fin⟩, fun _ _ h => h⟩
    · refine L3.asked_any rfl fun l z W H => ⟨.int .u8 (y : Int), W, ?_, (fun d hd => by cases hd; rfl), ⟨H.s.pre, H.s.one, H.s.app, H.s.fin⟩, fun _ _ h => h⟩
      have e67 : z.eval (.tmp 67) = .int .u8 (by0 : Int) := H.facts 67 rfl
      exact exec_rem5 rfl e67 rfl hy
    · refine L3.asked_any rfl fun l z W H => ⟨.int .i64 (y : Int), W, ?_, (fun d hd => by cases hd; rfl), ⟨H.s.pre, H.s.one, H.s.app, H.s.fin⟩, fun _ _ h => h⟩
      have e68 : z.eval (.tmp 68) = .int .u8 (y : Int) := H.facts 68 rfl
      exact exec_conv rfl e68 hyl
    · refine L3.asked_any rfl fun l z W H => ?_
      have e69 : z.eval (.tmp 69) = .int .i64 (y : Int) := H.facts 69 rfl
      have hw := H.s.pre H.new
      have n16 : l 16 = false := dep_in H 16 rfl
      have n18 : l 18 = false := dep_in H 18 rfl
      refine ⟨.slice (some ⟨W.heap.size, 0, none⟩) 1 1, W.alloc (.cells #[.int .i64 (y : Int)] 3), ?_, (fun d hd => by cases hd; trivial), ⟨fun h => (by rw [show (upd l 15) 15 = true from rfl] at h; cases h), fun _ _ => ⟨_, rfl, heap_alloc_new W _, bel_of hw (bel1' W _)⟩, fun h => (by rw [show (upd l 15) 16 = l 16 from rfl, n16] at h; cases h), fun h => (by rw [show (upd l 15) 18 = l 18 from rfl, n18] at h; cases h)⟩, fun _ _ h => h⟩
      simp only [execOp, List.map_toArray, List.map_cons, List.map_nil, e69, Sem.run_bind, I.run_one, Result.andThen_ok]
      rfl
    · refine L3.asked_any rfl fun l z W H => ?_
      have e66 : z.eval (.tmp 66) = Vf x := H.facts 66 rfl
      have n18 : l 18 = false := dep_in H 18 rfl
      obtain ⟨h, h1, h2, h3⟩ := H.s.one (H.deps ⟨15, .data⟩ (by simp [Array.mem_def]) rfl) H.new
      have hS := hst.grow h3
      obtain ⟨v', w', r1, r2, r3, r4⟩ := run_snoc W 48 w0.heap.size h (Vf x) (Rf x) (y : Int) (hS.f.row _ hxn) h2 hlen hS.below.size
      have e70 : z.eval (.tmp 70) = .slice (some ⟨h, 0, none⟩) 1 1 := h1
      refine ⟨v', w', ?_, (fun d hd => by cases hd; trivial), ⟨fun h => (by rw [show (upd l 16) 15 = l 15 from rfl, H.deps ⟨15, .data⟩ (by simp [Array.mem_def]) rfl] at h; cases h), fun _ h => (by rw [show (upd l 16) 16 = true from rfl] at h; cases h), fun _ _ => ⟨W, hS, r3, r2, r4⟩, fun h => (by rw [show (upd l 16) 18 = l 18 from rfl, n18] at h; cases h)⟩, fun _ _ h => h⟩
      simp only [execOp, resolve, invoke, builtin, Sem.run_bind, Sem.run_pure, Result.andThen_ok, List.map_toArray, List.map_cons, List.map_nil, e66, e70, r1]
    · refine L3.asked_any rfl fun l z W H => ⟨.pointer (some ⟨gf, x, none⟩), W, ?_, (fun d hd => by cases hd; rfl), ⟨H.s.pre, H.s.one, H.s.app, H.s.fin⟩, fun _ _ h => h⟩
      have e55 : z.eval (.tmp 55) = .slice (some ⟨gf, 0, none⟩) n n := H.facts 55 rfl
      have e59 : z.eval (.tmp 59) = .int .i64 (x : Int) := H.facts 59 rfl
      (simp only [execOp]; try simp only [Option.map]); (try simp only [List.map_toArray, List.map_cons, List.map_nil]); (simp only [e55, e59]; go_simp)
    · refine L3.asked_skip rfl rfl fun l z W H => ?_
      have e72 : z.eval (.tmp 72) = .pointer (some ⟨gf, x, none⟩) := H.facts 72 rfl
      obtain ⟨w4, h1, h2, h3, h4⟩ := H.s.app (H.deps ⟨16, .data⟩ (by simp [Array.mem_def]) rfl) H.new
      obtain ⟨q1, q2, q3⟩ := h1.snoc4 hxn h2 h3 h4
      have h3' : ArgsO w0.heap.size W (z.eval (.tmp 71)) (Rf x ++ [(y : Int)]) := h3
      obtain ⟨av, cv, hav⟩ := h3'.slice
      have q1' : Wst w0 gf gt n (W.setCell ⟨gf, x, none⟩ (z.eval (.tmp 71))) (upV Vf x (z.eval (.tmp 71))) Vt (upV Rf x (Rf x ++ [(y : Int)])) Rt := q1
      refine ⟨W.setCell ⟨gf, x, none⟩ (z.eval (.tmp 71)), ?_, ⟨fun h => (by rw [show (upd l 18) 15 = l 15 from rfl, H.deps ⟨15, .phase⟩ (by simp [Array.mem_def]) rfl] at h; cases h), fun _ h => (by rw [show (upd l 18) 16 = l 16 from rfl, H.deps ⟨16, .data⟩ (by simp [Array.mem_def]) rfl] at h; cases h), fun _ h => (by rw [show (upd l 18) 18 = true from rfl] at h; cases h), fun _ => ⟨_, q1'⟩⟩, fun _ h => h⟩
      rw [hvx] at q2
      rw [hav]
      (simp only [execOp]; simp only [e72, hav]; go_simp)
  · intro l s W hall hS hs
    obtain ⟨v', h1⟩ := hS.fin (hall 18 (by decide))
    exact hend s W v' h1
/-- How far the two tables are. -/
structure M1 (n : Nat) (wa : World) (l : Nat → Bool) (s : Tmp → Value) (W : World) : Prop where
  below : Below wa.heap.size wa W
  a : l 2 = true → ∃ g, s 14 = .slice (some ⟨g, 0, none⟩) n n ∧ wa.heap.size ≤ g ∧ ∀ B, RowsO B g n W (fun _ => .slice none 0 0) (fun _ => [])
  b : l 5 = true → ∃ g, s 17 = .slice (some ⟨g, 0, none⟩) n n ∧ wa.heap.size ≤ g ∧ ∀ B, RowsO B g n W (fun _ => .slice none 0 0) (fun _ => [])
  ne : l 2 = true → l 5 = true → s 14 ≠ s 17
  c : l 6 = true → s 6 = s 14
  d : l 7 = true → s 7 = s 17
def ops_m1 : Array Oper := #[⟨some 12, .move (.tmp 0), 26, "law.go:39", #[], none⟩, ⟨some 13, .call { callee := Callee.builtin Builtin.len, args := #[.tmp 12], argTypes := #[26] }, 3, "law.go:39", #[⟨0, .data⟩], none⟩, ⟨some 14, .makeSlice 30 (.tmp 13) (.tmp 13), 30, "law.go:39", #[⟨1, .data⟩, ⟨1, .data⟩], none⟩, ⟨some 15, .move (.tmp 0), 26, "law.go:39", #[], none⟩, ⟨some 16, .call { callee := Callee.builtin Builtin.len, args := #[.tmp 15], argTypes := #[26] }, 3, "law.go:39", #[⟨3, .data⟩], none⟩, ⟨some 17, .makeSlice 30 (.tmp 16) (.tmp 16), 30, "law.go:39", #[⟨4, .data⟩, ⟨4, .data⟩], none⟩, ⟨some 6, .assign (.tmp 14), 30, "law.go:39", #[⟨2, .data⟩, ⟨0, .phase⟩, ⟨1, .phase⟩, ⟨2, .phase⟩, { on := 3, ground := Ground.textOnly Departure.lateStores }, { on := 4, ground := Ground.textOnly Departure.lateStoresUnsure }, { on := 5, ground := Ground.textOnly Departure.lateStoresUnsure }], none⟩, ⟨some 7, .assign (.tmp 17), 30, "law.go:39", #[⟨5, .data⟩, ⟨6, .chain⟩, ⟨0, .phase⟩, ⟨1, .phase⟩, ⟨2, .phase⟩, ⟨3, .phase⟩, ⟨4, .phase⟩, ⟨5, .phase⟩, ⟨6, .phase⟩], none⟩]
set_option maxHeartbeats 1000000 in
set_option maxRecDepth 100000 in
theorem m1_ok {Q : Exit → Act → World → Prop} {a0 : Act} {wa : World} (n c : Nat) (ao : Option Addr) (hn : n ≤ 1000) (hz : a0.tmps.size = 76) (b0 : a0.eval (.tmp 0) = .slice ao n c)
    (hend : ∀ (s : Tmp → Value) (W : World) (gf gt : Nat), s 6 = .slice (some ⟨gf, 0, none⟩) n n → s 7 = .slice (some ⟨gt, 0, none⟩) n n → gf ≠ gt → wa.heap.size ≤ gf → wa.heap.size ≤ gt → (∀ B, RowsO B gf n W (fun _ => .slice none 0 0) (fun _ => [])) → (∀ B, RowsO B gt n W (fun _ => .slice none 0 0) (fun _ => [])) → Below wa.heap.size wa W → Q .normal (overlay a0 (dstsOf ops_m1) s) W) : (Code.region 1 ops_m1 true).wp Try.prog Q a0 wa := by
  refine L3.wp_region_eachL (by kernel_rfl) (fun _ t v _ => (match t with | 12 => v = .slice ao n c | 13 => v = .int .i64 (n : Int) | 15 => v = .slice ao n c | 16 => v = .int .i64 (n : Int) | _ => True)) (M1 n wa) (by rw [hz]; kernel_rfl) ⟨(Below.refl _ _).drew, fun h => by simp at h, fun h => by simp at h, fun h => by simp at h, fun h => by simp at h, fun h => by simp at h⟩ ?_ ?_
  · refine And.intro ?_ (And.intro ?_ (And.intro ?_ (And.intro ?_ (And.intro ?_ (And.intro ?_ (And.intro ?_ (And.intro ?_ trivial)))))))
    · exact L3.asked_any rfl fun l a W H => ⟨.slice ao n c, W, Bg.ex_move rfl ((H.base 0 rfl).trans b0), (fun d hd => by cases hd; rfl), ⟨H.s.below, H.s.a, H.s.b, H.s.ne, H.s.c, H.s.d⟩, fun _ _ h => h⟩
    · exact L3.asked_any rfl fun l a W H => ⟨.int .i64 (n : Int), W, exec_len Try.underlying26 rfl (H.facts 12 rfl), (fun d hd => by cases hd; rfl), ⟨H.s.below, H.s.a, H.s.b, H.s.ne, H.s.c, H.s.d⟩, fun _ _ h => h⟩
    · refine L3.asked_any rfl fun l a W H => ?_
      have e13 : a.eval (.tmp 13) = .int .i64 (n : Int) := H.facts 13 rfl
      obtain ⟨W', r1, r2, r3⟩ := run_rows W n hn
      have n6 : l 6 = false := dep_in H 6 rfl
      refine ⟨_, W', ?_, fun d hd => by cases hd; trivial, ⟨bel_of H.s.below r3, fun _ => ⟨_, rfl, H.s.below.size, r2⟩, fun h => W1.up (H.s.b h) r3, fun _ h e => W1.lt (H.s.b h) e.symm, fun h => (by rw [show (upd l 2) 6 = l 6 from rfl, n6] at h; cases h), H.s.d⟩, fun _ _ h => h⟩
      simp [execOp, e13, r1]
    · exact L3.asked_any rfl fun l a W H => ⟨.slice ao n c, W, Bg.ex_move rfl ((H.base 0 rfl).trans b0), (fun d hd => by cases hd; rfl), ⟨H.s.below, H.s.a, H.s.b, H.s.ne, H.s.c, H.s.d⟩, fun _ _ h => h⟩
    · exact L3.asked_any rfl fun l a W H => ⟨.int .i64 (n : Int), W, exec_len Try.underlying26 rfl (H.facts 15 rfl), (fun d hd => by cases hd; rfl), ⟨H.s.below, H.s.a, H.s.b, H.s.ne, H.s.c, H.s.d⟩, fun _ _ h => h⟩
    · refine L3.asked_any rfl fun l a W H => ?_
      have e16 : a.eval (.tmp 16) = .int .i64 (n : Int) := H.facts 16 rfl
      obtain ⟨W', r1, r2, r3⟩ := run_rows W n hn
      have n7 : l 7 = false := dep_in H 7 rfl
      refine ⟨_, W', ?_, fun d hd => by cases hd; trivial, ⟨bel_of H.s.below r3, fun h => W1.up (H.s.a h) r3, fun _ => ⟨_, rfl, H.s.below.size, r2⟩, fun h _ e => W1.lt (H.s.a h) e, H.s.c, fun h => (by rw [show (upd l 5) 7 = l 7 from rfl, n7] at h; cases h)⟩, fun _ _ h => h⟩
      simp [execOp, e16, r1]
    · refine L3.asked_any rfl fun l a W H => ⟨a.eval (.tmp 14), W, Bg.ex_assign rfl rfl, fun d hd => by cases hd; trivial, ⟨H.s.below, H.s.a, H.s.b, H.s.ne, fun _ => rfl, H.s.d⟩, fun _ _ h => h⟩
    · refine L3.asked_any rfl fun l a W H => ⟨a.eval (.tmp 17), W, Bg.ex_assign rfl rfl, fun d hd => by cases hd; trivial, ⟨H.s.below, H.s.a, H.s.b, H.s.ne, H.s.c, fun _ => rfl⟩, fun _ _ h => h⟩
  · intro l s W hall hS hs
    obtain ⟨gf, f1, f2, f3⟩ := hS.a (hall 2 (by decide))
    obtain ⟨gt, t1, t2, t3⟩ := hS.b (hall 5 (by decide))
    refine hend s W gf gt ((hS.c (hall 6 (by decide))).trans f1) ((hS.d (hall 7 (by decide))).trans t1) (fun e => hS.ne (hall 2 (by decide)) (hall 5 (by decide)) ?_) f2 t2 f3 t3 hS.below
    rw [f1, t1, e]
end Go.Proofs.Ytblcbccchlljhaa
