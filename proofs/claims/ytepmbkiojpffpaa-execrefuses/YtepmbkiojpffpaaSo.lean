/- The document's SameOutputs: of two that read alike it answers true. -/
import Derived.Test.YtepmbkiojpffpaaRr
import Derived.BigRegion
import Derived.ChangeKeysEq
namespace Go.Proofs.Ytepmbkiojpffpaa
open Go.RowKit Ir

theorem plain2 : Try.prog.plainKey 2 = true := by kernel_rfl
theorem cells2 : Try.prog.cellsOf 2 = 1 := by kernel_rfl
theorem size35 : (Try.prog.info? 35).map (·.size) = some 64 := by kernel_rfl
theorem eqItems_same (d : Nat) (xs : List Int) (w : World) : ∀ is : List Nat, (∀ i ∈ is, i < xs.length) → (Op.eqItems (d + 1) 2 1 (nums xs).toArray (nums xs).toArray is).run Try.prog w = .ok true w
  | [], _ => rfl
  | i :: is, h => by
    have hx : ((nums xs).toArray)[i * 1]? = some (.int .i64 (xs.getD i 0)) := by
      rw [Nat.mul_one]
      simpa using nums_get (h i (by simp))
    have hp := run_part_plain (P := Try.prog) w plain2 hx
    have hi := run_equalIn_int (P := Try.prog) w d 2 .i64 .i64 (xs.getD i 0) (xs.getD i 0) Try.underlying2
    unfold Op.eqItems
    simp only [Sem.run_bind, hp, Result.andThen_ok, hi, beq_self_eq_true, Bool.not_true, Bool.false_eq_true, if_false]
    exact eqItems_same d xs w is fun j hj => h j (by simp [hj])
theorem eq35 (xs : List Int) (h : xs.length = 64) (w : World) : (Op.equalIn 10000 35 (.agg (nums xs).toArray) (.agg (nums xs).toArray)).run Try.prog w = .ok true w := by
  obtain ⟨i, hi, _⟩ := info_parts info2
  rw [show (10000 : Nat) = 9999 + 1 from rfl, run_equalIn_array w 9999 _ _ Try.underlying35 hi, cells2]
  exact eqItems_same 9998 xs w _ fun j hj => by simp at hj; omega
section
variable {ops : Array Oper} {rest : List Oper} {o : Oper} {a : Act} {w : World} {Q : Exit → Act → World → Prop}
theorem wpList_isG {v : Value} {w' : World} (hw : Region.wanted o (yielded ops a.tmps) = true) (h : (execOp a.eval o).run Try.prog w = .ok (.value v) w') (hK : wpList Try.prog ops Q rest (a.put o.dst v) w') : wpList Try.prog ops Q (o :: rest) a w := by
  simp only [wpList, hw, if_true]
  left
  unfold Oper.wp
  rw [h]
  exact hK
theorem wpList_load35 (hw : Region.wanted o (yielded ops a.tmps) = true) (x : Operand) (ho : o.op = .load 35 x) (b off : Nat) (hx : a.eval x = .pointer (some ⟨b, off, none⟩)) (cs : List Value) (hc : w.rangeAt b off cs) (hl : cs.length = 64) (hK : wpList Try.prog ops Q rest (a.put o.dst (.agg cs.toArray)) w) : wpList Try.prog ops Q (o :: rest) a w := by
  refine wpList_isG hw ?_ hK
  unfold execOp
  simp only [ho, hx, run_loadAt_mid w b off 35 cs _ hc Try.underlying35 rfl (by rw [hl]; exact size35), Sem.run_bind, Sem.run_pure, Result.andThen_ok]
set_option maxRecDepth 100000 in
theorem wpList_neq35 (hw : Region.wanted o (yielded ops a.tmps) = true) (x y : Operand) (t : TypeId) (ho : o.op = .binOp .neq 35 x y t) (m : List Int) (hm : m.length = 64) (hx : a.eval x = .agg (nums m).toArray) (hy : a.eval y = .agg (nums m).toArray) (hK : wpList Try.prog ops Q rest (a.put o.dst (.bool false)) w) : wpList Try.prog ops Q (o :: rest) a w := by
  refine wpList_isG hw ?_ hK
  have h : (binOp .neq 35 (.agg (nums m).toArray) (.agg (nums m).toArray)).run Try.prog w = .ok (.bool false) w := by
    simp [binOp, Op.equal, Op.maxDepth, eq35 m hm w]
  have hg : (eqGuard .neq 35 x y (.agg (nums m).toArray) (.agg (nums m).toArray)).run Try.prog w = .ok () w := by
    simp [eqGuard]
  unfold execOp
  simp only [ho, hx, hy, Sem.run_bind, hg, h, Result.andThen_ok, Sem.run_pure]
end
def ops_so12_ok : Array Oper := #[⟨some 82, .fieldAddr 75 (.tmp 6) 1, 0, "ref.go:264", #[], none⟩, ⟨some 83, .load 25 (.tmp 82), 25, "ref.go:264", #[⟨0, .data⟩], none⟩, ⟨some 84, .move (.tmp 8), 3, "ref.go:264", #[], none⟩, ⟨some 85, .indexAddr 25 (.tmp 83) (.tmp 84), 0, "ref.go:264", #[⟨1, .data⟩, ⟨2, .data⟩], none⟩, ⟨some 86, .load 2 (.tmp 85), 2, "ref.go:264", #[⟨3, .data⟩], none⟩, ⟨some 87, .fieldAddr 75 (.tmp 7) 1, 0, "ref.go:264", #[], none⟩, ⟨some 88, .load 25 (.tmp 87), 25, "ref.go:264", #[⟨5, .data⟩], none⟩, ⟨some 89, .move (.tmp 8), 3, "ref.go:264", #[], none⟩, ⟨some 90, .indexAddr 25 (.tmp 88) (.tmp 89), 0, "ref.go:264", #[⟨6, .data⟩, ⟨7, .data⟩], none⟩, ⟨some 91, .load 2 (.tmp 90), 2, "ref.go:264", #[⟨8, .data⟩], none⟩, ⟨some 92, .binOp .neq 2 (.tmp 86) (.tmp 91) 2, 4, "ref.go:264", #[⟨4, .data⟩, ⟨9, .data⟩], none⟩]
/-- What is known of each temporary. -/
def G_so12_ok (gx gy xa xo ya yo m xc yc k : Nat) (x : Int) : Tmp → Value → World → Prop
  | 82, xx, _ => xx = .pointer (some ⟨gx, 1, none⟩)
  | 83, xx, _ => xx = .slice (some ⟨xa, xo, none⟩) m xc
  | 84, xx, _ => xx = .int .i64 (k : Nat)
  | 85, xx, _ => xx = .pointer (some ⟨xa, xo + k, none⟩)
  | 86, xx, _ => xx = .int .i64 x
  | 87, xx, _ => xx = .pointer (some ⟨gy, 1, none⟩)
  | 88, xx, _ => xx = .slice (some ⟨ya, yo, none⟩) m yc
  | 89, xx, _ => xx = .int .i64 (k : Nat)
  | 90, xx, _ => xx = .pointer (some ⟨ya, yo + k, none⟩)
  | 91, xx, _ => xx = .int .i64 x
  | 92, xx, _ => xx = .bool false
  | _, _, _ => True
set_option maxHeartbeats 1000000 in
set_option maxRecDepth 100000 in
theorem so12_ok {Q : Exit → Act → World → Prop} {a0 : Act} {wa : World} {gx gy xa xo ya yo m xc yc k : Nat} {x : Int} (hz : a0.tmps.size = 93) (b6 : a0.eval (.tmp 6) = .pointer (some ⟨gx, 0, none⟩)) (b7 : a0.eval (.tmp 7) = .pointer (some ⟨gy, 0, none⟩)) (b8 : a0.eval (.tmp 8) = .int .i64 (k : Nat))
    (m1 : wa.cell? ⟨gx, 1, none⟩ = some (.slice (some ⟨xa, xo, none⟩) m xc)) (m2 : wa.cell? ⟨gy, 1, none⟩ = some (.slice (some ⟨ya, yo, none⟩) m yc)) (p1 : wa.cell? ⟨xa, xo + k, none⟩ = some (.int .i64 x)) (p2 : wa.cell? ⟨ya, yo + k, none⟩ = some (.int .i64 x))  (hk : (k : Int) < (m : Int))
    (hend : ∀ s : Tmp → Value, s 92 = .bool false → Q .normal (overlay a0 (dstsOf ops_so12_ok) s) wa.drew) : (Code.region 12 ops_so12_ok true).wp Try.prog Q a0 wa := by
  have m1 : wa.drew.cell? ⟨gx, 1, none⟩ = some (.slice (some ⟨xa, xo, none⟩) m xc) := m1
  have m2 : wa.drew.cell? ⟨gy, 1, none⟩ = some (.slice (some ⟨ya, yo, none⟩) m yc) := m2
  have p1 : wa.drew.cell? ⟨xa, xo + k, none⟩ = some (.int .i64 x) := p1
  have p2 : wa.drew.cell? ⟨ya, yo + k, none⟩ = some (.int .i64 x) := p2
  refine L.wp_region_eachL (by kernel_rfl) (fun _ tt yv _ => G_so12_ok gx gy xa xo ya yo m xc yc k x tt yv wa) (fun l W => W = wa.drew) (by rw [hz]; kernel_rfl) rfl ?_ ?_
  · refine And.intro ?_ (And.intro ?_ (And.intro ?_ (And.intro ?_ (And.intro ?_ (And.intro ?_ (And.intro ?_ (And.intro ?_ (And.intro ?_ (And.intro ?_ (And.intro ?_ trivial))))))))))
    · refine L.asked_pure rfl rfl (fun _ _ h => h) (fun _ _ _ _ _ h => h) (fun _ _ _ => rfl) (fun l a W H => ?_)
      have e6 : a.eval (.tmp 6) = .pointer (some ⟨gx, 0, none⟩) := (H.base 6 rfl).trans b6
      (simp only [execOp]; try simp only [Option.map]); (try simp only [List.map_toArray, List.map_cons, List.map_nil]); (simp only [e6]; go_simp)
      all_goals (try first | go_num | omega | (rw [IntKind.wrap_i64]; omega) | (rw [IntKind.wrap_u8]; omega))
    · refine L.asked_pure rfl rfl (fun _ _ h => h) (fun _ _ _ _ _ h => h) (fun _ _ _ => rfl) (fun l a W H => ?_)
      have hW : wa.drew = W := Eq.symm H.s
      subst hW
      have e82 : a.eval (.tmp 82) = .pointer (some ⟨gx, 1, none⟩) := H.facts 82 rfl
      (simp only [execOp]; try simp only [Option.map]); (try simp only [List.map_toArray, List.map_cons, List.map_nil]); (simp only [e82]; go_simp)
      all_goals (try first | go_num | omega | (rw [IntKind.wrap_i64]; omega) | (rw [IntKind.wrap_u8]; omega))
    · refine L.asked_pure rfl rfl (fun _ _ h => h) (fun _ _ _ _ _ h => h) (fun _ _ _ => rfl) (fun l a W H => ?_)
      have e8 : a.eval (.tmp 8) = .int .i64 (k : Nat) := (H.base 8 rfl).trans b8
      exact run_move rfl e8
    · refine L.asked_pure rfl rfl (fun _ _ h => h) (fun _ _ _ _ _ h => h) (fun _ _ _ => rfl) (fun l a W H => ?_)
      have e83 : a.eval (.tmp 83) = .slice (some ⟨xa, xo, none⟩) m xc := H.facts 83 rfl
      have e84 : a.eval (.tmp 84) = .int .i64 (k : Nat) := H.facts 84 rfl
      (simp only [execOp]; try simp only [Option.map]); (try simp only [List.map_toArray, List.map_cons, List.map_nil]); (simp only [e83, e84]; go_simp)
      all_goals (try first | go_num | omega | (rw [IntKind.wrap_i64]; omega) | (rw [IntKind.wrap_u8]; omega))
    · refine L.asked_pure rfl rfl (fun _ _ h => h) (fun _ _ _ _ _ h => h) (fun _ _ _ => rfl) (fun l a W H => ?_)
      have hW : wa.drew = W := Eq.symm H.s
      subst hW
      have e85 : a.eval (.tmp 85) = .pointer (some ⟨xa, xo + k, none⟩) := H.facts 85 rfl
      (simp only [execOp]; try simp only [Option.map]); (try simp only [List.map_toArray, List.map_cons, List.map_nil]); (simp only [e85]; go_simp)
      all_goals (try first | go_num | omega | (rw [IntKind.wrap_i64]; omega) | (rw [IntKind.wrap_u8]; omega))
    · refine L.asked_pure rfl rfl (fun _ _ h => h) (fun _ _ _ _ _ h => h) (fun _ _ _ => rfl) (fun l a W H => ?_)
      have e7 : a.eval (.tmp 7) = .pointer (some ⟨gy, 0, none⟩) := (H.base 7 rfl).trans b7
      (simp only [execOp]; try simp only [Option.map]); (try simp only [List.map_toArray, List.map_cons, List.map_nil]); (simp only [e7]; go_simp)
      all_goals (try first | go_num | omega | (rw [IntKind.wrap_i64]; omega) | (rw [IntKind.wrap_u8]; omega))
    · refine L.asked_pure rfl rfl (fun _ _ h => h) (fun _ _ _ _ _ h => h) (fun _ _ _ => rfl) (fun l a W H => ?_)
      have hW : wa.drew = W := Eq.symm H.s
      subst hW
      have e87 : a.eval (.tmp 87) = .pointer (some ⟨gy, 1, none⟩) := H.facts 87 rfl
      (simp only [execOp]; try simp only [Option.map]); (try simp only [List.map_toArray, List.map_cons, List.map_nil]); (simp only [e87]; go_simp)
      all_goals (try first | go_num | omega | (rw [IntKind.wrap_i64]; omega) | (rw [IntKind.wrap_u8]; omega))
    · refine L.asked_pure rfl rfl (fun _ _ h => h) (fun _ _ _ _ _ h => h) (fun _ _ _ => rfl) (fun l a W H => ?_)
      have e8 : a.eval (.tmp 8) = .int .i64 (k : Nat) := (H.base 8 rfl).trans b8
      exact run_move rfl e8
    · refine L.asked_pure rfl rfl (fun _ _ h => h) (fun _ _ _ _ _ h => h) (fun _ _ _ => rfl) (fun l a W H => ?_)
      have e88 : a.eval (.tmp 88) = .slice (some ⟨ya, yo, none⟩) m yc := H.facts 88 rfl
      have e89 : a.eval (.tmp 89) = .int .i64 (k : Nat) := H.facts 89 rfl
      (simp only [execOp]; try simp only [Option.map]); (try simp only [List.map_toArray, List.map_cons, List.map_nil]); (simp only [e88, e89]; go_simp)
      all_goals (try first | go_num | omega | (rw [IntKind.wrap_i64]; omega) | (rw [IntKind.wrap_u8]; omega))
    · refine L.asked_pure rfl rfl (fun _ _ h => h) (fun _ _ _ _ _ h => h) (fun _ _ _ => rfl) (fun l a W H => ?_)
      have hW : wa.drew = W := Eq.symm H.s
      subst hW
      have e90 : a.eval (.tmp 90) = .pointer (some ⟨ya, yo + k, none⟩) := H.facts 90 rfl
      (simp only [execOp]; try simp only [Option.map]); (try simp only [List.map_toArray, List.map_cons, List.map_nil]); (simp only [e90]; go_simp)
      all_goals (try first | go_num | omega | (rw [IntKind.wrap_i64]; omega) | (rw [IntKind.wrap_u8]; omega))
    · refine L.asked_pure rfl rfl (fun _ _ h => h) (fun _ _ _ _ _ h => h) (fun _ _ _ => rfl) (fun l a W H => ?_)
      have e86 : a.eval (.tmp 86) = .int .i64 x := H.facts 86 rfl
      have e91 : a.eval (.tmp 91) = .int .i64 x := H.facts 91 rfl
      (simp only [execOp]; try simp only [Option.map]); (try simp only [List.map_toArray, List.map_cons, List.map_nil]); (simp only [e86, e91]; go_simp)
      all_goals (try first | go_num | omega | (rw [IntKind.wrap_i64]; omega) | (rw [IntKind.wrap_u8]; omega))
  · intro l s W hall hS hs
    have hS := Eq.symm hS
    subst hS
    exact hend s (hs 92 rfl)


theorem two_boxes (wo : World) (p q r s : Value) (t : TypeId) : ((wo.alloc (.cells #[p, q] t)).alloc (.cells #[r, s] t)).drew.cell? ⟨wo.heap.size, 0, none⟩ = some p ∧ ((wo.alloc (.cells #[p, q] t)).alloc (.cells #[r, s] t)).drew.cell? ⟨wo.heap.size, 1, none⟩ = some q ∧ ((wo.alloc (.cells #[p, q] t)).alloc (.cells #[r, s] t)).drew.cell? ⟨wo.heap.size + 1, 0, none⟩ = some r ∧ ((wo.alloc (.cells #[p, q] t)).alloc (.cells #[r, s] t)).drew.cell? ⟨wo.heap.size + 1, 1, none⟩ = some s ∧ Below wo.heap.size wo ((wo.alloc (.cells #[p, q] t)).alloc (.cells #[r, s] t)).drew := by
  have h1 : ((wo.alloc (.cells #[p, q] t)).alloc (.cells #[r, s] t)).heap[wo.heap.size]? = some (Obj.cells #[p, q] t (0, 0)) := ((bel1' _ _).block _ (by simp)).trans (heap_alloc_new wo _)
  have h2 : ((wo.alloc (.cells #[p, q] t)).alloc (.cells #[r, s] t)).heap[wo.heap.size + 1]? = some (Obj.cells #[r, s] t (0, 0)) := by
    have := heap_alloc_new (wo.alloc (.cells #[p, q] t)) (.cells #[r, s] t)
    rwa [show (wo.alloc (.cells #[p, q] t)).heap.size = wo.heap.size + 1 by simp] at this
  refine ⟨?_, ?_, ?_, ?_, (bel2' wo _ _).drew⟩
  · exact (cell_of_row _ _ 0 _ _ _ h1).trans rfl
  · exact (cell_of_row _ _ 1 _ _ _ h1).trans rfl
  · exact (cell_of_row _ _ 0 _ _ _ h2).trans rfl
  · exact (cell_of_row _ _ 1 _ _ _ h2).trans rfl
set_option maxHeartbeats 8000000 in
set_option maxRecDepth 100000 in
theorem same_any (o : Out) (va vb : Value) (w : World) (ha : OutV w va o) (hb : OutV w vb o) : Calls Try.prog 11 #[va, vb] w fun e w' => e = .returned (.bool true) ∧ Below w.heap.size w w' := by
  obtain ⟨ca, rfl, hca, hm⟩ := ha
  obtain ⟨cb, rfl, hcb, _⟩ := hb
  obtain ⟨aa, ac, rfl⟩ := hca.slice
  obtain ⟨ba, bc, rfl⟩ := hcb.slice
  obtain ⟨A, hA⟩ : ∃ A, A = (outL o.how o.val (.slice aa o.calls.length ac) o.mem o.left).toArray := ⟨_, rfl⟩
  obtain ⟨B, hB⟩ : ∃ B, B = (outL o.how o.val (.slice ba o.calls.length bc) o.mem o.left).toArray := ⟨_, rfl⟩
  rw [← hA, ← hB]
  have hrA : ((w.alloc (.cells A 37)).alloc (.cells B 37)).heap[w.heap.size]? = some (Obj.cells A 37 (0, 0)) := ((bel1' (w.alloc (.cells A 37)) (.cells B 37)).block _ (by simp)).trans (heap_alloc_new w _)
  have hrB : ((w.alloc (.cells A 37)).alloc (.cells B 37)).heap[w.heap.size + 1]? = some (Obj.cells B 37 (0, 0)) := by
    have := heap_alloc_new (w.alloc (.cells A 37)) (.cells B 37)
    rwa [show (w.alloc (.cells A 37)).heap.size = w.heap.size + 1 by simp] at this
  have cA : ∀ j v, (outL o.how o.val (.slice aa o.calls.length ac) o.mem o.left)[j]? = some v → ((w.alloc (.cells A 37)).alloc (.cells B 37)).cell? ⟨w.heap.size, j, none⟩ = some v := fun j v h => by
    rw [cell_of_row _ _ _ _ _ _ hrA, hA]
    simpa using h
  have cB : ∀ j v, (outL o.how o.val (.slice ba o.calls.length bc) o.mem o.left)[j]? = some v → ((w.alloc (.cells A 37)).alloc (.cells B 37)).cell? ⟨w.heap.size + 1, j, none⟩ = some v := fun j v h => by
    rw [cell_of_row _ _ _ _ _ _ hrB, hB]
    simpa using h
  have a0 := cA 0 _ rfl
  have a1 := cA 1 _ rfl
  have a2 := cA 2 _ rfl
  have a67 := cA 67 _ (outL_left hm)
  have b0 := cB 0 _ rfl
  have b1 := cB 1 _ rfl
  have b2 := cB 2 _ rfl
  have b67 := cB 67 _ (outL_left hm)
  have hra : ((w.alloc (.cells A 37)).alloc (.cells B 37)).rangeAt w.heap.size 3 (nums o.mem) := fun j v hj => by
    have hj2 : j < o.mem.length := by have := (List.getElem?_eq_some_iff.1 hj).1; rwa [nums_len] at this
    refine cA _ _ ?_
    rw [outL_mem hj2, ← hj, nums_get hj2]
  have hrb : ((w.alloc (.cells A 37)).alloc (.cells B 37)).rangeAt (w.heap.size + 1) 3 (nums o.mem) := fun j v hj => by
    have hj2 : j < o.mem.length := by have := (List.getElem?_eq_some_iff.1 hj).1; rwa [nums_len] at this
    refine cB _ _ ?_
    rw [outL_mem hj2, ← hj, nums_get hj2]
  have hml : (nums o.mem).length = 64 := by rw [nums_len]; exact hm
  have HRA := hide (And.intro hra (And.intro hrb (And.intro hml hm)))
  have hBB : Below w.heap.size w ((w.alloc (.cells A 37)).alloc (.cells B 37)) := bel2' w _ _
  have HCA := hide (hca.below hBB)
  have HCB := hide (hcb.below hBB)
  have HBB := hide hBB
  have hlm := SlV.len_le hca
  have hlm2 : (o.calls.length : Int) ≤ 9223372036854775807 := by unfold maxLen at hlm; omega
  generalize hM : nums o.mem = M at *
  have HM := hide hM
  clear hca hcb hrA hrB cA cB hA hB hra hrb hml hBB hM hlm hm
  go_enter Try.func11, Try.ntmps11
  go_wp2_with (first | (refine wpList_load35 rfl (.tmp 22) rfl w.heap.size 3 rfl M HRA.out.1 HRA.out.2.2.1 ?_) | (refine wpList_load35 rfl (.tmp 24) rfl (w.heap.size + 1) 3 rfl M HRA.out.2.1 HRA.out.2.2.1 ?_) | (refine wpList_neq35 rfl (.tmp 23) (.tmp 25) 35 rfl o.mem HRA.out.2.2.2 (by rw [HM.out]; rfl) (by rw [HM.out]; rfl) ?_))
  generalize (w.alloc (.cells A 37)).alloc (.cells B 37) = W2 at *
  generalize hga : w.heap.size = ga at *
  have HGA := hide hga
  clear hga
  generalize ga + 1 = gb at *
  go_loopw [5] (fun iv wr => ∃ j : Nat, j ≤ o.calls.length ∧ iv = .int .i64 j ∧ Below W2.heap.size W2 wr) (fun iv _ => o.calls.length - (intOf iv).toNat)
  case atStart => exact ⟨0, by omega, rfl, Below.refl _ _⟩
  case round =>
    obtain ⟨j, hj, rfl, hBr⟩ := hrel
    rename World => wo
    have x2 := cell_below hBr a2
    have y2 := cell_below hBr b2
    by_cases hlt : j < o.calls.length
    · obtain ⟨xb, xo, rfl, ux, c0, c1, hux⟩ := SlV.at (HCA.out.below hBr) j hlt
      obtain ⟨yb, yo, rfl, uy, d0, d1, huy⟩ := SlV.at (HCB.out.below hBr) j hlt
      have hlt' : (j : Int) < (o.calls.length : Int) := by omega
      generalize o.calls.getD j Cl.zero = c at *
      obtain ⟨nn, args⟩ := c
      simp only at c0 c1 hux d0 d1 huy
      obtain ⟨xa, xc, rfl⟩ := hux.slice
      obtain ⟨ya, yc, rfl⟩ := huy.slice
      have hal := SlV.len_le hux
      have hal2 : (args.length : Int) ≤ 9223372036854775807 := by unfold maxLen at hal; omega
      have HUX := hide hux
      have HUY := hide huy
      have HBR := hide hBr
      have x2a := fun o => cell_below (bel1' wo o) x2
      have x2b := fun o o' => cell_below (bel2' wo o o') x2
      have y2a := fun o => cell_below (bel1' wo o) y2
      have y2b := fun o o' => cell_below (bel2' wo o o') y2
      have c0a := fun o => cell_below (bel1' wo o) c0
      have c0b := fun o o' => cell_below (bel2' wo o o') c0
      have c1a := fun o => cell_below (bel1' wo o) c1
      have c1b := fun o o' => cell_below (bel2' wo o o') c1
      have d0a := fun o => cell_below (bel1' wo o) d0
      have d0b := fun o o' => cell_below (bel2' wo o o') d0
      have d1a := fun o => cell_below (bel1' wo o) d1
      have d1b := fun o o' => cell_below (bel2' wo o o') d1
      clear hux huy hBr hal a0 a1 a2 a67 b0 b1 b2 b67 HRA HM
      go_wp2_with fail
      go_region
      · clear x2a x2b y2a y2b c0a c0b c1a c1b d0a d0b d1a d1b x2 y2 c0 c1 d0 d1
        obtain ⟨gx0, gx1, gy0, gy1, hB3⟩ := two_boxes wo (.int .i64 nn) (.slice xa args.length xc) (.int .i64 nn) (.slice ya args.length yc) 75
        generalize ((wo.alloc (.cells #[.int .i64 nn, .slice xa args.length xc] 75)).alloc (.cells #[.int .i64 nn, .slice ya args.length yc] 75)).drew = W3 at *
        have hux := HUX.out.below hB3
        have huy := HUY.out.below hB3
        have HB3 := hide (bel_of HBR.out hB3)
        generalize hgx : wo.heap.size + 1 = gy at *
        generalize hgy : wo.heap.size = gx at *
        have HUX3 := hide hux
        have HUY3 := hide huy
        clear hux huy hB3 HUX HUY hgx hgy
        go_wp2_with fail
        go_loopw [8] (fun iv wr => ∃ k : Nat, k ≤ args.length ∧ iv = .int .i64 k ∧ Below W3.heap.size W3 wr) (fun iv _ => args.length - (intOf iv).toNat)
        case atStart => exact ⟨0, by omega, rfl, Below.refl _ _⟩
        case round =>
          obtain ⟨k, hk, rfl, hBk⟩ := hrel
          rename World => wi
          have gx1k := cell_below hBk gx1
          have gy1k := cell_below hBk gy1
          by_cases hlk : k < args.length
          · obtain ⟨xp, xq, rfl, e1⟩ := IntsV.at (HUX3.out.below hBk) k hlk
            obtain ⟨yp, yq, rfl, e2⟩ := IntsV.at (HUY3.out.below hBk) k hlk
            have hlk' : (k : Int) < (args.length : Int) := by omega
            generalize args.getD k 0 = xx at e1 e2
            have HBK := hide hBk
            have HE := hide (And.intro gx1k (And.intro gy1k (And.intro e1 e2)))
            clear e1 e2 hBk gy1k
            go_wp2_with fail
            refine so12_ok (gx := gx) (gy := gy) (m := args.length) rfl rfl rfl rfl HE.out.1 HE.out.2.1 HE.out.2.2.1 HE.out.2.2.2 hlk' ?_
            intro q hq
            simp [overlay, dstsOf, ops_so12_ok, hq]
            go_wp2_with fail
            go_roundw
            case rel => exact ⟨k + 1, by omega, by go_num, HBK.out.drew⟩
            case measure => simp [intOf]; omega
          · obtain rfl : k = args.length := by omega
            have HBK := hide (bel_of HB3.out hBk)
            clear hBk gy1k
            go_wp2_with fail
            go_roundw
            case rel => exact ⟨j + 1, by omega, by go_num, HBK.out⟩
            case measure => simp [intOf]; omega
      · clear x2a x2b y2a y2b c0a c0b c1a c1b d0a d0b d1a d1b x2 y2 c0 c1 d0 d1
        obtain ⟨gy0, gy1, gx0, gx1, hB3⟩ := two_boxes wo (.int .i64 nn) (.slice ya args.length yc) (.int .i64 nn) (.slice xa args.length xc) 75
        generalize ((wo.alloc (.cells #[.int .i64 nn, .slice ya args.length yc] 75)).alloc (.cells #[.int .i64 nn, .slice xa args.length xc] 75)).drew = W3 at *
        have hux := HUX.out.below hB3
        have huy := HUY.out.below hB3
        have HB3 := hide (bel_of HBR.out hB3)
        generalize hgx : wo.heap.size + 1 = gx at *
        generalize hgy : wo.heap.size = gy at *
        have HUX3 := hide hux
        have HUY3 := hide huy
        clear hux huy hB3 HUX HUY hgx hgy
        go_wp2_with fail
        go_loopw [8] (fun iv wr => ∃ k : Nat, k ≤ args.length ∧ iv = .int .i64 k ∧ Below W3.heap.size W3 wr) (fun iv _ => args.length - (intOf iv).toNat)
        case atStart => exact ⟨0, by omega, rfl, Below.refl _ _⟩
        case round =>
          obtain ⟨k, hk, rfl, hBk⟩ := hrel
          rename World => wi
          have gx1k := cell_below hBk gx1
          have gy1k := cell_below hBk gy1
          by_cases hlk : k < args.length
          · obtain ⟨xp, xq, rfl, e1⟩ := IntsV.at (HUX3.out.below hBk) k hlk
            obtain ⟨yp, yq, rfl, e2⟩ := IntsV.at (HUY3.out.below hBk) k hlk
            have hlk' : (k : Int) < (args.length : Int) := by omega
            generalize args.getD k 0 = xx at e1 e2
            have HBK := hide hBk
            have HE := hide (And.intro gx1k (And.intro gy1k (And.intro e1 e2)))
            clear e1 e2 hBk gy1k
            go_wp2_with fail
            refine so12_ok (gx := gx) (gy := gy) (m := args.length) rfl rfl rfl rfl HE.out.1 HE.out.2.1 HE.out.2.2.1 HE.out.2.2.2 hlk' ?_
            intro q hq
            simp [overlay, dstsOf, ops_so12_ok, hq]
            go_wp2_with fail
            go_roundw
            case rel => exact ⟨k + 1, by omega, by go_num, HBK.out.drew⟩
            case measure => simp [intOf]; omega
          · obtain rfl : k = args.length := by omega
            have HBK := hide (bel_of HB3.out hBk)
            clear hBk gy1k
            go_wp2_with fail
            go_roundw
            case rel => exact ⟨j + 1, by omega, by go_num, HBK.out⟩
            case measure => simp [intOf]; omega
    · obtain rfl : j = o.calls.length := by omega
      have hBB : Below w.heap.size w W2 := by rw [HGA.out]; exact HBB.out
      have HBF := hide (bel_of hBB hBr)
      clear hBr
      go_wp2_with fail
      go_ret
      exact ⟨rfl, HBF.out⟩
end Go.Proofs.Ytepmbkiojpffpaa
