/- Pairs of strings as keys; queues of them: what they hold. -/
import Derived.Test.YtdeebmpmfedjbaaDoorQu
import Derived.DeepKeys4
import Derived.Test.YtdeebmpmfedjbaaDoorEq
namespace Go.Proofs.YtdeebmpmfedjbaaDoor
open Go.RowKit Bag Go.Maps Go.WideMaps
theorem laidOut60 : laidOutB Tryd.prog = true := by kernel_rfl
theorem row60 : (60 : TypeId) < Tryd.prog.types.size := of_decide_eq_true (by kernel_rfl)
theorem wide60 : (match Tryd.prog.underlying 60 with | some (.array _ _) | some (.struct _) => true | _ => false) = true := by kernel_rfl
theorem keyType60 : Tryd.prog.keyType 60 = true := by kernel_rfl
set_option maxRecDepth 100000 in
theorem key60 : Keyed Tryd.prog 60 := Keyed.of_law (deep_law_laid laidOut60 (m := 2) (by omega) row60 (by kernel_rfl) wide60)
theorem cells60 : Tryd.prog.cellsOf 60 = 2 := by kernel_rfl
theorem cells9 : Tryd.prog.cellsOf 9 = 1 := by kernel_rfl
theorem types2 : ∃ n, Tryd.prog.types.size = n + 2 := ⟨Tryd.prog.types.size - 2, by have : 60 < Tryd.prog.types.size := row60; omega⟩
def pv.kx2 : ByteArray := ⟨#[120]⟩
/-- A pair as a value. -/
def pv (k : ByteArray) : Value := .agg #[.string k, .string pv.kx2]
/-- .. and as a key. -/
def lp (k : ByteArray) : Lit := .string (keyBytes [.string k.data.toList, .string [120]])
theorem lp_key {k : ByteArray} (h : k.size ≤ maxLen) : keyOf Tryd.prog 60 (pv k) = some (lp k) := by
  obtain ⟨n, hn⟩ := types2
  have hx : (⟨#[120]⟩ : ByteArray).size ≤ maxLen := by decide
  have e9 : ∀ s : ByteArray, s.size ≤ maxLen → Tryd.prog.keyLits (n + 1 + 1) 9 [.string s] = some [.string s.data.toList] := fun s hs => by
    simp [Program.keyLits, Tryd.underlying9, hs]
  have e60 : Tryd.prog.keyLits (n + 1 + 1 + 1) 60 [.string k, .string ⟨#[120]⟩] = some [.string k.data.toList, .string [120]] := by
    unfold Program.keyLits
    simp only [Tryd.underlying60, cells60, cells9]
    simp [List.range, List.range.loop, e9 k h, e9 ⟨#[120]⟩ hx]
  unfold keyOf
  simp only [Tryd.underlying60, keyType60, hn, pv, pv.kx2]
  simp [Value.formed, Tryd.underlying60, cells60, Value.cells, e60, lp]
theorem lp_inj {a b : ByteArray} (ha : a.size ≤ maxLen) (hb : b.size ≤ maxLen) (h : lp a = lp b) : a = b := by
  have := key60.inj (lp_key ha) (by rw [h]; exact lp_key hb)
  simpa [pv] using this
theorem plain9 : Tryd.prog.plainKey 9 = true := by kernel_rfl
/-- Equal pairs are equal. -/
theorem eq60 (k : ByteArray) (w : World) : (Op.equalIn 10000 60 (pv k) (pv k)).run Tryd.prog w = .ok true w := by
  have hi : ∀ (d : Nat) (s : ByteArray), (Op.equalIn (d + 1) 9 (.string s) (.string s)).run Tryd.prog w = .ok true w := fun d s => by
    rw [Op.equalIn]
    simp only [Sem.run_bind, run_underlying Tryd.underlying9, Result.andThen_ok, Sem.run_pure]
    simp [(MapKept.bytes_beq s s).2 rfl]
  have hI : ∀ (d : Nat) (xs : Array Value) (X : Nat → ByteArray) (is : List Nat), (∀ i ∈ is, xs[i]? = some (.string (X i))) → (Op.eqItems (d + 1) 9 1 xs xs is).run Tryd.prog w = .ok true w := by
    intro d xs X is
    induction is with
    | nil => intro _; rfl
    | cons i is ih =>
      intro h
      have hp := run_part_plain (P := Tryd.prog) w plain9 (xs := xs) (off := i * 1) (by rw [Nat.mul_one]; exact h i (by simp))
      unfold Op.eqItems
      simp only [Sem.run_bind, hp, Result.andThen_ok, hi]
      simp only [Bool.not_true, Bool.false_eq_true, if_false]
      exact ih fun j hj => h j (by simp [hj])
  obtain ⟨i9, h9⟩ : ∃ i, Tryd.prog.info? 9 = some i := info_of_underlying Tryd.underlying9
  rw [show (10000 : Nat) = 9999 + 1 from rfl, pv, run_equalIn_array w 9999 _ _ Tryd.underlying60 h9, cells9]
  exact hI 9998 _ (fun i => if i = 0 then k else pv.kx2) _ (by
    intro i hi
    have : i < 2 := by simpa using hi
    rcases i with _ | _ | i
    · rfl
    · rfl
    · omega)
theorem info60 : (Tryd.prog.info? 60).map (·.size) = some 2 := by kernel_rfl
theorem ex_eq60 {ρ : Operand → Value} {o : Oper} {w : World} {x y : Operand} {t : TypeId} {cs ds : Array Value} {r : Bool} (ho : o.op = .binOp .eql 60 x y t) (hx : ρ x = .agg cs) (hy : ρ y = .agg ds) (h : (Op.equalIn 10000 60 (.agg cs) (.agg ds)).run Tryd.prog w = .ok r w) : (execOp ρ o).run Tryd.prog w = .ok (.value (.bool r)) w := by
  have h : (binOp .eql 60 (.agg cs) (.agg ds)).run Tryd.prog w = .ok (.bool r) w := by
    simp [binOp, Op.equal, Op.maxDepth, h]
  have hg : (eqGuard .eql 60 x y (.agg cs) (.agg ds)).run Tryd.prog w = .ok () w := by
    simp [eqGuard]
  unfold execOp
  simp only [ho, hx, hy, Sem.run_bind, hg, h, Result.andThen_ok, Sem.run_pure]
set_option maxRecDepth 100000 in
theorem found42 (k : ByteArray) (w : World) : Calls Tryd.prog 42 #[pv k] w fun e w' => e = .returned (.bool true) ∧ w.grownBy w' none := by
  have he := hide (eq60 k)
  go_enter Tryd.func42, Tryd.ntmps42
  go_wp2_with (first | (refine wpList_box' rfl 60 (.tmp 0) rfl _ rfl ?_; intro g w1 h1) | (refine wpList_load_row rfl 60 (.tmp 1) rfl g rfl 60 _ _ h1.out.2.1 Tryd.underlying60 rfl info60 ?_) | (refine wpList_is rfl (v := .bool true) (w' := _) (ex_eq60 rfl rfl rfl (he.out _)) ?_))
  go_ret
  exact ⟨rfl, gb_at h1.out⟩
end Go.Proofs.YtdeebmpmfedjbaaDoor
