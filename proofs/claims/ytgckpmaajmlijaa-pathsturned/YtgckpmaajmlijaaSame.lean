/- The document's SameBlocks, SameFuncs: of two that read alike they answer true. -/
import Derived.BigRegion
import Derived.Test.YtgckpmaajmlijaaCheck
import Derived.Test.YtgckpmaajmlijaaInts
import Derived.Test.YtgckpmaajmlijaaAny
import Derived.Test.YtgckpmaajmlijaaOps
namespace Go.Proofs.Ytgckpmaajmlijaa
open Go.RowKit Ir
set_option maxRecDepth 100000 in
theorem sameInts_any (u v : Value) (xs : List Int) (w : World) (hu : IntsV w u xs) (hv : IntsV w v xs) (hl : xs.length ≤ 1000000000) :
    Calls Try.prog 12 #[u, v] w fun e w' => e = .returned (.bool true) ∧ Below w.heap.size w w' := by
  obtain ⟨ao, cap, rfl⟩ := hu.slice
  obtain ⟨ao2, cap2, rfl⟩ := hv.slice
  have HU := hide hu
  have HV := hide hv
  clear hu hv
  go_enter Try.func12, Try.ntmps12
  go_wp2_with fail
  go_loopw [5] (fun iv wr => ∃ i : Nat, i ≤ xs.length ∧ iv = .int .i64 i ∧ Below w.heap.size w wr) (fun iv _ => xs.length - (intOf iv).toNat)
  case atStart => exact ⟨0, by omega, rfl, Below.refl _ _⟩
  case round =>
    obtain ⟨i, hi, rfl, hBr⟩ := hrel
    by_cases hlt : i < xs.length
    · obtain ⟨b, off, rfl, hc⟩ := (HU.out.below hBr).at i hlt
      obtain ⟨b2, off2, rfl, hc2⟩ := (HV.out.below hBr).at i hlt
      have hlt' : (i : Int) < (xs.length : Int) := by omega
      generalize xs.getD i 0 = x at *
      go_wp2_with fail
      go_quiet (fail)
      go_wp2
      go_roundw
      case rel => exact ⟨i + 1, by omega, by go_num, hBr.trans ⟨rfl, rfl, rfl, Nat.le_refl _, fun _ _ => rfl⟩⟩
      case measure => simp [intOf]; omega
    · obtain rfl : i = xs.length := by omega
      go_wp2_with fail
      go_ret
      exact ⟨rfl, hBr⟩
theorem getD_memI4 {l : List Ins} (m : Nat) (h : m < l.length) : l.getD m Ins.zero ∈ l := by simp [h]
theorem getD_memB4 {l : List Blk} (m : Nat) (h : m < l.length) : l.getD m Blk.zero ∈ l := by simp [h]
theorem eq64 (e : En) (w : World) : (Op.equalIn 10000 47 (endV e) (endV e)).run Try.prog w = .ok true w := by
  unfold endV
  rw [show (10000 : Nat) = 9999 + 1 from rfl, Op.equalIn]
  simp only [Sem.run_bind, run_underlying Try.underlying47, Result.andThen_ok]
  go_simp
theorem run_neq64_same {a : Act} {w : World} {o : Oper} {x y : Operand} {t : TypeId} {e : En} (hop : o.op = .binOp .neq 47 x y t) (ex : a.eval x = endV e) (ey : a.eval y = endV e) : (execOp a.eval o).run Try.prog w = .ok (.value (.bool false)) w := by
  have h : (binOp .neq 47 (endV e) (endV e)).run Try.prog w = .ok (.bool false) w := by
    have h0 := eq64 e w
    unfold endV at h0 ⊢
    simp [binOp, Op.equal, Op.maxDepth, h0]
  unfold endV at h ex ey
  generalize a.eval = ρ at ex ey ⊢
  unfold execOp
  rw [hop]
  simp only [ex, ey]
  go_simp
/-- What is known of each temporary of 'a[j].End != b[j].End || len(..) != len(..)'. -/
def G26 (ga oa gv ov n ca cv j : Nat) (e : En) (ai bi : Option Addr) (m ci di : Nat) : Tmp → Value → World → Prop
  | 20, xx, _ => xx = .slice (some ⟨ga, oa, none⟩) n ca
  | 21, xx, _ => xx = .int .i64 (j : Nat)
  | 22, xx, _ => xx = .pointer (some ⟨ga, oa + j * 5, none⟩)
  | 23, xx, _ => xx = .pointer (some ⟨ga, oa + j * 5 + 1, none⟩)
  | 24, xx, _ => xx = endV e
  | 25, xx, _ => xx = .slice (some ⟨gv, ov, none⟩) n cv
  | 26, xx, _ => xx = .int .i64 (j : Nat)
  | 27, xx, _ => xx = .pointer (some ⟨gv, ov + j * 5, none⟩)
  | 28, xx, _ => xx = .pointer (some ⟨gv, ov + j * 5 + 1, none⟩)
  | 29, xx, _ => xx = endV e
  | 30, xx, _ => xx = .bool (false)
  | 31, xx, _ => xx = .bool (false)
  | 32, xx, _ => xx = if (!(false)) = true then .slice (some ⟨ga, oa, none⟩) n ca else undef
  | 33, xx, _ => xx = if (!(false)) = true then .int .i64 (j : Nat) else undef
  | 34, xx, _ => xx = if (!(false)) = true then .pointer (some ⟨ga, oa + j * 5, none⟩) else undef
  | 35, xx, _ => xx = if (!(false)) = true then .pointer (some ⟨ga, oa + j * 5, none⟩) else undef
  | 36, xx, _ => xx = if (!(false)) = true then .slice ai m ci else undef
  | 37, xx, _ => xx = if (!(false)) = true then .int .i64 (m : Nat) else undef
  | 38, xx, _ => xx = if (!(false)) = true then .slice (some ⟨gv, ov, none⟩) n cv else undef
  | 39, xx, _ => xx = if (!(false)) = true then .int .i64 (j : Nat) else undef
  | 40, xx, _ => xx = if (!(false)) = true then .pointer (some ⟨gv, ov + j * 5, none⟩) else undef
  | 41, xx, _ => xx = if (!(false)) = true then .pointer (some ⟨gv, ov + j * 5, none⟩) else undef
  | 42, xx, _ => xx = if (!(false)) = true then .slice bi m di else undef
  | 43, xx, _ => xx = if (!(false)) = true then .int .i64 (m : Nat) else undef
  | 44, xx, _ => xx = if (!(false)) = true then .bool (false) else undef
  | 45, xx, _ => xx = .bool (false || false)
  | _, _, _ => True

end Go.Proofs.Ytgckpmaajmlijaa
namespace Go.Proofs.Ytgckpmaajmlijaa
open Go.RowKit Ir
end Go.Proofs.Ytgckpmaajmlijaa
