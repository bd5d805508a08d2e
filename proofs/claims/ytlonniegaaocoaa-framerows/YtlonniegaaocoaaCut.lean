/- Cuts of slices of bytes: the value that such an operation yields, and what it leads to. -/
import Derived.Test.YtlonniegaaocoaaParts
import Derived.Test.YtlonniegaaocoaaFrm
namespace Go.Proofs.Ytlonniegaaocoaa
open Go.RowKit

/-- The value of 'b[i:j]'. -/
def cutV (ao : Option Addr) (cap i j : Nat) : Value := .slice (if cap = i then ao else ao.map (·.add i)) (j - i) (cap - i)

theorem run_lh {ao : Option Addr} {n cap i j : Nat} (hij : i ≤ j) (hj : j ≤ cap) (W : World) :
    (Instr.sliceAt 22 (.slice ao n cap) (some (.int .i64 (i : Int))) (some (.int .i64 (j : Int))) none).run Try.prog W = .ok (cutV ao cap i j) W := by
  have h0 : (0 : Int) ≤ (i : Int) := by omega
  have h1 : (i : Int) ≤ (j : Int) := by omega
  have h2 : (j : Int) ≤ (cap : Int) := by omega
  go_simp
  simp [cutV]
theorem run_l {ao : Option Addr} {n cap i : Nat} (hj : i ≤ n) (W : World) :
    (Instr.sliceAt 22 (.slice ao n cap) (some (.int .i64 (i : Int))) none none).run Try.prog W = .ok (cutV ao cap i n) W := by
  have h0 : (0 : Int) ≤ (i : Int) := by omega
  have h1 : (i : Int) ≤ (n : Int) := by omega
  go_simp
  simp [cutV]

theorem Byt.cut {w : World} {ao : Option Addr} {cap : Nat} {xs : List Int} (h : Byt w (.slice ao xs.length cap) xs) {i j : Nat} (hij : i ≤ j) (hj : j ≤ xs.length) : Byt w (cutV ao cap i j) ((xs.drop i).take (j - i)) := by
  have hc := h.cap
  have hd := h.drop i (by omega) (if cap = i then ao else ao.map (·.add i)) (fun b off e hi => by
    subst e
    rw [if_neg (by omega), Option.map_some, Addr.add_lit]) (fun e => by
    split at e
    · exact e
    · cases ao <;> simp_all)
  have el : xs.length - i = (xs.drop i).length := by simp
  rw [el] at hd
  exact hd.take (j - i) (by simp; omega)
end Go.Proofs.Ytlonniegaaocoaa
