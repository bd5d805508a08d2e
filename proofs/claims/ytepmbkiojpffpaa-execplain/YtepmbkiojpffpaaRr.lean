/- run.Check, the document's Input, run.Run. -/
import Derived.Test.YtepmbkiojpffpaaDo
import Derived.Test.YtepmbkiojpffpaaCheck
namespace Go.Proofs.Ytepmbkiojpffpaa
open Go.RowKit Ir

namespace Ir
/-- An input's fault. -/
def inpF (p : Int) (I : Inp) : Int := if (I.args.length : Int) ≠ p then 25 else if I.fuel < 0 ∨ I.fuel > 1048576 then 2 else 0
end Ir

set_option maxHeartbeats 1000000 in
set_option maxRecDepth 100000 in
theorem rcheck_any (p : Int) (v : Value) (I : Inp) (w : World) (hI : InpV w v I) : Calls Try.prog 21 #[.int .i64 p, v] w fun e w' => e = .returned (.int .i64 (inpF p I)) ∧ Below w.heap.size w w' := by
  obtain ⟨a, b, c, rfl, ha, hm, hc⟩ := hI
  obtain ⟨aa, ac, rfl⟩ := ha.slice
  obtain ⟨ma, mc, rfl⟩ := hm.slice
  obtain ⟨ca, cc, rfl⟩ := hc.slice
  have HE : Hid (inpF p I = if (I.args.length : Int) ≠ p then 25 else if I.fuel < 0 ∨ I.fuel > 1048576 then 2 else 0) := rfl
  clear ha hm hc
  go_enter Try.func21, Try.ntmps21
  go_wp2_with fail
  all_goals
    go_ret
    refine ⟨?_, bel1' _ _⟩
    rw [HE.out]
    simp_all <;> omega
set_option maxHeartbeats 1000000 in
set_option maxRecDepth 100000 in
theorem refInp_any (p : Int) (v : Value) (I : Inp) (w : World) (hI : InpV w v I) : Calls Try.prog 16 #[.int .i64 p, v] w fun e w' => e = .returned (.int .i64 (inpF p I)) ∧ Below w.heap.size w w' := by
  obtain ⟨a, b, c, rfl, ha, hm, hc⟩ := hI
  obtain ⟨aa, ac, rfl⟩ := ha.slice
  obtain ⟨ma, mc, rfl⟩ := hm.slice
  obtain ⟨ca, cc, rfl⟩ := hc.slice
  have HE : Hid (inpF p I = if (I.args.length : Int) ≠ p then 25 else if I.fuel < 0 ∨ I.fuel > 1048576 then 2 else 0) := rfl
  clear ha hm hc
  go_enter Try.func16, Try.ntmps16
  go_wp2_with fail
  all_goals
    go_ret
    refine ⟨?_, bel1' _ _⟩
    rw [HE.out]
    simp_all <;> omega

namespace Ir
def out00 : Out := ⟨0, 0, [], List.replicate 64 0, 0⟩
theorem rm0 {bs : List Blk} (h : ∀ b ∈ bs, ∀ i ∈ b.ins, OkS i) : rm bs 0 = 0 := by
  have := nmd_in (bs := bs) (m := 0) h (by omega)
  unfold rm nmd
  omega
end Ir
set_option maxRecDepth 100000 in
theorem results_out {fn : Func} {p u : Tmp} (h : fn.results = #[.cell p 37, .tmp u]) (tmps : Array Value) (w : World) (g : Nat) (t : TypeId) (cs : Array Value)
    (hp : tmps.getD p undef = .pointer (some ⟨g, 0, none⟩)) (hg : w.heap[g]? = some (Obj.cells cs t (0, 0))) (hi : cs.size = 68) :
    (results fn tmps).run Try.prog w = .ok (.tuple #[.agg cs, tmps.getD u undef]) w := by
  rw [results_cell_tmp h, hp]
  have hl := run_loadVar_row (P := Try.prog) w g t 37 cs (0, 0) _ hg Try.underlying37 rfl (by rw [hi]; exact size37)
  show (Result.andThen (Sem.run Try.prog (loadVar 37 ⟨g, 0, none⟩) w) _) = _
  rw [hl]
  rfl
theorem run_field50 (a b c : Int) (W : World) : (Instr.field 48 (.agg #[.int .i64 a, .int .i64 b, .int .i64 c]) 0).run Try.prog W = .ok (.int .i64 a) W := by
  simp [Instr.field, run_underlying Try.underlying48, go_sem, asAgg]
end Go.Proofs.Ytepmbkiojpffpaa
