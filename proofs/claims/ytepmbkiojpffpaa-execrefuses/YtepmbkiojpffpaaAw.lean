/- Awake of layer 7: a fixed fact. -/
import Derived.Test.YtepmbkiojpffpaaEc
import Derived.Test.YtepmbkiojpffpaaLb
namespace Go.Proofs.Ytepmbkiojpffpaa
open Go.RowKit Ir

def insA : Ins := ⟨8, 0, 2, 0, 0, 0, []⟩
def insB : Ins := ⟨3, 3, 1, 2, 2, 0, []⟩
def codA : Cod := ⟨1, 3, 1, [⟨[insA, insB], ⟨3, 1, 0, 0⟩⟩]⟩
def inpA : Inp := ⟨[5], [], [], 9⟩
theorem awF : execF codA inpA = 0 := by kernel_rfl
theorem awO : ((execO codA inpA).how, (execO codA inpA).val, (execO codA inpA).left) = (1, 25, 7) := by kernel_rfl
def rowI2 (i j : Ins) : Array Value := rowI i (.slice none 0 0) ++ rowI j (.slice none 0 0)
/-- One block of two instructions. -/
theorem blks_two {W : World} {g0 g1 : Nat} {i j : Ins} {e : En} (h1 : W.heap[g1]? = some (Obj.cells (rowBk (.slice (some ⟨g0, 0, none⟩) 2 2) e) 60 (0, 0))) (h0 : W.heap[g0]? = some (Obj.cells (rowI2 i j) 65 (0, 0))) (ha : i.args = []) (hb : j.args = []) : BlksV W (.slice (some ⟨g1, 0, none⟩) 1 1) [⟨[i, j], e⟩] := by
  refine ⟨_, 1, rfl, Nat.le_refl _, by simp [maxLen], fun h => by simp at h, fun _ => ⟨g1, 0, rfl, fun k hk => ?_⟩⟩
  have : k = 0 := by simp at hk; omega
  subst this
  refine ⟨.slice (some ⟨g0, 0, none⟩) 2 2, rowBk_cells h1, _, 2, rfl, Nat.le_refl _, by simp [maxLen], fun h => by simp at h, fun _ => ⟨g0, 0, rfl, fun k hk => ?_⟩⟩
  have hk' : k = 0 ∨ k = 1 := by simp at hk; omega
  rcases hk' with rfl | rfl
  · refine ⟨.slice none 0 0, ?_, ?_⟩
    · refine ⟨?_, ?_, ?_, ?_, ?_, ?_, ?_⟩
      all_goals (rw [cell_of_row _ _ _ _ _ _ h0]; rfl)
    · show IntsV W _ i.args
      rw [ha]
      exact SlV.nil
  · refine ⟨.slice none 0 0, ?_, ?_⟩
    · refine ⟨?_, ?_, ?_, ?_, ?_, ?_, ?_⟩
      all_goals (rw [cell_of_row _ _ _ _ _ _ h0]; rfl)
    · show IntsV W _ j.args
      rw [hb]
      exact SlV.nil

set_option maxHeartbeats 4000000 in
set_option maxRecDepth 100000 in
theorem awake_any (w : World) : Calls Try.prog 7 #[] w fun e w' => e = .returned (.bool true) ∧ Below w.heap.size w w' := by
  obtain ⟨Z, hz, hzs⟩ := z37
  have HZ := hide (And.intro hz hzs)
  clear hz hzs
  obtain ⟨A1, hA1⟩ : ∃ A1, A1 = w.alloc (.cells (rowI2 insA insB) 65) := ⟨_, rfl⟩
  obtain ⟨A2, hA2⟩ : ∃ A2, A2 = A1.alloc (.cells (rowBk (.slice (some ⟨w.heap.size, 0, none⟩) 2 2) ⟨3, 1, 0, 0⟩) 60) := ⟨_, rfl⟩
  obtain ⟨A3, hA3⟩ : ∃ A3, A3 = A2.alloc (.cells #[.int .i64 1, .int .i64 3, .int .i64 1, .slice (some ⟨w.heap.size + 1, 0, none⟩) 1 1] 31) := ⟨_, rfl⟩
  obtain ⟨A4, hA4⟩ : ∃ A4, A4 = A3.alloc (.cells #[.int .i64 5] 2) := ⟨_, rfl⟩
  have s1 : A1.heap.size = w.heap.size + 1 := by rw [hA1]; simp
  have s2 : A2.heap.size = w.heap.size + 1 + 1 := by rw [hA2]; simp [s1]
  have s3 : A3.heap.size = w.heap.size + 1 + 1 + 1 := by rw [hA3]; simp [s2]
  have b1 := bel1' w (.cells (rowI2 insA insB) 65)
  have b2 := bel1' A1 (.cells (rowBk (.slice (some ⟨w.heap.size, 0, none⟩) 2 2) ⟨3, 1, 0, 0⟩) 60)
  have b3 := bel1' A2 (.cells #[.int .i64 1, .int .i64 3, .int .i64 1, .slice (some ⟨w.heap.size + 1, 0, none⟩) 1 1] 31)
  have b4 := bel1' A3 (.cells #[.int .i64 5] 2)
  have n1 := heap_alloc_new w (.cells (rowI2 insA insB) 65)
  have n2 := heap_alloc_new A1 (.cells (rowBk (.slice (some ⟨w.heap.size, 0, none⟩) 2 2) ⟨3, 1, 0, 0⟩) 60)
  have n3 := heap_alloc_new A2 (.cells #[.int .i64 1, .int .i64 3, .int .i64 1, .slice (some ⟨w.heap.size + 1, 0, none⟩) 1 1] 31)
  have n4 := heap_alloc_new A3 (.cells #[.int .i64 5] 2)
  rw [← hA1] at n1 b1
  rw [← hA2, s1] at n2 b2
  rw [← hA3, s2] at n3 b3
  rw [← hA4, s3] at n4 b4
  have m3 := (b4.block (w.heap.size + 1 + 1) (by omega)).trans n3
  have m2 := (b4.block (w.heap.size + 1) (by omega)).trans ((b3.block (w.heap.size + 1) (by omega)).trans n2)
  have m1 := (b4.block w.heap.size (by omega)).trans ((b3.block w.heap.size (by omega)).trans ((b2.block w.heap.size (by omega)).trans n1))
  have hB4 : Below w.heap.size w A4 := ((b1.trans (b2.mono (by omega))).trans (b3.mono (by omega))).trans (b4.mono (by omega))
  have hblk : BlksV A4 (.slice (some ⟨w.heap.size + 1, 0, none⟩) 1 1) codA.bs := blks_two (i := insA) (j := insB) (e := ⟨3, 1, 0, 0⟩) m2 m1 rfl rfl
  have HC := hide (exec_any codA inpA (.agg #[.int .i64 1, .int .i64 3, .int .i64 1, .slice (some ⟨w.heap.size + 1, 0, none⟩) 1 1]) (.agg #[.slice (some ⟨w.heap.size + 1 + 1 + 1, 0, none⟩) 1 1, .slice none 0 0, .slice none 0 0, .int .i64 9]) A4 ⟨_, rfl, hblk⟩ ⟨_, _, _, rfl, ints_one n4, SlV.nil, SlV.nil⟩)
  have HB4 := hide hB4
  have HA := hide (And.intro hA1 (And.intro hA2 (And.intro hA3 hA4)))
  clear hA1 hA2 hA3 hA4 s1 s2 s3 b1 b2 b3 b4 n1 n2 n3 n4 m1 m2 m3 hB4 hblk
  go_enter Try.func7, Try.ntmps7
  go_wp2_with fail
  have e4 := HA.out.2.2.2
  rw [HA.out.2.2.1, HA.out.2.1, HA.out.1] at e4
  unfold rowI2 rowI rowBk insA insB at e4
  simp only [List.append_toArray, List.cons_append, List.nil_append] at e4
  rw [← e4]
  clear e4 HA
  refine HC.out.mono ?_
  clear HC
  rintro e W5 ⟨x, rfl, ⟨cv, gp, rfl, hcalls, hmem⟩, hB5⟩
  rw [awF]
  have h9 := awO
  simp only [Prod.mk.injEq] at h9
  generalize execO codA inpA = o9 at *
  obtain ⟨OL, hOL⟩ : ∃ OL, OL = outL o9.how o9.val cv o9.mem o9.left := ⟨_, rfl⟩
  rw [← hOL]
  have hlen : OL.length = 68 := by rw [hOL]; exact outL_len hmem
  have hone : ∀ v ∈ OL.toArray.toList, v.oneCell' = true := by
    rw [hOL]
    obtain ⟨ao, cap, rfl⟩ := hcalls.v.slice
    simpa using outL_one (how := o9.how) (val := o9.val) (mem := o9.mem) (left := o9.left) (cv := .slice ao o9.calls.length cap) rfl
  have HF := hide (And.intro hlen hone)
  have HO := hide (And.intro hOL (And.intro hmem h9))
  have HB5 := hide (bel_of HB4.out hB5)
  clear hlen hone hOL hmem h9 hcalls hB5 HB4
  go_wp2_with (refine wpList_var 37 2 rfl rfl rfl rfl (.tmp 16) rfl rfl Z OL.toArray HZ.out.1 (by simp) rfl (by simp only [List.size_toArray, HF.out.1]; exact size37) (by simp only [List.size_toArray, HF.out.1]; exact HZ.out.2) HF.out.2 ?_; intro gx W6 hx; have hxc := (by have h := hx.out.2.1; rw [HO.out.1] at h; obtain ⟨c0, c1, _, c67⟩ := out_cells HO.out.2.1 h; rw [HO.out.2.2.1] at c0; rw [HO.out.2.2.2.1] at c1; rw [HO.out.2.2.2.2] at c67; exact (⟨c0, c1, c67⟩ : W6.cell? ⟨gx, 0, none⟩ = some (.int .i64 1) ∧ W6.cell? ⟨gx, 1, none⟩ = some (.int .i64 25) ∧ W6.cell? ⟨gx, 67, none⟩ = some (.int .i64 (7 : Nat)))); obtain ⟨c0, c1, c67⟩ := hxc)
  go_ret
  exact ⟨rfl, bel_of HB5.out (hx.out.1 ▸ hx.out.2.2)⟩
end Go.Proofs.Ytepmbkiojpffpaa
