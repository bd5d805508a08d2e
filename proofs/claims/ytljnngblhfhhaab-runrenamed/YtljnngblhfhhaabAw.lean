/- Awake of layer 6: fixed facts. -/
import Derived.Test.YtljnngblhfhhaabRr
namespace Go.Proofs.Ytljnngblhfhhaab
open Go.RowKit Ir

def insA : Ins := ⟨3, 3, 0, 0, 0, 0, []⟩
def funA : Fun := ⟨1, 1, [⟨[insA], ⟨3, 0, 0, 0⟩⟩]⟩
def inpA (f : Int) : Inp := ⟨[5], [], [], f⟩
theorem awF9 : runF funA (inpA 9) = 0 := by kernel_rfl
theorem awF1 : runF funA (inpA 1) = 0 := by kernel_rfl
theorem awO9 : ((runO funA (inpA 9)).how, (runO funA (inpA 9)).val, (runO funA (inpA 9)).left) = (1, 25, 7) := by kernel_rfl
theorem awO1 : ((runO funA (inpA 1)).how, (runO funA (inpA 1)).left) = (3, 0) := by kernel_rfl
/-- One block of one instruction. -/
theorem blks_one {W : World} {g0 g1 : Nat} {i : Ins} {e : En} (h1 : W.heap[g1]? = some (Obj.cells (rowBk (.slice (some ⟨g0, 0, none⟩) 1 1) e) 48 (0, 0))) (h0 : W.heap[g0]? = some (Obj.cells (rowI i (.slice none 0 0)) 53 (0, 0))) (ha : i.args = []) : BlksV W (.slice (some ⟨g1, 0, none⟩) 1 1) [⟨[i], e⟩] := by
  refine ⟨_, 1, rfl, Nat.le_refl _, by simp [maxLen], fun h => by simp at h, fun _ => ⟨g1, 0, rfl, fun j hj => ?_⟩⟩
  have : j = 0 := by simp at hj; omega
  subst this
  refine ⟨.slice (some ⟨g0, 0, none⟩) 1 1, rowBk_cells h1, _, 1, rfl, Nat.le_refl _, by simp [maxLen], fun h => by simp at h, fun _ => ⟨g0, 0, rfl, fun j hj => ?_⟩⟩
  have : j = 0 := by simp at hj; omega
  subst this
  refine ⟨.slice none 0 0, rowI_cells h0, ?_⟩
  show IntsV W _ i.args
  rw [ha]
  exact SlV.nil
theorem ints_one {W : World} {g : Nat} {x : Int} {t : TypeId} (h : W.heap[g]? = some (Obj.cells #[.int .i64 x] t (0, 0))) : IntsV W (.slice (some ⟨g, 0, none⟩) 1 1) [x] := by
  refine ⟨_, 1, rfl, Nat.le_refl _, by simp [maxLen], fun h => by simp at h, fun _ => ⟨g, 0, rfl, fun j hj => ?_⟩⟩
  have : j = 0 := by simp at hj; omega
  subst this
  exact (cell_of_row _ _ _ _ _ _ h).trans rfl
/-- What an output's variable has. -/
theorem out_cells {W : World} {g : Nat} {o : Out} {cv : Value} (hm : o.mem.length = 64) (h : W.heap[g]? = some (Obj.cells (outL o.how o.val cv o.mem o.left).toArray 37 (0, 0))) : W.cell? ⟨g, 0, none⟩ = some (.int .i64 o.how) ∧ W.cell? ⟨g, 1, none⟩ = some (.int .i64 o.val) ∧ W.cell? ⟨g, 2, none⟩ = some cv ∧ W.cell? ⟨g, 67, none⟩ = some (.int .i64 o.left) := by
  refine ⟨?_, ?_, ?_, ?_⟩
  all_goals rw [cell_of_row _ _ _ _ _ _ h]
  · rfl
  · rfl
  · rfl
  · simpa using outL_left hm
/-- The zero output, and what is asked of one's cells. -/
theorem z37 : ∃ Z : Array Value, (∀ W, (zeroValue 37).run Try.prog W = .ok (.agg Z) W) ∧ Z.size = 68 :=
  ⟨(out0 0).toArray, (zero_of_info zero37).1, by simp [out0, outL_len, z64]⟩

theorem aw_cells {W8 W9 : World} {gx gy : Nat} {o9 o1 : Out} {cv cv1 : Value} {OL OK : List Value} (h9 : OL = outL o9.how o9.val cv o9.mem o9.left ∧ o9.mem.length = 64 ∧ o9.how = 1 ∧ o9.val = 25 ∧ o9.left = 7) (h1 : OK = outL o1.how o1.val cv1 o1.mem o1.left ∧ o1.mem.length = 64 ∧ o1.how = 3 ∧ o1.left = 0) (hx : W8.heap[gx]? = some (Obj.cells OL.toArray 37 (0, 0)))
    (hy : Hid (gy = W8.heap.size ∧ W9.heap[gy]? = some (Obj.cells OK.toArray 37 (0, 0)) ∧ Below gy W8 W9)) : W9.cell? ⟨gx, 0, none⟩ = some (.int .i64 1) ∧ W9.cell? ⟨gx, 1, none⟩ = some (.int .i64 25) ∧ W9.cell? ⟨gx, 67, none⟩ = some (.int .i64 7) ∧ W9.cell? ⟨gy, 0, none⟩ = some (.int .i64 3) ∧ W9.cell? ⟨gy, 67, none⟩ = some (.int .i64 0) := by
  obtain ⟨e9, m9, a1, a2, a3⟩ := h9
  obtain ⟨e1, m1, a4, a5⟩ := h1
  obtain ⟨hg, hr, hB⟩ := hy.out
  rw [e9] at hx
  rw [e1] at hr
  obtain ⟨x0, x1, _, x67⟩ := out_cells m9 hx
  obtain ⟨y0, _, _, y67⟩ := out_cells m1 hr
  rw [a1] at x0
  rw [a2] at x1
  rw [a3] at x67
  rw [a4] at y0
  rw [a5] at y67
  have hB' : Below W8.heap.size W8 W9 := hg ▸ hB
  exact ⟨cell_below hB' x0, cell_below hB' x1, cell_below hB' x67, y0, y67⟩

set_option maxHeartbeats 4000000 in
set_option maxRecDepth 100000 in
theorem awake_any (w : World) : Calls Try.prog 5 #[] w fun e w' => e = .returned (.bool true) ∧ Below w.heap.size w w' := by
  obtain ⟨Z, hz, hzs⟩ := z37
  have HZ := hide (And.intro hz hzs)
  clear hz hzs
  go_enter Try.func5, Try.ntmps5
  go_wp2_with fail
  have s1 : (w.alloc (.cells #[.int .u8 3, .int .u8 3, .int .i64 0, .int .i64 0, .int .i64 0, .int .i64 0, .slice none 0 0] 53)).heap.size = w.heap.size + 1 := by simp
  have s2 : ((w.alloc (.cells #[.int .u8 3, .int .u8 3, .int .i64 0, .int .i64 0, .int .i64 0, .int .i64 0, .slice none 0 0] 53)).alloc (.cells #[.slice (some ⟨w.heap.size, 0, none⟩) 1 1, .int .u8 3, .int .i64 0, .int .i64 0, .int .i64 0] 48)).heap.size = w.heap.size + 1 + 1 := by simp
  have s3 : (((w.alloc (.cells #[.int .u8 3, .int .u8 3, .int .i64 0, .int .i64 0, .int .i64 0, .int .i64 0, .slice none 0 0] 53)).alloc (.cells #[.slice (some ⟨w.heap.size, 0, none⟩) 1 1, .int .u8 3, .int .i64 0, .int .i64 0, .int .i64 0] 48)).alloc (.cells #[.int .i64 1, .int .i64 1, .slice (some ⟨w.heap.size + 1, 0, none⟩) 1 1] 31)).heap.size = w.heap.size + 1 + 1 + 1 := by simp
  have b1 := bel1' w (.cells #[.int .u8 3, .int .u8 3, .int .i64 0, .int .i64 0, .int .i64 0, .int .i64 0, .slice none 0 0] 53)
  have b2 := bel1' (w.alloc (.cells #[.int .u8 3, .int .u8 3, .int .i64 0, .int .i64 0, .int .i64 0, .int .i64 0, .slice none 0 0] 53)) (.cells #[.slice (some ⟨w.heap.size, 0, none⟩) 1 1, .int .u8 3, .int .i64 0, .int .i64 0, .int .i64 0] 48)
  have b3 := bel1' ((w.alloc (.cells #[.int .u8 3, .int .u8 3, .int .i64 0, .int .i64 0, .int .i64 0, .int .i64 0, .slice none 0 0] 53)).alloc (.cells #[.slice (some ⟨w.heap.size, 0, none⟩) 1 1, .int .u8 3, .int .i64 0, .int .i64 0, .int .i64 0] 48)) (.cells #[.int .i64 1, .int .i64 1, .slice (some ⟨w.heap.size + 1, 0, none⟩) 1 1] 31)
  have b4 := bel1' (((w.alloc (.cells #[.int .u8 3, .int .u8 3, .int .i64 0, .int .i64 0, .int .i64 0, .int .i64 0, .slice none 0 0] 53)).alloc (.cells #[.slice (some ⟨w.heap.size, 0, none⟩) 1 1, .int .u8 3, .int .i64 0, .int .i64 0, .int .i64 0] 48)).alloc (.cells #[.int .i64 1, .int .i64 1, .slice (some ⟨w.heap.size + 1, 0, none⟩) 1 1] 31)) (.cells #[.int .i64 5] 2)
  have n1 := heap_alloc_new w (.cells #[.int .u8 3, .int .u8 3, .int .i64 0, .int .i64 0, .int .i64 0, .int .i64 0, .slice none 0 0] 53)
  have n2 := heap_alloc_new (w.alloc (.cells #[.int .u8 3, .int .u8 3, .int .i64 0, .int .i64 0, .int .i64 0, .int .i64 0, .slice none 0 0] 53)) (.cells #[.slice (some ⟨w.heap.size, 0, none⟩) 1 1, .int .u8 3, .int .i64 0, .int .i64 0, .int .i64 0] 48)
  have n3 := heap_alloc_new ((w.alloc (.cells #[.int .u8 3, .int .u8 3, .int .i64 0, .int .i64 0, .int .i64 0, .int .i64 0, .slice none 0 0] 53)).alloc (.cells #[.slice (some ⟨w.heap.size, 0, none⟩) 1 1, .int .u8 3, .int .i64 0, .int .i64 0, .int .i64 0] 48)) (.cells #[.int .i64 1, .int .i64 1, .slice (some ⟨w.heap.size + 1, 0, none⟩) 1 1] 31)
  have n4 := heap_alloc_new (((w.alloc (.cells #[.int .u8 3, .int .u8 3, .int .i64 0, .int .i64 0, .int .i64 0, .int .i64 0, .slice none 0 0] 53)).alloc (.cells #[.slice (some ⟨w.heap.size, 0, none⟩) 1 1, .int .u8 3, .int .i64 0, .int .i64 0, .int .i64 0] 48)).alloc (.cells #[.int .i64 1, .int .i64 1, .slice (some ⟨w.heap.size + 1, 0, none⟩) 1 1] 31)) (.cells #[.int .i64 5] 2)
  rw [s1] at n2 b2
  rw [s2] at n3 b3
  rw [s3] at n4 b4
  have m3 := (b4.block (w.heap.size + 1 + 1) (by omega)).trans n3
  have m2 := (b4.block (w.heap.size + 1) (by omega)).trans ((b3.block (w.heap.size + 1) (by omega)).trans n2)
  have m1 := (b4.block w.heap.size (by omega)).trans ((b3.block w.heap.size (by omega)).trans ((b2.block w.heap.size (by omega)).trans n1))
  have hB4 : Below w.heap.size w _ := ((b1.trans (b2.mono (by omega))).trans (b3.mono (by omega))).trans (b4.mono (by omega))
  clear b1 b2 b3 b4 n1 n2 n3 s1 s2 s3
  generalize (((w.alloc (.cells #[.int .u8 3, .int .u8 3, .int .i64 0, .int .i64 0, .int .i64 0, .int .i64 0, .slice none 0 0] 53)).alloc (.cells #[.slice (some ⟨w.heap.size, 0, none⟩) 1 1, .int .u8 3, .int .i64 0, .int .i64 0, .int .i64 0] 48)).alloc (.cells #[.int .i64 1, .int .i64 1, .slice (some ⟨w.heap.size + 1, 0, none⟩) 1 1] 31)).alloc (.cells #[.int .i64 5] 2) = W4 at *
  have hblk : BlksV W4 (.slice (some ⟨w.heap.size + 1, 0, none⟩) 1 1) funA.bs := blks_one (i := insA) (e := ⟨3, 0, 0, 0⟩) m2 m1 rfl
  refine (run_any funA (inpA 9) _ _ W4 ⟨_, rfl, hblk⟩ ⟨_, _, _, rfl, ints_one n4, SlV.nil, SlV.nil⟩).mono ?_
  rintro e W5 ⟨x, rfl, ⟨cv, gp, rfl, hcalls, hmem⟩, hB5⟩
  rw [awF9]
  have h9 := awO9
  simp only [Prod.mk.injEq] at h9
  generalize runO funA (inpA 9) = o9 at *
  obtain ⟨OL, hOL⟩ : ∃ OL, OL = outL o9.how o9.val cv o9.mem o9.left := ⟨_, rfl⟩
  rw [← hOL]
  have hlen : OL.length = 68 := by rw [hOL]; exact outL_len hmem
  have hone : ∀ v ∈ OL.toArray.toList, v.oneCell' = true := by
    rw [hOL]
    obtain ⟨ao, cap, rfl⟩ := hcalls.v.slice
    simpa using outL_one (how := o9.how) (val := o9.val) (mem := o9.mem) (left := o9.left) (cv := .slice ao o9.calls.length cap) rfl
  have HF := hide (And.intro hlen hone)
  have HO := hide (And.intro hOL (And.intro hmem h9))
  have c0 : W5.cell? ⟨w.heap.size + 1 + 1, 0, none⟩ = some (.int .i64 1) := cell_below hB5 ((cell_of_row _ _ _ _ _ _ m3).trans rfl)
  have c1 : W5.cell? ⟨w.heap.size + 1 + 1, 1, none⟩ = some (.int .i64 1) := cell_below hB5 ((cell_of_row _ _ _ _ _ _ m3).trans rfl)
  have c2 : W5.cell? ⟨w.heap.size + 1 + 1, 2, none⟩ = some (.slice (some ⟨w.heap.size + 1, 0, none⟩) 1 1) := cell_below hB5 ((cell_of_row _ _ _ _ _ _ m3).trans rfl)
  have HBL := hide (hblk.below hB5)
  have HB5 := hide (bel_of hB4 hB5)
  clear hlen hone hOL hmem h9 hcalls hB5 hblk m1 m2 m3 n4 hB4
  go_wp2_with (refine wpList_var 37 2 rfl rfl rfl rfl (.tmp 17) rfl rfl Z OL.toArray HZ.out.1 (by simp) rfl (by simp only [List.size_toArray, HF.out.1]; exact size37) (by simp only [List.size_toArray, HF.out.1]; exact HZ.out.2) HF.out.2 ?_; intro gx W6 hx; have c0 := cell_below (hx.out.1 ▸ hx.out.2.2) c0; have c1 := cell_below (hx.out.1 ▸ hx.out.2.2) c1; have c2 := cell_below (hx.out.1 ▸ hx.out.2.2) c2)
  have hB6 : Below W5.heap.size W5 W6 := hx.out.1 ▸ hx.out.2.2
  have hB7 := bel1' W6 (.cells #[.int .i64 5] 2)
  have n7 := heap_alloc_new W6 (.cells #[.int .i64 5] 2)
  have hbl7 := (HBL.out.below hB6).below hB7
  have HBW7 := hide (bel_of HB5.out (bel_of hB6 hB7))
  have hx7 : (W6.alloc (.cells #[.int .i64 5] 2)).heap[gx]? = some (Obj.cells OL.toArray 37 (0, 0)) := (hB7.block gx (Array.getElem?_eq_some_iff.1 hx.out.2.1).1).trans hx.out.2.1
  have HX7 := hide hx7
  refine (run_any funA (inpA 1) _ _ _ ⟨_, rfl, hbl7⟩ ⟨_, _, _, rfl, ints_one n7, SlV.nil, SlV.nil⟩).mono ?_
  clear hB6 hB7 n7 hbl7 hx7 c0 c1 c2 HB5 HBL hx
  generalize W6.alloc (.cells #[.int .i64 5] 2) = W7 at *
  rintro e W8 ⟨x, rfl, ⟨cv1, gp1, rfl, hcalls, hmem⟩, hB8⟩
  rw [awF1]
  have h1 := awO1
  simp only [Prod.mk.injEq] at h1
  generalize runO funA (inpA 1) = o1 at *
  obtain ⟨OK, hOK⟩ : ∃ OL, OL = outL o1.how o1.val cv1 o1.mem o1.left := ⟨_, rfl⟩
  rw [← hOK]
  have hlen : OK.length = 68 := by rw [hOK]; exact outL_len hmem
  have hone : ∀ v ∈ OK.toArray.toList, v.oneCell' = true := by
    rw [hOK]
    obtain ⟨ao, cap, rfl⟩ := hcalls.v.slice
    simpa using outL_one (how := o1.how) (val := o1.val) (mem := o1.mem) (left := o1.left) (cv := .slice ao o1.calls.length cap) rfl
  have HF1 := hide (And.intro hlen hone)
  have HO1 := hide (And.intro hOK (And.intro hmem h1))
  have hx8 : W8.heap[gx]? = some (Obj.cells OL.toArray 37 (0, 0)) := (hB8.block gx (Array.getElem?_eq_some_iff.1 HX7.out).1).trans HX7.out
  have HX8 := hide hx8
  have HBW8 := hide (bel_of HBW7.out hB8)
  clear hlen hone hOK hmem h1 hcalls hB8 hx8 HX7 HBW7
  go_wp2_with (refine wpList_var 37 4 rfl rfl rfl rfl (.tmp 24) rfl rfl Z OK.toArray HZ.out.1 (by simp) rfl (by simp only [List.size_toArray, HF1.out.1]; exact size37) (by simp only [List.size_toArray, HF1.out.1]; exact HZ.out.2) HF1.out.2 ?_; intro gy W9 hy; obtain ⟨x0, x1, x67, y0, y67⟩ := aw_cells HO.out HO1.out HX8.out hy)
  go_ret
  exact ⟨rfl, bel_of HBW8.out (hy.out.1 ▸ hy.out.2.2)⟩
end Go.Proofs.Ytljnngblhfhhaab
