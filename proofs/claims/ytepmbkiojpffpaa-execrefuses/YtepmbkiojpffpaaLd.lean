/- run.room: how many slots need a place; run.laid: the places. -/
import Derived.Test.YtepmbkiojpffpaaSl
import Derived.Deep.OwnRows
import Derived.Deep.WholeRow
import Derived.Deep.MidRow
namespace Go.Proofs.Ytepmbkiojpffpaa
open Go.RowKit Ir

namespace Ir
def nm1 (m : Int) (i : Ins) : Int := if i.k = 7 then max m (i.d + 1) else if i.k = 8 then max m (i.a + 1) else m
def nmB (m : Int) (b : Blk) : Int := b.ins.foldl nm1 m
def nmd (bs : List Blk) : Int := bs.foldl nmB 0
/-- How many slots need a place. -/
def rm (bs : List Blk) (slots : Int) : Int := max (min (nmd bs) slots) 0
def OkS (i : Ins) : Prop := (i.k = 7 → 0 ≤ i.d ∧ i.d < 1000) ∧ (i.k = 8 → 0 ≤ i.a ∧ i.a < 1000)
theorem nm1_in {m : Int} {i : Ins} (hi : OkS i) (h : 0 ≤ m ∧ m ≤ 1000) : 0 ≤ nm1 m i ∧ nm1 m i ≤ 1000 := by
  unfold nm1
  split
  · rename_i e; have := hi.1 e; omega
  · split
    · rename_i e; have := hi.2 e; omega
    · exact h
theorem nms_in : ∀ {is : List Ins} {m : Int}, (∀ i ∈ is, OkS i) → 0 ≤ m ∧ m ≤ 1000 → 0 ≤ is.foldl nm1 m ∧ is.foldl nm1 m ≤ 1000
  | [], _, _, h => h
  | i :: is, m, hi, h => nms_in (is := is) (fun x hx => hi x (by simp [hx])) (nm1_in (hi i (by simp)) h)
theorem nmd_in : ∀ {bs : List Blk} {m : Int}, (∀ b ∈ bs, ∀ i ∈ b.ins, OkS i) → 0 ≤ m ∧ m ≤ 1000 → 0 ≤ bs.foldl nmB m ∧ bs.foldl nmB m ≤ 1000
  | [], _, _, h => h
  | b :: bs, m, hb, h => nmd_in (bs := bs) (fun x hx => hb x (by simp [hx])) (nms_in (hb b (by simp)) h)
theorem take_fold {α β : Type} (f : β → α → β) (z : α) (l : List α) (j : Nat) (h : j < l.length) (m : β) : (l.take (j + 1)).foldl f m = f ((l.take j).foldl f m) (l.getD j z) := by
  have e : l.take (j + 1) = l.take j ++ [l.getD j z] := by rw [List.take_add_one]; simp [List.getElem?_eq_getElem h]
  rw [e, List.foldl_append]
  rfl
theorem okS_of {r : Int} {n : Nat} {i : Ins} (h : OkI r n i) : OkS i := ⟨fun e => ⟨(h.d7 e).1, (h.d7 e).2.1⟩, fun e => ⟨(h.a8 e).1, (h.a8 e).2.1⟩⟩
end Ir

set_option maxHeartbeats 2000000 in
set_option maxRecDepth 100000 in
theorem room_any (u : Value) (bs : List Blk) (slots : Int) (w : World) (hu : BlksV w u bs) (hb : ∀ b ∈ bs, b.ins.length ≤ 1000 ∧ ∀ i ∈ b.ins, OkS i) (hl : bs.length ≤ 1000) :
    Calls Try.prog 31 #[u, .int .i64 slots] w fun e w' => e = .returned (.int .i64 (rm bs slots)) ∧ Below w.heap.size w w' := by
  obtain ⟨ub, cb, rfl⟩ := hu.slice
  go_enter Try.func31, Try.ntmps31
  go_wp2_with fail
  go_loopw [5, 12] (fun nv iv wr => ∃ j : Nat, j ≤ bs.length ∧ iv = .int .i64 j ∧ nv = .int .i64 ((bs.take j).foldl nmB 0) ∧ Below w.heap.size w wr) (fun _ iv _ => bs.length - (intOf iv).toNat)
  case atStart => exact ⟨0, by omega, rfl, rfl, Below.refl _ _⟩
  case round =>
    obtain ⟨j, hj, rfl, rfl, hBr⟩ := hrel
    rename World => wo
    by_cases hlt : j < bs.length
    · obtain ⟨gb, off, rfl, ui, ⟨c0, c1, c2, c3, c4⟩, hui⟩ := SlV.at (hu.below hBr) j hlt
      have hstep := hide (take_fold nmB Blk.zero bs j hlt 0)
      obtain ⟨hbl, hbo⟩ := hb (bs.getD j Blk.zero) (by simp [List.getElem?_eq_getElem hlt])
      have hin := nmd_in (bs := bs.take j) (m := 0) (fun b hb' i hi => (hb b (List.mem_of_mem_take hb')).2 i hi) (by omega)
      generalize bs.getD j Blk.zero = b at *
      generalize (bs.take j).foldl nmB 0 = m0 at *
      obtain ⟨is, e⟩ := b
      simp only at c1 c2 c3 c4 hui hbl hbo
      obtain ⟨ai, ci, rfl⟩ := hui.slice
      have hBx := hBr.alloc hBr.size (.cells #[.slice ai is.length ci, .int .u8 e.k, .int .i64 e.a, .int .i64 e.to, .int .i64 e.el] 60)
      have hui2 := hui.below (bel1' wo (.cells #[.slice ai is.length ci, .int .u8 e.k, .int .i64 e.a, .int .i64 e.to, .int .i64 e.el] 60))
      have HU := hide hui2
      have HBX := hide hBx
      have hlt' : (j : Int) < (bs.length : Int) := by omega
      clear hui hui2 hBx
      go_wp2_with fail
      clear c0 c1 c2 c3 c4
      have hBr2 := HBX.out
      generalize wo.alloc (.cells #[.slice ai is.length ci, .int .u8 e.k, .int .i64 e.a, .int .i64 e.to, .int .i64 e.el] 60) = W1 at *
      go_loopw [5, 19] (fun nv iv wr => ∃ q : Nat, q ≤ is.length ∧ iv = .int .i64 q ∧ nv = .int .i64 ((is.take q).foldl nm1 m0) ∧ Below W1.heap.size W1 wr) (fun _ iv _ => is.length - (intOf iv).toNat)
      case atStart => exact ⟨0, by omega, rfl, rfl, Below.refl _ _⟩
      case round =>
        obtain ⟨q, hq, rfl, rfl, hBq⟩ := hrel
        rename World => wi
        by_cases hlq : q < is.length
        · obtain ⟨ab, aoff, rfl, ua, hcells, hua⟩ := SlV.at (HU.out.below hBq) q hlq
          have hst := hide (take_fold nm1 Ins.zero is q hlq m0)
          have hok := hbo (is.getD q Ins.zero) (by simp [List.getElem?_eq_getElem hlq])
          have hin2 := nms_in (is := is.take q) (m := m0) (fun i hi => hbo i (List.mem_of_mem_take hi)) hin
          generalize is.getD q Ins.zero = i at *
          generalize (is.take q).foldl nm1 m0 = m1 at *
          obtain ⟨k, op, d, a, b, nn, args⟩ := i
          obtain ⟨d0, d1, d2, d3, d4, d5, d6⟩ := hcells
          simp only at d0 d1 d2 d3 d4 d5 d6 hua
          obtain ⟨uz, cz, rfl⟩ := hua.slice
          have hBy := hBq.alloc hBq.size (.cells #[.int .u8 k, .int .u8 op, .int .i64 d, .int .i64 a, .int .i64 b, .int .i64 nn, .slice uz args.length cz] 65)
          have HBY := hide hBy
          have hlq' : (q : Int) < (is.length : Int) := by omega
          obtain ⟨m2, hm2⟩ : ∃ m2, nm1 m1 ⟨k, op, d, a, b, nn, args⟩ = m2 := ⟨_, rfl⟩
          rw [hm2] at hst
          have HM2 := hide hm2
          clear hBy hua hBq hm2
          by_cases h7 : k = 7
          · subst h7
            have hd := hok.1 rfl
            simp only at hd
            have hmx : ∀ ts t W, (Builtin.max_ ts t #[.int .i64 m1, .int .i64 (d + 1)]).run Try.prog W = .ok (.int .i64 m2) W := by
              intro ts t W
              have : m2 = max m1 (d + 1) := by rw [← HM2.out]; simp [nm1]
              rw [run_max_int2, this]
              congr 2
              split <;> omega
            clear hok
            go_wp2_with fail
            go_roundw
            case rel => exact ⟨q + 1, by omega, by go_num, by rw [hst.out], HBY.out⟩
            case measure => simp [intOf]; omega
          · have h7b : (k == 7) = false := by simpa using h7
            by_cases h8 : k = 8
            · subst h8
              have hd := hok.2 rfl
              simp only at hd
              have hmx : ∀ ts t W, (Builtin.max_ ts t #[.int .i64 m1, .int .i64 (a + 1)]).run Try.prog W = .ok (.int .i64 m2) W := by
                intro ts t W
                have : m2 = max m1 (a + 1) := by rw [← HM2.out]; simp [nm1]
                rw [run_max_int2, this]
                congr 2
                split <;> omega
              clear hok h7
              go_wp2_with fail
              go_roundw
              case rel => exact ⟨q + 1, by omega, by go_num, by rw [hst.out], HBY.out⟩
              case measure => simp [intOf]; omega
            · have h8b : (k == 8) = false := by simpa using h8
              have hmm : Hid (m2 = m1) := by show _ = _; rw [← HM2.out]; simp [nm1, h7, h8]
              clear hok h7 h8
              go_wp2_with fail
              go_roundw
              case rel => exact ⟨q + 1, by omega, by go_num, by rw [hst.out, hmm.out], HBY.out⟩
              case measure => simp [intOf]; omega
        · obtain rfl : q = is.length := by omega
          rw [List.take_length]
          have hf : Hid (is.foldl nm1 m0 = nmB m0 ⟨is, e⟩) := rfl
          have HBQ := hide (bel_to hBr2 hBq hBr2.size)
          generalize is.foldl nm1 m0 = m1 at *
          clear hBq
          go_wp2_with fail
          go_roundw
          case rel => exact ⟨j + 1, by omega, by go_num, by rw [hstep.out, hf.out], HBQ.out⟩
          case measure => simp [intOf]; omega
    · obtain rfl : j = bs.length := by omega
      rw [List.take_length]
      have hf : Hid (rm bs slots = max (min (bs.foldl nmB 0) slots) 0) := rfl
      have HBR := hide hBr
      generalize bs.foldl nmB 0 = m0 at *
      obtain ⟨m1, hm1⟩ : ∃ m1, m1 = min m0 slots := ⟨_, rfl⟩
      obtain ⟨m2, hm2⟩ : ∃ m2, m2 = max m1 0 := ⟨_, rfl⟩
      have hmn : ∀ ts t W, (Builtin.min_ ts t #[.int .i64 m0, .int .i64 slots]).run Try.prog W = .ok (.int .i64 m1) W := by
        intro ts t W
        rw [run_min_int2, hm1]
        congr 2
        split <;> omega
      have hmx : ∀ ts t W, (Builtin.max_ ts t #[.int .i64 m1, .int .i64 0]).run Try.prog W = .ok (.int .i64 m2) W := by
        intro ts t W
        rw [run_max_int2, hm2]
        congr 2
        split <;> omega
      have HF : Hid (rm bs slots = m2) := by show _ = _; rw [hf.out, hm2, hm1]
      clear hf hBr hm1 hm2
      go_wp2_with fail
      go_ret
      exact ⟨by rw [HF.out]; rfl, HBR.out⟩
end Go.Proofs.Ytepmbkiojpffpaa
namespace Go.Proofs.Ytepmbkiojpffpaa
open Go.RowKit Ir

namespace Ir
def laidL (n : Nat) (first : Int) (args : List Int) : List Int := if 0 ≤ first ∧ first < (n : Int) then splice (List.replicate n 0) first.toNat (args.take (n - first.toNat)) else List.replicate n 0
theorem laidL_len (n : Nat) (first : Int) (args : List Int) : (laidL n first args).length = n := by
  unfold laidL
  split
  · rw [length_splice]
    · simp
    · simp; omega
  · simp
end Ir
theorem made_row (n : Nat) : madeCells #[Value.int .i64 0] n = (nums (List.replicate n 0)).toArray := by
  apply Array.ext
  · simp [size_madeCells, nums_len]
  · intro i h1 h2
    simp [madeCells, nums, Nat.mod_one]
theorem run_make2 (n : Nat) (hn : n ≤ 1000000) (W : World) : (Instr.makeSlice 25 (.int .i64 (n : Int)) (.int .i64 (n : Int))).run Try.prog W = .ok (.slice (some ⟨W.heap.size, 0, none⟩) n n) (W.alloc (.cells (nums (List.replicate n 0)).toArray 2)) := by
  obtain ⟨i, hi, hz, hsize, hby⟩ := info_parts info2
  rw [run_make_row 25 2 i (.int .i64 0) Try.underlying25 hi hz hsize rfl .i64 .i64 n (by rw [hby]; omega) (by omega) W, made_row]
theorem run_from {g n f : Nat} (hf : f < n) (W : World) : (Instr.sliceAt 25 (.slice (some ⟨g, 0, none⟩) n n) (some (.int .i64 (f : Int))) none none).run Try.prog W = .ok (.slice (some ⟨g, f, none⟩) (n - f) (n - f)) W := by
  have h1 : (f : Int) ≤ (n : Int) := by omega
  have h2 : ¬ n = f := by omega
  go_simp
theorem nums_splice (xs : List Int) (off : Nat) (ys : List Int) : splice (nums xs) off (nums ys) = nums (splice xs off ys) := by simp [splice, nums, List.map_take, List.map_drop]
theorem nums_one (xs : List Int) : ∀ v ∈ nums xs, v.oneCell' = true := by
  intro v hv
  unfold nums at hv
  obtain ⟨x, _, rfl⟩ := List.mem_map.1 hv
  rfl
theorem size2 : (Try.prog.info? 2).map (·.size) = some 1 := by kernel_rfl

/-- 'copy' of numbers into a row that is known. -/
theorem run_copy2 (W : World) (g off dl dc : Nat) (R : List Value) (t : TypeId) (ua : Option Addr) (uc : Nat) (xs : List Int) (hg : W.heap[g]? = some (Obj.cells R.toArray t (0, 0))) (hu : IntsV W (.slice ua xs.length uc) xs) (hfit : off + dl ≤ R.length) :
    ∃ k W2, (Builtin.copy_ #[25, 25] 3 #[.slice (some ⟨g, off, none⟩) dl dc, .slice ua xs.length uc]).run Try.prog W = .ok (.int .i64 k) W2 ∧ W2.heap[g]? = some (Obj.cells (splice R off (nums (xs.take dl))).toArray t (0, 0)) ∧ W.grownBy W2 (some g) := by
  have hcl : (nums (xs.take dl)).length = Nat.min xs.length dl := by simp [nums_len, Nat.min_comm]
  by_cases h0 : Nat.min xs.length dl = 0
  · refine ⟨0, W, run_copy_none (P := Try.prog) W 25 25 3 2 _ _ dl dc xs.length uc Try.underlying25 size2 h0, ?_, grown_refl _ _⟩
    have : nums (xs.take dl) = [] := List.eq_nil_of_length_eq_zero (by omega)
    rw [this, hg]
    simp [splice]
  · have hpos : 0 < xs.length := by
      rcases Nat.eq_zero_or_pos xs.length with h | h
      · rw [h] at h0
        simp at h0
      · exact h
    obtain ⟨b, o, rfl, hall⟩ := SlV.all hu hpos
    have hmin : Nat.min xs.length dl ≤ dl := Nat.min_le_right _ _
    refine ⟨_, _, run_copy_row (P := Try.prog) W 25 25 3 2 g off dl dc ⟨b, o, none⟩ xs.length uc R.toArray t (nums (xs.take dl)) Try.underlying25 size2 hg hcl ?_ (by simp; omega) ?_, ?_, ?_⟩
    · intro j v hj
      have hjl : j < (nums (xs.take dl)).length := (List.getElem?_eq_some_iff.1 hj).1
      have hj2 : j < xs.length := by
        rw [hcl] at hjl
        exact Nat.lt_of_lt_of_le hjl (Nat.min_le_left _ _)
      have hj3 : j < dl := by
        rw [hcl] at hjl
        exact Nat.lt_of_lt_of_le hjl hmin
      have h1 : W.cell? ⟨b, o + j * 1, none⟩ = some (.int .i64 (xs.getD j 0)) := hall j hj2
      rw [Addr.add_lit]
      rw [Nat.mul_one] at h1
      rw [h1]
      simp [nums, hj2, hj3] at hj
      rw [← hj]
      simp [hj2]
    · exact nums_one _
    · rw [setRow_heap W g _ _ t _ hg]
      simp [splice]
    · exact ⟨rfl, rfl, rfl, by simp [World.setRow], fun k _ hr => setRow_other W g k _ (fun e => hr (by rw [e]))⟩

set_option maxHeartbeats 1000000 in
set_option maxRecDepth 100000 in
theorem laid_any (n : Nat) (first : Int) (args : List Int) (u : Value) (w : World) (hu : IntsV w u args) (hn : n ≤ 1000000) :
    Calls Try.prog 30 #[.int .i64 (n : Nat), .int .i64 first, u] w fun e w' => ∃ gp, e = .returned (.slice (some ⟨gp, 0, none⟩) n n) ∧ w.heap.size ≤ gp ∧ w'.heap[gp]? = some (Obj.cells (nums (laidL n first args)).toArray 2 (0, 0)) ∧ Below w.heap.size w w' := by
  obtain ⟨ua, uc, rfl⟩ := hu.slice
  have hmk := fun W => run_make2 n hn W
  have hB1 := bel1' w (.cells (nums (List.replicate n 0)).toArray 2)
  have hr1 : (w.alloc (.cells (nums (List.replicate n 0)).toArray 2)).heap[w.heap.size]? = some (Obj.cells (nums (List.replicate n 0)).toArray 2 (0, 0)) := heap_alloc_new w _
  obtain ⟨R0, hR0⟩ : ∃ R0, R0 = nums (List.replicate n 0) := ⟨_, rfl⟩
  rw [← hR0] at hr1 hB1
  simp only [← hR0] at hmk
  by_cases hf : 0 ≤ first ∧ first < (n : Int)
  · obtain ⟨f, rfl, hf2⟩ := nat_of hf
    have hL : Hid (laidL n (f : Int) args = splice (List.replicate n 0) f (args.take (n - f))) := by show _ = _; unfold laidL; rw [if_pos hf]; simp
    have hcut := fun W => run_from (g := w.heap.size) hf2 W
    have hu1 := hu.below hB1
    have hRl : R0.length = n := by rw [hR0]; simp [nums_len]
    obtain ⟨kk, W2, hrun, hr2, hg2⟩ := run_copy2 _ w.heap.size f (n - f) (n - f) R0 2 ua uc args hr1 hu1 (by omega)
    rw [hR0, nums_splice] at hr2
    have HR2 := hide hr2
    have HB2 := hide (hB1.grown hg2 (by simp) (fun k e => by simp at e; omega))
    clear hr1 hB1 hu1 hu hRl hR0 hr2 hg2
    go_enter Try.func30, Try.ntmps30
    go_wp2_with fail
    go_ret
    exact ⟨_, rfl, Nat.le_refl _, by rw [hL.out]; exact HR2.out, HB2.out⟩
  · have hL : Hid (laidL n first args = List.replicate n 0) := by show _ = _; unfold laidL; rw [if_neg hf]
    subst hR0
    have HR := hide hr1
    have HB := hide hB1
    by_cases h0 : 0 ≤ first
    · have h1 : (n : Int) ≤ first := by omega
      clear hr1 hB1 hf hu
      go_enter Try.func30, Try.ntmps30
      go_wp2_with fail
      go_ret
      exact ⟨_, rfl, Nat.le_refl _, by rw [hL.out]; exact HR.out, HB.out⟩
    · have h1 : first < 0 := by omega
      clear hr1 hB1 hf hu h0
      go_enter Try.func30, Try.ntmps30
      go_wp2_with fail
      go_ret
      exact ⟨_, rfl, Nat.le_refl _, by rw [hL.out]; exact HR.out, HB.out⟩
end Go.Proofs.Ytepmbkiojpffpaa
namespace Go.Proofs.Ytepmbkiojpffpaa
open Go.RowKit Ir

def z64 : List Int := List.replicate 64 0
def out0 (left : Int) : List Value := outL 0 0 (.slice none 0 0) z64 left
def row0 (r : Int) (av : Value) : List Value := rowL 0 0 (.slice none 0 0) z64 0 r (.slice none 0 0) av
theorem zero37 : (Try.prog.info? 37).map (fun i => (i.zero, i.size)) = some (some (.agg (out0 0).toArray), 68) := by kernel_rfl
theorem zero86 : (Try.prog.info? 88).map (fun i => (i.zero, i.size)) = some (some (.agg (row0 0 (.slice none 0 0)).toArray), 71) := by kernel_rfl
theorem build86 (r : Int) (aa : Option Addr) (an ac : Nat) (W : World) : (Instr.build 88 #[(1, .int .i64 r), (3, .slice aa an ac)]).run Try.prog W = .ok (.agg (row0 r (.slice aa an ac)).toArray) W := by kernel_rfl
theorem build37 (left : Int) (W : World) : (Instr.build 37 #[(4, .int .i64 left)]).run Try.prog W = .ok (.agg (out0 left).toArray) W := by kernel_rfl
theorem build37z (W : World) : (Instr.build 37 #[]).run Try.prog W = .ok (.agg (out0 0).toArray) W := by kernel_rfl
section
variable {P : Program} {ops : Array Oper} {rest : List Oper} {o : Oper} {a : Act} {w : World} {Q : Exit → Act → World → Prop}
theorem wpList_is {v : Value} {w' : World} (hgd : o.guard = none) (h : (execOp a.eval o).run P w = .ok (.value v) w') (hK : wpList P ops Q rest (a.put o.dst v) w') : wpList P ops Q (o :: rest) a w := by
  refine wpList_plain hgd fun K hK' => ?_
  unfold Oper.wp
  rw [h]
  exact hK' _ _ hK
theorem wpList_does {w' : World} (hgd : o.guard = none) (h : (execOp a.eval o).run P w = .ok .skip w') (hK : wpList P ops Q rest (a.put o.dst undef) w') : wpList P ops Q (o :: rest) a w := by
  refine wpList_plain hgd fun K hK' => ?_
  unfold Oper.wp
  rw [h]
  exact hK' _ _ hK
end
section
variable {ops : Array Oper} {rest : List Oper} {o : Oper} {a : Act} {w : World} {Q : Exit → Act → World → Prop}
/-- A struct is built out of two parts, of one, of none. -/
theorem wpList_build2 (hgd : o.guard = none) (t : TypeId) (i j : Nat) (x y : Operand) (ho : o.op = .build t #[(i, x), (j, y)]) (vx vy V : Value) (hx : a.eval x = vx) (hy : a.eval y = vy) (hb : (Instr.build t #[(i, vx), (j, vy)]).run Try.prog w = .ok V w) (hK : wpList Try.prog ops Q rest (a.put o.dst V) w) : wpList Try.prog ops Q (o :: rest) a w := by
  refine wpList_is hgd ?_ hK
  unfold execOp
  simp only [ho, List.map_toArray, List.map_cons, List.map_nil, hx, hy, Sem.run_bind, hb, Result.andThen_ok, Sem.run_pure]
theorem wpList_build1 (hgd : o.guard = none) (t : TypeId) (i : Nat) (x : Operand) (ho : o.op = .build t #[(i, x)]) (vx V : Value) (hx : a.eval x = vx) (hb : (Instr.build t #[(i, vx)]).run Try.prog w = .ok V w) (hK : wpList Try.prog ops Q rest (a.put o.dst V) w) : wpList Try.prog ops Q (o :: rest) a w := by
  refine wpList_is hgd ?_ hK
  unfold execOp
  simp only [ho, List.map_toArray, List.map_cons, List.map_nil, hx, Sem.run_bind, hb, Result.andThen_ok, Sem.run_pure]
theorem wpList_build0 (hgd : o.guard = none) (t : TypeId) (ho : o.op = .build t #[]) (V : Value) (hb : (Instr.build t #[]).run Try.prog w = .ok V w) (hK : wpList Try.prog ops Q rest (a.put o.dst V) w) : wpList Try.prog ops Q (o :: rest) a w := by
  refine wpList_is hgd ?_ hK
  unfold execOp
  simp only [ho, List.map_toArray, List.map_nil, Sem.run_bind, hb, Result.andThen_ok, Sem.run_pure]
/-- A new block. -/
theorem wpList_alloc (hgd : o.guard = none) (t : TypeId) (ho : o.op = .alloc t) (Z : Array Value) (hz : ∀ W, (zeroValue t).run Try.prog W = .ok (.agg Z) W) (hK : wpList Try.prog ops Q rest (a.put o.dst (.pointer (some ⟨w.heap.size, 0, none⟩))) (w.alloc (.cells Z t))) : wpList Try.prog ops Q (o :: rest) a w := by
  refine wpList_is hgd ?_ hK
  unfold execOp
  simp only [ho, Instr.alloc, Sem.run_bind, hz, Result.andThen_ok]
  rfl
/-- The same, with letters for the block and the world. -/
theorem wpList_alloc' (hgd : o.guard = none) (t : TypeId) (ho : o.op = .alloc t) (Z : Array Value) (hz : ∀ W, (zeroValue t).run Try.prog W = .ok (.agg Z) W) (hK : ∀ (g : Nat) (w' : World), Hid (g = w.heap.size ∧ w'.heap[g]? = some (Obj.cells Z t (0, 0)) ∧ Below g w w') → wpList Try.prog ops Q rest (a.put o.dst (.pointer (some ⟨g, 0, none⟩))) w') : wpList Try.prog ops Q (o :: rest) a w :=
  wpList_alloc hgd t ho Z hz (hK _ _ ⟨rfl, heap_alloc_new w _, bel1' w _⟩)
/-- A whole block is stored. -/
theorem wpList_store_whole (hgd : o.guard = none) (ty : TypeId) (x y : Operand) (ho : o.op = .store ty x y) (g : Nat) (t : TypeId) (old cells : Array Value) (hx : a.eval x = .pointer (some ⟨g, 0, none⟩)) (hy : a.eval y = .agg cells) (hg : w.heap[g]? = some (Obj.cells old t (0, 0))) (hi : (Try.prog.info? ty).map (·.size) = some cells.size) (hs : old.size = cells.size) (h1 : ∀ v ∈ cells.toList, v.oneCell' = true)
    (B : Nat) (w0 : World) (hb : Below B w0 w) (hB : B ≤ g) (hK : ∀ w', Hid (w'.heap[g]? = some (Obj.cells cells t (0, 0))) → Hid (w.grownBy w' (some g)) → Hid (Below B w0 w') → wpList Try.prog ops Q rest (a.put o.dst undef) w') : wpList Try.prog ops Q (o :: rest) a w := by
  refine wpList_does hgd ?_ (hK (w.setRow g cells) (setRow_heap w g _ _ t _ hg) ⟨rfl, rfl, rfl, by simp [World.setRow], fun k _ hr => setRow_other w g k _ (fun e => hr (by rw [e]))⟩ (below_setRow hb hB _))
  unfold execOp
  simp only [ho, hx, hy, Instr.storeAt, Instr.sureAddr, Sem.run_bind, Sem.run_pure, Result.andThen_ok, run_storeVar_row w g t ty old cells hg hi hs (Array.all_eq_true_iff_forall_mem.2 fun v hv => h1 v (by simpa using hv))]
/-- A variable: a new block, and what is stored into it. -/
theorem wpList_var {o2 : Oper} (T : TypeId) (d : Tmp) (hg1 : o.guard = none) (hg2 : o2.guard = none) (ho : o.op = .alloc T) (hd : o.dst = some d) (y : Operand) (ho2 : o2.op = .store T (.tmp d) y) (hd2 : o2.dst = none) (Z cells : Array Value) (hz : ∀ W, (zeroValue T).run Try.prog W = .ok (.agg Z) W) (hdl : d < a.tmps.size) (hy : (a.put (some d) (.pointer (some ⟨w.heap.size, 0, none⟩))).eval y = .agg cells) (hi : (Try.prog.info? T).map (·.size) = some cells.size) (hs : Z.size = cells.size) (h1 : ∀ v ∈ cells.toList, v.oneCell' = true)
    (hK : ∀ (g : Nat) (w' : World), Hid (g = w.heap.size ∧ w'.heap[g]? = some (Obj.cells cells T (0, 0)) ∧ Below g w w') → wpList Try.prog ops Q rest (a.put (some d) (.pointer (some ⟨g, 0, none⟩))) w') : wpList Try.prog ops Q (o :: o2 :: rest) a w := by
  refine wpList_alloc hg1 T ho Z hz ?_
  rw [hd]
  refine wpList_store_whole hg2 T (.tmp d) y ho2 w.heap.size T Z cells (by simp [Act.put, Act.eval, hdl]) hy (heap_alloc_new w _) hi hs h1 w.heap.size w (bel1' w _) (Nat.le_refl _) fun w' h2 _ h4 => ?_
  rw [hd2]
  exact hK _ _ ⟨rfl, h2.out, h4.out⟩
end
theorem outL_one {how val : Int} {cv : Value} {mem : List Int} {left : Int} (h : cv.oneCell' = true) : ∀ v ∈ outL how val cv mem left, v.oneCell' = true := by
  intro v hv
  simp only [outL, List.mem_cons, List.mem_append, List.not_mem_nil, or_false] at hv
  rcases hv with rfl | rfl | rfl | hv | rfl
  · rfl
  · rfl
  · exact h
  · exact nums_one _ v hv
  · rfl
theorem rowL_one {how val : Int} {cv : Value} {mem : List Int} {left r : Int} {pv av : Value} (h : cv.oneCell' = true) (hp : pv.oneCell' = true) (ha : av.oneCell' = true) : ∀ v ∈ rowL how val cv mem left r pv av, v.oneCell' = true := by
  intro v hv
  simp only [rowL, List.mem_cons, List.mem_append, List.not_mem_nil, or_false] at hv
  rcases hv with hv | rfl | rfl | rfl
  · exact outL_one h v hv
  · rfl
  · exact hp
  · exact ha
end Go.Proofs.Ytepmbkiojpffpaa
namespace Go.Proofs.Ytepmbkiojpffpaa
open Go Go.RowKit Ir
def ops_do2_ok : Array Oper := #[⟨some 17, .move (.tmp 1), 3, "run.go:35", #[], none⟩, ⟨some 18, .move (.tmp 0), 29, "run.go:35", #[], none⟩, ⟨some 19, .move (.tmp 2), 3, "run.go:35", #[], none⟩, ⟨some 20, .call { callee := Callee.value (Operand.func 31), args := #[.tmp 18, .tmp 19], argTypes := #[29, 3] }, 3, "run.go:35", #[⟨1, .data⟩, ⟨2, .data⟩], none⟩, ⟨some 21, .binOp .add 3 (.tmp 17) (.tmp 20) 3, 3, "run.go:35", #[⟨0, .data⟩, ⟨3, .data⟩], none⟩, ⟨some 22, .move (.tmp 3), 3, "run.go:35", #[], none⟩, ⟨some 23, .fieldAddr 27 (.tmp 9) 0, 0, "run.go:35", #[], none⟩, ⟨some 24, .load 25 (.tmp 23), 25, "run.go:35", #[⟨6, .data⟩], none⟩, ⟨some 25, .call { callee := Callee.value (Operand.func 30), args := #[.tmp 21, .tmp 22, .tmp 24], argTypes := #[3, 3, 25] }, 25, "run.go:35", #[⟨4, .data⟩, ⟨5, .data⟩, ⟨7, .data⟩, ⟨3, .chain⟩], none⟩, ⟨some 26, .fieldAddr 88 (.tmp 11) 2, 0, "run.go:35", #[⟨0, .phase⟩, ⟨1, .phase⟩, ⟨2, .phase⟩, ⟨3, .phase⟩, ⟨4, .phase⟩, ⟨5, .phase⟩, ⟨6, .phase⟩, ⟨7, .phase⟩, ⟨8, .phase⟩], none⟩, ⟨none, .store 25 (.tmp 26) (.tmp 25), 0, "run.go:35", #[⟨9, .data⟩, ⟨8, .data⟩, ⟨8, .chain⟩, ⟨0, .phase⟩, ⟨1, .phase⟩, ⟨2, .phase⟩, ⟨3, .phase⟩, ⟨4, .phase⟩, ⟨5, .phase⟩, ⟨6, .phase⟩, ⟨7, .phase⟩, ⟨8, .phase⟩], none⟩]
/-- What is known of each temporary. -/
def G_do2 (hs g gi n : Nat) (rr slots first : Int) (bs : List Blk) (L : List Int) (u ua : Value) : Tmp → Value → World → Prop
  | 17, xx, _ => xx = .int .i64 rr
  | 18, xx, _ => xx = u
  | 19, xx, _ => xx = .int .i64 slots
  | 20, xx, _ => xx = .int .i64 (rm bs slots)
  | 21, xx, _ => xx = .int .i64 (n : Nat)
  | 22, xx, _ => xx = .int .i64 first
  | 23, xx, _ => xx = .pointer (some ⟨gi, 0, none⟩)
  | 24, xx, _ => xx = ua
  | 25, xx, ww => ∃ gp, xx = .slice (some ⟨gp, 0, none⟩) n n ∧ hs ≤ gp ∧ ww.heap[gp]? = some (Obj.cells (nums L).toArray 2 (0, 0))
  | 26, xx, _ => xx = .pointer (some ⟨g, 69, none⟩)
  | _, _, _ => True

structure S2 (g n : Nat) (L : List Int) (wa : World) (l : Nat → Bool) (W : World) : Prop where
  a : l 10 = false → Below wa.heap.size wa W
  c : l 10 = true → ∃ gp W0, Below wa.heap.size wa W0 ∧ wa.heap.size ≤ gp ∧ W0.heap[gp]? = some (Obj.cells (nums L).toArray 2 (0, 0)) ∧ W = W0.setCell ⟨g, 69, none⟩ (.slice (some ⟨gp, 0, none⟩) n n)
section
variable {g n : Nat} {L : List Int} {wa : World} {l : Nat → Bool} {W W' : World}
theorem S2.skip (h : S2 g n L wa l W) {j : Nat} (hj : j ≠ 10) : S2 g n L wa (upd l j) W := by
  have u : upd l j 10 = l 10 := if_neg (fun e => hj e.symm)
  exact ⟨by rw [u]; exact h.a, by rw [u]; exact h.c⟩
theorem S2.grow (h : S2 g n L wa l W) {j : Nat} (hj : j ≠ 10) (n10 : l 10 = false) (hB : Below W.heap.size W W') : S2 g n L wa (upd l j) W' := by
  have u : upd l j 10 = l 10 := if_neg (fun e => hj e.symm)
  exact ⟨fun _ => bel_of (h.a n10) hB, fun h => by rw [u, n10] at h; cases h⟩
theorem G_mono {hs gi : Nat} {rr slots first : Int} {bs : List Blk} {u ua : Value} {t : Tmp} {y : Value} (h : G_do2 hs g gi n rr slots first bs L u ua t y W) (hB : Below W.heap.size W W') : G_do2 hs g gi n rr slots first bs L u ua t y W' := by
  unfold G_do2 at h ⊢
  split
  all_goals
    first
      | exact h
      | (obtain ⟨gp, e1, e2, e3⟩ := h; exact ⟨gp, e1, e2, by rw [hB.block gp (Array.getElem?_eq_some_iff.1 e3).1]; exact e3⟩)
      | trivial
theorem G_store {gi : Nat} {rr slots first : Int} {bs : List Blk} {u ua v : Value} {t : Tmp} {y : Value} (h : G_do2 wa.heap.size g gi n rr slots first bs L u ua t y W) (hg : g < wa.heap.size) : G_do2 wa.heap.size g gi n rr slots first bs L u ua t y (W.setCell ⟨g, 69, none⟩ v) := by
  unfold G_do2 at h ⊢
  split
  all_goals
    first
      | exact h
      | (obtain ⟨gp, e1, e2, e3⟩ := h; exact ⟨gp, e1, e2, by rw [Below.heap_setCell _ _ _ _ (by simp only; omega)]; exact e3⟩)
      | trivial
end
set_option maxHeartbeats 1000000 in
set_option maxRecDepth 100000 in
theorem do2_ok {Q : Exit → Act → World → Prop} {a0 : Act} {wa : World} {g gi n : Nat} {rr slots first : Int} {bs : List Blk} {args : List Int} {u ua : Value} (hz : a0.tmps.size = 50) (b0 : a0.eval (.tmp 0) = u) (b1 : a0.eval (.tmp 1) = .int .i64 rr) (b2 : a0.eval (.tmp 2) = .int .i64 slots) (b3 : a0.eval (.tmp 3) = .int .i64 first) (b9 : a0.eval (.tmp 9) = .pointer (some ⟨gi, 0, none⟩)) (b11 : a0.eval (.tmp 11) = .pointer (some ⟨g, 0, none⟩))
    (hu : BlksV wa u bs) (hbs : ∀ b ∈ bs, b.ins.length ≤ 1000 ∧ ∀ i ∈ b.ins, OkS i) (hbl : bs.length ≤ 1000) (hua : IntsV wa ua args) (hi0 : wa.cell? ⟨gi, 0, none⟩ = some ua) (hn : n ≤ 1000000) (hrn : rr + rm bs slots = (n : Int)) {yy : Value} (hc69 : wa.cell? ⟨g, 69, none⟩ = some yy) (hf69 : wa.frozen? ⟨g, 69, none⟩ = false) (hg : g < wa.heap.size)
    (hend : ∀ (q : Tmp → Value) (gp : Nat) (W0 : World), Below wa.heap.size wa W0 → wa.heap.size ≤ gp → W0.heap[gp]? = some (Obj.cells (nums (laidL n first args)).toArray 2 (0, 0)) → Q .normal (overlay a0 (dstsOf ops_do2_ok) q) (W0.setCell ⟨g, 69, none⟩ (.slice (some ⟨gp, 0, none⟩) n n))) : (Code.region 2 ops_do2_ok true).wp Try.prog Q a0 wa := by
  have hnn : (n : Int) ≤ 1000000 := by omega
  refine L.wp_region_eachL (by kernel_rfl) (fun _ tt yv W => G_do2 wa.heap.size g gi n rr slots first bs (laidL n first args) u ua tt yv W) (fun l W => S2 g n (laidL n first args) wa l W) (by rw [hz]; kernel_rfl) ⟨fun _ => (Below.refl _ _).drew, fun h => by simp at h⟩ ?_ ?_
  · refine And.intro ?_ (And.intro ?_ (And.intro ?_ (And.intro ?_ (And.intro ?_ (And.intro ?_ (And.intro ?_ (And.intro ?_ (And.intro ?_ (And.intro ?_ (And.intro ?_ trivial))))))))))
    · refine L.asked_pure rfl rfl (fun _ _ h => h.skip (by decide)) (fun _ _ _ _ _ h => h) (fun _ _ _ => rfl) (fun l a W H => ?_)
      have e1 : a.eval (.tmp 1) = .int .i64 rr := (H.base 1 rfl).trans b1
      exact run_move rfl e1
    · refine L.asked_pure rfl rfl (fun _ _ h => h.skip (by decide)) (fun _ _ _ _ _ h => h) (fun _ _ _ => rfl) (fun l a W H => ?_)
      have e0 : a.eval (.tmp 0) = u := (H.base 0 rfl).trans b0
      exact run_move rfl e0
    · refine L.asked_pure rfl rfl (fun _ _ h => h.skip (by decide)) (fun _ _ _ _ _ h => h) (fun _ _ _ => rfl) (fun l a W H => ?_)
      have e2 : a.eval (.tmp 2) = .int .i64 slots := (H.base 2 rfl).trans b2
      exact run_move rfl e2
    · refine L.asked_call rfl Try.func31 (by kernel_rfl) (by kernel_rfl) rfl rfl (fun l a W H => ?_)
      have e18 : a.eval (.tmp 18) = u := H.facts 18 rfl
      have e19 : a.eval (.tmp 19) = .int .i64 slots := H.facts 19 rfl
      have ea : (#[.tmp 18, .tmp 19] : Array Operand).map a.eval = #[u, .int .i64 slots] := by simp only [List.map_toArray, List.map_cons, List.map_nil, e18, e19]
      rw [ea]
      have n10 : l 10 = false := by
        cases hs : l 10 with
        | false => rfl
        | true =>
          have h1 := (H.closed 10 3 (by rfl) hs)
          rw [H.new] at h1
          cases h1
      have hb := H.s.a n10
      refine (room_any u bs slots W (hu.below hb) hbs hbl).mono ?_
      rintro e w' ⟨rfl, hB⟩
      exact ⟨_, rfl, rfl, H.s.grow (by decide) n10 hB, fun _ _ _ h => G_mono h hB⟩
    · refine L.asked_pure rfl rfl (fun _ _ h => h.skip (by decide)) (fun _ _ _ _ _ h => h) (fun _ _ _ => rfl) (fun l a W H => ?_)
      have e17 : a.eval (.tmp 17) = .int .i64 rr := H.facts 17 rfl
      have e20 : a.eval (.tmp 20) = .int .i64 (rm bs slots) := H.facts 20 rfl
      (simp only [execOp]; try simp only [Option.map]); (try simp only [List.map_toArray, List.map_cons, List.map_nil]); (simp only [e17, e20]; go_simp)
      all_goals (try first | go_num | omega | (rw [IntKind.wrap_i64]; omega) | (rw [IntKind.wrap_u8]; omega))
    · refine L.asked_pure rfl rfl (fun _ _ h => h.skip (by decide)) (fun _ _ _ _ _ h => h) (fun _ _ _ => rfl) (fun l a W H => ?_)
      have e3 : a.eval (.tmp 3) = .int .i64 first := (H.base 3 rfl).trans b3
      exact run_move rfl e3
    · refine L.asked_pure rfl rfl (fun _ _ h => h.skip (by decide)) (fun _ _ _ _ _ h => h) (fun _ _ _ => rfl) (fun l a W H => ?_)
      have e9 : a.eval (.tmp 9) = .pointer (some ⟨gi, 0, none⟩) := (H.base 9 rfl).trans b9
      (simp only [execOp]; try simp only [Option.map]); (try simp only [List.map_toArray, List.map_cons, List.map_nil]); (simp only [e9]; go_simp)
      all_goals (try first | go_num | omega | (rw [IntKind.wrap_i64]; omega) | (rw [IntKind.wrap_u8]; omega))
    · refine L.asked_pure rfl rfl (fun _ _ h => h.skip (by decide)) (fun _ _ _ _ _ h => h) (fun _ _ _ => rfl) (fun l a W H => ?_)
      have e23 : a.eval (.tmp 23) = .pointer (some ⟨gi, 0, none⟩) := H.facts 23 rfl
      have n10 : l 10 = false := by
        cases hs : l 10 with
        | false => rfl
        | true =>
          have h1 := (H.closed 10 7 (by rfl) hs)
          rw [H.new] at h1
          cases h1
      have hcc := cell_below (H.s.a n10) hi0
      (simp only [execOp]; try simp only [Option.map]); (simp only [e23]; go_simp)
    · refine L.asked_call rfl Try.func30 (by kernel_rfl) (by kernel_rfl) rfl rfl (fun l a W H => ?_)
      have e21 : a.eval (.tmp 21) = .int .i64 (n : Nat) := H.facts 21 rfl
      have e22 : a.eval (.tmp 22) = .int .i64 first := H.facts 22 rfl
      have e24 : a.eval (.tmp 24) = ua := H.facts 24 rfl
      have ea : (#[.tmp 21, .tmp 22, .tmp 24] : Array Operand).map a.eval = #[.int .i64 (n : Nat), .int .i64 first, ua] := by simp only [List.map_toArray, List.map_cons, List.map_nil, e21, e22, e24]
      rw [ea]
      have n10 : l 10 = false := by
        cases hs : l 10 with
        | false => rfl
        | true =>
          have h1 := (H.closed 10 8 (by rfl) hs)
          rw [H.new] at h1
          cases h1
      have hb := H.s.a n10
      refine (laid_any n first args ua W (hua.below hb) hn).mono ?_
      rintro e w' ⟨gp, rfl, hgp, hrow, hB⟩
      exact ⟨_, rfl, ⟨gp, rfl, Nat.le_trans hb.size hgp, hrow⟩, H.s.grow (by decide) n10 hB, fun _ _ _ h => G_mono h hB⟩
    · refine L.asked_pure rfl rfl (fun _ _ h => h.skip (by decide)) (fun _ _ _ _ _ h => h) (fun _ _ _ => rfl) (fun l a W H => ?_)
      have e11 : a.eval (.tmp 11) = .pointer (some ⟨g, 0, none⟩) := (H.base 11 rfl).trans b11
      (simp only [execOp]; try simp only [Option.map]); (try simp only [List.map_toArray, List.map_cons, List.map_nil]); (simp only [e11]; go_simp)
      all_goals (try first | go_num | omega | (rw [IntKind.wrap_i64]; omega) | (rw [IntKind.wrap_u8]; omega))
    · refine L.asked_skip rfl rfl (fun l a W H => ?_)
      obtain ⟨gp, e25, hgp, hrow⟩ : ∃ gp, a.eval (.tmp 25) = .slice (some ⟨gp, 0, none⟩) n n ∧ wa.heap.size ≤ gp ∧ W.heap[gp]? = some (Obj.cells (nums (laidL n first args)).toArray 2 (0, 0)) := H.facts 25 rfl
      have e26 : a.eval (.tmp 26) = .pointer (some ⟨g, 69, none⟩) := H.facts 26 rfl
      have hb := H.s.a H.new
      have hcc := cell_below hb hc69
      have hff := (hb.frozen (p := ⟨g, 69, none⟩) hg).trans hf69
      refine ⟨W.setCell ⟨g, 69, none⟩ (.slice (some ⟨gp, 0, none⟩) n n), ?_, ⟨fun h => (by simp [upd] at h), fun _ => ⟨gp, W, hb, hgp, hrow, rfl⟩⟩, fun d u hG => G_store hG hg⟩
      (simp only [execOp]; try simp only [Option.map]); (simp only [e25, e26]; go_simp)
  · intro l q W hall hS _
    obtain ⟨gp, W0, h1, h2, h3, rfl⟩ := hS.c (hall 10 (by decide))
    exact hend q gp W0 h1 h2 h3
def ops_do3_ok : Array Oper := #[⟨some 27, .fieldAddr 88 (.tmp 11) 0, 0, "run.go:36", #[], none⟩, ⟨some 28, .fieldAddr 37 (.tmp 27) 3, 0, "run.go:36", #[⟨0, .data⟩], none⟩, ⟨some 29, .slice 35 (.tmp 28) none none none, 25, "run.go:36", #[⟨1, .data⟩], none⟩, ⟨some 30, .fieldAddr 27 (.tmp 9) 1, 0, "run.go:36", #[], none⟩, ⟨some 31, .load 25 (.tmp 30), 25, "run.go:36", #[⟨3, .data⟩], none⟩, ⟨some 32, .call { callee := Callee.builtin Builtin.copy, args := #[.tmp 29, .tmp 31], argTypes := #[25, 25] }, 3, "run.go:36", #[⟨2, .data⟩, ⟨4, .data⟩], none⟩]
/-- What is known of each temporary. -/
def G_do3_ok (g gi mn mc : Nat) (k : Int) (ma : Option Addr) : Tmp → Value → World → Prop
  | 27, xx, _ => xx = .pointer (some ⟨g, 0, none⟩)
  | 28, xx, _ => xx = .pointer (some ⟨g, 3, none⟩)
  | 29, xx, _ => xx = .slice (some ⟨g, 3, none⟩) 64 64
  | 30, xx, _ => xx = .pointer (some ⟨gi, 1, none⟩)
  | 31, xx, _ => xx = .slice ma mn mc
  | 32, xx, _ => xx = .int .i64 k
  | _, _, _ => True
set_option maxHeartbeats 1000000 in
set_option maxRecDepth 100000 in
theorem do3_ok {Q : Exit → Act → World → Prop} {a0 : Act} {wa : World} {g gi mn mc : Nat} {k : Int} {ma : Option Addr} {W1 : World} (hz : a0.tmps.size = 50) (b9 : a0.eval (.tmp 9) = .pointer (some ⟨gi, 0, none⟩)) (b11 : a0.eval (.tmp 11) = .pointer (some ⟨g, 0, none⟩))
    (m1 : wa.cell? ⟨gi, 1, none⟩ = some (.slice ma mn mc))  (hrun : (Builtin.copy_ #[25, 25] 3 #[.slice (some ⟨g, 3, none⟩) 64 64, .slice ma mn mc]).run Try.prog wa.drew = .ok (.int .i64 k) W1)
    (hend : ∀ s : Tmp → Value, Q .normal (overlay a0 (dstsOf ops_do3_ok) s) W1) : (Code.region 3 ops_do3_ok true).wp Try.prog Q a0 wa := by
  have m1 : wa.drew.cell? ⟨gi, 1, none⟩ = some (.slice ma mn mc) := m1
  refine L.wp_region_eachL (by kernel_rfl) (fun _ tt yv _ => G_do3_ok g gi mn mc k ma tt yv wa) (fun l W => W = if l 5 = true then W1 else wa.drew) (by rw [hz]; kernel_rfl) rfl ?_ ?_
  · refine And.intro ?_ (And.intro ?_ (And.intro ?_ (And.intro ?_ (And.intro ?_ (And.intro ?_ trivial)))))
    · refine L.asked_pure rfl rfl (fun _ _ h => h) (fun _ _ _ _ _ h => h) (fun _ _ _ => rfl) (fun l a W H => ?_)
      have e11 : a.eval (.tmp 11) = .pointer (some ⟨g, 0, none⟩) := (H.base 11 rfl).trans b11
      (simp only [execOp]; try simp only [Option.map]); (try simp only [List.map_toArray, List.map_cons, List.map_nil]); (simp only [e11]; go_simp)
      all_goals (try first | go_num | omega | (rw [IntKind.wrap_i64]; omega) | (rw [IntKind.wrap_u8]; omega))
    · refine L.asked_pure rfl rfl (fun _ _ h => h) (fun _ _ _ _ _ h => h) (fun _ _ _ => rfl) (fun l a W H => ?_)
      have e27 : a.eval (.tmp 27) = .pointer (some ⟨g, 0, none⟩) := H.facts 27 rfl
      (simp only [execOp]; try simp only [Option.map]); (try simp only [List.map_toArray, List.map_cons, List.map_nil]); (simp only [e27]; go_simp)
      all_goals (try first | go_num | omega | (rw [IntKind.wrap_i64]; omega) | (rw [IntKind.wrap_u8]; omega))
    · refine L.asked_pure rfl rfl (fun _ _ h => h) (fun _ _ _ _ _ h => h) (fun _ _ _ => rfl) (fun l a W H => ?_)
      have e28 : a.eval (.tmp 28) = .pointer (some ⟨g, 3, none⟩) := H.facts 28 rfl
      (simp only [execOp]; try simp only [Option.map]); (try simp only [List.map_toArray, List.map_cons, List.map_nil]); (simp only [e28]; go_simp)
      all_goals (try first | go_num | omega | (rw [IntKind.wrap_i64]; omega) | (rw [IntKind.wrap_u8]; omega))
    · refine L.asked_pure rfl rfl (fun _ _ h => h) (fun _ _ _ _ _ h => h) (fun _ _ _ => rfl) (fun l a W H => ?_)
      have e9 : a.eval (.tmp 9) = .pointer (some ⟨gi, 0, none⟩) := (H.base 9 rfl).trans b9
      (simp only [execOp]; try simp only [Option.map]); (try simp only [List.map_toArray, List.map_cons, List.map_nil]); (simp only [e9]; go_simp)
      all_goals (try first | go_num | omega | (rw [IntKind.wrap_i64]; omega) | (rw [IntKind.wrap_u8]; omega))
    · refine L.asked_pure rfl rfl (fun _ _ h => h) (fun _ _ _ _ _ h => h) (fun _ _ _ => rfl) (fun l a W H => ?_)
      have n5 : l 5 = false := by
        cases hs : l 5 with
        | false => rfl
        | true =>
          have h1 := (H.closed 5 4 (by rfl) hs)
          rw [H.new] at h1
          cases h1
      have hW : wa.drew = W := (H.s.trans (by simp only [n5, if_false, Bool.false_eq_true])).symm
      subst hW
      have e30 : a.eval (.tmp 30) = .pointer (some ⟨gi, 1, none⟩) := H.facts 30 rfl
      (simp only [execOp]; try simp only [Option.map]); (try simp only [List.map_toArray, List.map_cons, List.map_nil]); (simp only [e30]; go_simp)
      all_goals (try first | go_num | omega | (rw [IntKind.wrap_i64]; omega) | (rw [IntKind.wrap_u8]; omega))
    · refine L.asked_any rfl (fun l a W H => ?_)
      have n5 : l 5 = false := H.new
      have hW : wa.drew = W := (H.s.trans (by simp only [n5, if_false, Bool.false_eq_true])).symm
      subst hW
      have e29 : a.eval (.tmp 29) = .slice (some ⟨g, 3, none⟩) 64 64 := H.facts 29 rfl
      have e31 : a.eval (.tmp 31) = .slice ma mn mc := H.facts 31 rfl
      refine ⟨.int .i64 k, W1, ?_, fun d hd => by cases hd; rfl, ?_, fun _ _ _ h => h⟩
      · simp only [execOp, resolve, invoke, builtin, Sem.run_bind, Sem.run_pure, Result.andThen_ok, List.map_toArray, List.map_cons, List.map_nil, e29, e31, hrun]
      · simp [upd]
  · intro l s W hall hS hs
    rw [if_pos (hall 5 (by decide))] at hS
    have hS := Eq.symm hS
    subst hS
    exact hend s
end Go.Proofs.Ytepmbkiojpffpaa
