/- run.room: how many slots need a place; run.laid: the places. -/
import Derived.Test.YtepmbkiojpffpaaSk
namespace Go.Proofs.Ytepmbkiojpffpaa
open Go.RowKit Ir

namespace Ir
def nm1 (m : Int) (i : Ins) : Int := if i.k = 7 then max m (i.d + 1) else if i.k = 8 then max m (i.a + 1) else m
def nmB (m : Int) (b : Blk) : Int := b.ins.foldl nm1 m
def nmd (bs : List Blk) : Int := bs.foldl nmB 0
/-- How many slots need a place. -/
def rm (bs : List Blk) (slots : Int) : Int := max (min (nmd bs) slots) 0
def OkS (i : Ins) : Prop := (i.k = 7 → 0 ≤ i.d ∧ i.d < 1000) ∧ (i.k = 8 → 0 ≤ i.a ∧ i.a < 1000)
theorem nm1_in {m : Int} {i : Ins} (hi : OkS i) (h : 0 ≤ m ∧ m ≤ 1000) : 0 ≤ nm1 m i ∧ nm1 m i ≤ 1000 := by
  unfold nm1
  split
  · rename_i e; have := hi.1 e; omega
  · split
    · rename_i e; have := hi.2 e; omega
    · exact h
theorem nms_in : ∀ {is : List Ins} {m : Int}, (∀ i ∈ is, OkS i) → 0 ≤ m ∧ m ≤ 1000 → 0 ≤ is.foldl nm1 m ∧ is.foldl nm1 m ≤ 1000
  | [], _, _, h => h
  | i :: is, m, hi, h => nms_in (is := is) (fun x hx => hi x (by simp [hx])) (nm1_in (hi i (by simp)) h)
theorem nmd_in : ∀ {bs : List Blk} {m : Int}, (∀ b ∈ bs, ∀ i ∈ b.ins, OkS i) → 0 ≤ m ∧ m ≤ 1000 → 0 ≤ bs.foldl nmB m ∧ bs.foldl nmB m ≤ 1000
  | [], _, _, h => h
  | b :: bs, m, hb, h => nmd_in (bs := bs) (fun x hx => hb x (by simp [hx])) (nms_in (hb b (by simp)) h)
theorem take_fold {α β : Type} (f : β → α → β) (z : α) (l : List α) (j : Nat) (h : j < l.length) (m : β) : (l.take (j + 1)).foldl f m = f ((l.take j).foldl f m) (l.getD j z) := by
  have e : l.take (j + 1) = l.take j ++ [l.getD j z] := by rw [List.take_add_one]; simp [List.getElem?_eq_getElem h]
  rw [e, List.foldl_append]
  rfl
theorem okS_of {r : Int} {n : Nat} {i : Ins} (h : OkI r n i) : OkS i := ⟨fun e => ⟨(h.d7 e).1, (h.d7 e).2.1⟩, fun e => ⟨(h.a8 e).1, (h.a8 e).2.1⟩⟩
end Ir

set_option maxHeartbeats 2000000 in
set_option maxRecDepth 100000 in
theorem room_any (u : Value) (bs : List Blk) (slots : Int) (w : World) (hu : BlksV w u bs) (hb : ∀ b ∈ bs, b.ins.length ≤ 1000 ∧ ∀ i ∈ b.ins, OkS i) (hl : bs.length ≤ 1000) :
    Calls Try.prog 31 #[u, .int .i64 slots] w fun e w' => e = .returned (.int .i64 (rm bs slots)) ∧ Below w.heap.size w w' := by
  obtain ⟨ub, cb, rfl⟩ := hu.slice
  go_enter Try.func31, Try.ntmps31
  go_wp2_with fail
  go_loopw [5, 12] (fun nv iv wr => ∃ j : Nat, j ≤ bs.length ∧ iv = .int .i64 j ∧ nv = .int .i64 ((bs.take j).foldl nmB 0) ∧ Below w.heap.size w wr) (fun _ iv _ => bs.length - (intOf iv).toNat)
  case atStart => exact ⟨0, by omega, rfl, rfl, Below.refl _ _⟩
  case round =>
    obtain ⟨j, hj, rfl, rfl, hBr⟩ := hrel
    rename World => wo
    by_cases hlt : j < bs.length
    · obtain ⟨gb, off, rfl, ui, ⟨c0, c1, c2, c3, c4⟩, hui⟩ := SlV.at (hu.below hBr) j hlt
      have hstep := hide (take_fold nmB Blk.zero bs j hlt 0)
      obtain ⟨hbl, hbo⟩ := hb (bs.getD j Blk.zero) (by simp [List.getElem?_eq_getElem hlt])
      have hin := nmd_in (bs := bs.take j) (m := 0) (fun b hb' i hi => (hb b (List.mem_of_mem_take hb')).2 i hi) (by omega)
      generalize bs.getD j Blk.zero = b at *
      generalize (bs.take j).foldl nmB 0 = m0 at *
      obtain ⟨is, e⟩ := b
      simp only at c1 c2 c3 c4 hui hbl hbo
      obtain ⟨ai, ci, rfl⟩ := hui.slice
      have hBx := hBr.alloc hBr.size (.cells #[.slice ai is.length ci, .int .u8 e.k, .int .i64 e.a, .int .i64 e.to, .int .i64 e.el] 60)
      have hui2 := hui.below (bel1' wo (.cells #[.slice ai is.length ci, .int .u8 e.k, .int .i64 e.a, .int .i64 e.to, .int .i64 e.el] 60))
      have HU := hide hui2
      have HBX := hide hBx
      have hlt' : (j : Int) < (bs.length : Int) := by omega
      clear hui hui2 hBx
      go_wp2_with fail
      clear c0 c1 c2 c3 c4
      have hBr2 := HBX.out
      generalize wo.alloc (.cells #[.slice ai is.length ci, .int .u8 e.k, .int .i64 e.a, .int .i64 e.to, .int .i64 e.el] 60) = W1 at *
      go_loopw [5, 19] (fun nv iv wr => ∃ q : Nat, q ≤ is.length ∧ iv = .int .i64 q ∧ nv = .int .i64 ((is.take q).foldl nm1 m0) ∧ Below W1.heap.size W1 wr) (fun _ iv _ => is.length - (intOf iv).toNat)
      case atStart => exact ⟨0, by omega, rfl, rfl, Below.refl _ _⟩
      case round =>
        obtain ⟨q, hq, rfl, rfl, hBq⟩ := hrel
        rename World => wi
        by_cases hlq : q < is.length
        · obtain ⟨ab, aoff, rfl, ua, hcells, hua⟩ := SlV.at (HU.out.below hBq) q hlq
          have hst := hide (take_fold nm1 Ins.zero is q hlq m0)
          have hok := hbo (is.getD q Ins.zero) (by simp [List.getElem?_eq_getElem hlq])
          have hin2 := nms_in (is := is.take q) (m := m0) (fun i hi => hbo i (List.mem_of_mem_take hi)) hin
          generalize is.getD q Ins.zero = i at *
          generalize (is.take q).foldl nm1 m0 = m1 at *
          obtain ⟨k, op, d, a, b, nn, args⟩ := i
          obtain ⟨d0, d1, d2, d3, d4, d5, d6⟩ := hcells
          simp only at d0 d1 d2 d3 d4 d5 d6 hua
          obtain ⟨uz, cz, rfl⟩ := hua.slice
          have hBy := hBq.alloc hBq.size (.cells #[.int .u8 k, .int .u8 op, .int .i64 d, .int .i64 a, .int .i64 b, .int .i64 nn, .slice uz args.length cz] 65)
          have HBY := hide hBy
          have hlq' : (q : Int) < (is.length : Int) := by omega
          obtain ⟨m2, hm2⟩ : ∃ m2, nm1 m1 ⟨k, op, d, a, b, nn, args⟩ = m2 := ⟨_, rfl⟩
          rw [hm2] at hst
          have HM2 := hide hm2
          clear hBy hua hBq hm2
          by_cases h7 : k = 7
          · subst h7
            have hd := hok.1 rfl
            simp only at hd
            have hmx : ∀ ts t W, (Builtin.max_ ts t #[.int .i64 m1, .int .i64 (d + 1)]).run Try.prog W = .ok (.int .i64 m2) W := by
              intro ts t W
              have : m2 = max m1 (d + 1) := by rw [← HM2.out]; simp [nm1]
              rw [run_max_int2, this]
              congr 2
              split <;> omega
            clear hok
            go_wp2_with fail
            go_roundw
            case rel => exact ⟨q + 1, by omega, by go_num, by rw [hst.out], HBY.out⟩
            case measure => simp [intOf]; omega
          · have h7b : (k == 7) = false := by simpa using h7
            by_cases h8 : k = 8
            · subst h8
              have hd := hok.2 rfl
              simp only at hd
              have hmx : ∀ ts t W, (Builtin.max_ ts t #[.int .i64 m1, .int .i64 (a + 1)]).run Try.prog W = .ok (.int .i64 m2) W := by
                intro ts t W
                have : m2 = max m1 (a + 1) := by rw [← HM2.out]; simp [nm1]
                rw [run_max_int2, this]
                congr 2
                split <;> omega
              clear hok h7
              go_wp2_with fail
              go_roundw
              case rel => exact ⟨q + 1, by omega, by go_num, by rw [hst.out], HBY.out⟩
              case measure => simp [intOf]; omega
            · have h8b : (k == 8) = false := by simpa using h8
              have hmm : Hid (m2 = m1) := by show _ = _; rw [← HM2.out]; simp [nm1, h7, h8]
              clear hok h7 h8
              go_wp2_with fail
              go_roundw
              case rel => exact ⟨q + 1, by omega, by go_num, by rw [hst.out, hmm.out], HBY.out⟩
              case measure => simp [intOf]; omega
        · obtain rfl : q = is.length := by omega
          rw [List.take_length]
          have hf : Hid (is.foldl nm1 m0 = nmB m0 ⟨is, e⟩) := rfl
          have HBQ := hide (bel_to hBr2 hBq hBr2.size)
          generalize is.foldl nm1 m0 = m1 at *
          clear hBq
          go_wp2_with fail
          go_roundw
          case rel => exact ⟨j + 1, by omega, by go_num, by rw [hstep.out, hf.out], HBQ.out⟩
          case measure => simp [intOf]; omega
    · obtain rfl : j = bs.length := by omega
      rw [List.take_length]
      have hf : Hid (rm bs slots = max (min (bs.foldl nmB 0) slots) 0) := rfl
      have HBR := hide hBr
      generalize bs.foldl nmB 0 = m0 at *
      obtain ⟨m1, hm1⟩ : ∃ m1, m1 = min m0 slots := ⟨_, rfl⟩
      obtain ⟨m2, hm2⟩ : ∃ m2, m2 = max m1 0 := ⟨_, rfl⟩
      have hmn : ∀ ts t W, (Builtin.min_ ts t #[.int .i64 m0, .int .i64 slots]).run Try.prog W = .ok (.int .i64 m1) W := by
        intro ts t W
        rw [run_min_int2, hm1]
        congr 2
        split <;> omega
      have hmx : ∀ ts t W, (Builtin.max_ ts t #[.int .i64 m1, .int .i64 0]).run Try.prog W = .ok (.int .i64 m2) W := by
        intro ts t W
        rw [run_max_int2, hm2]
        congr 2
        split <;> omega
      have HF : Hid (rm bs slots = m2) := by show _ = _; rw [hf.out, hm2, hm1]
      clear hf hBr hm1 hm2
      go_wp2_with fail
      go_ret
      exact ⟨by rw [HF.out]; rfl, HBR.out⟩
end Go.Proofs.Ytepmbkiojpffpaa
