/- A run's call: a call is noted, and answered. -/
import Derived.Test.YtepmbkiojpffpaaSb
import Derived.Test.YtepmbkiojpffpaaMade1
namespace Go.Proofs.Ytepmbkiojpffpaa
open Go.RowKit Ir

theorem info2 : (Try.prog.info? 2).map (fun i => (i.zero, i.size, i.bytes)) = some (some (.int .i64 0), 1, 8) := by kernel_rfl
theorem info58 : (Try.prog.info? 75).map (fun i => (i.zero, i.size, i.bytes)) = some (some (.agg #[.int .i64 0, .slice none 0 0]), 2, 32) := by kernel_rfl
/-- 'append(xs, y)' of one number, the call's own. -/
theorem run_app2 {B : Nat} (w : World) {ua : Value} {xs : List Int} (hO : NumsO B w ua xs) {h : Nat} {x : Int} (hc : w.cell? ⟨h, 0, none⟩ = some (.int .i64 x)) (hl : xs.length ≤ 1000000) (hB : B ≤ w.heap.size) :
    ∃ va vn vc w', (Builtin.append_ #[25, 25] 25 #[ua, .slice (some ⟨h, 0, none⟩) 1 1]).run Try.prog w = .ok (.slice va vn vc) w' ∧ NumsO B w' (.slice va vn vc) (xs ++ [x]) ∧ w.grownBy w' ua.ownBlock := by
  obtain ⟨i, hi, hz, hsize, hby⟩ := info_parts info2
  obtain ⟨v', w', hr, h2, h3, _⟩ := run_append_own (P := Try.prog) w B 25 25 2 i (.int .i64 0) 1 8 Try.underlying25 hi hz hsize hby rfl (by decide) ua _ _ hO ⟨h, 0, none⟩ 1 1 [.int .i64 x] (by simp)
    (by intro j u hj; match j, hj with | 0, hj => simp at hj; subst hj; rw [Addr.add_lit]; exact hc) (by intro u hu; simp at hu; subst hu; rfl) (by unfold maxLen; omega) (by omega) hB
  have h2' : NumsO B w' v' (xs ++ [x]) := owns_cast h2 (by simp) (by simp [nums])
  obtain ⟨ao, cap, rfl⟩ := h2'.v.slice
  exact ⟨_, _, _, w', hr, h2', h3⟩
/-- 'append(calls, c)' of one call, the call's own. -/
theorem run_app58 {B : Nat} (w : World) {cv : Value} {ps : List (Cl × Value)} (hO : w.ownsRow B 75 2 cv ps.length (cellsC ps)) {h : Nat} {n : Int} {ua : Option Addr} {un uc : Nat} (hh : w.heap[h]? = some (Obj.cells #[.int .i64 n, .slice ua un uc] 75 (0, 0))) (hl : ps.length ≤ 2000000) (hB : B ≤ w.heap.size) :
    ∃ va vn vc w', (Builtin.append_ #[34, 34] 34 #[cv, .slice (some ⟨h, 0, none⟩) 1 1]).run Try.prog w = .ok (.slice va vn vc) w' ∧ w'.ownsRow B 75 2 (.slice va vn vc) (ps.length + 1) (cellsC ps ++ [.int .i64 n, .slice ua un uc]) ∧ w.grownBy w' cv.ownBlock := by
  obtain ⟨i, hi, hz, hsize, hby⟩ := info_parts info58
  obtain ⟨v', w', hr, h2, h3, _⟩ := run_append_own (P := Try.prog) w B 34 34 75 i _ 2 32 Try.underlying34 hi hz hsize hby rfl (by decide) cv _ _ hO ⟨h, 0, none⟩ 1 1 [.int .i64 n, .slice ua un uc] rfl
    (by intro j c hj; rw [Addr.add_lit, Nat.zero_add, cell_of_row _ _ _ _ _ _ hh]; simpa using hj) (by intro c hc; simp at hc; rcases hc with rfl | rfl <;> rfl) (by unfold maxLen; omega) (by omega) hB
  have hsl : ∃ va vn vc, v' = .slice va vn vc := by
    rcases h2.2 with ⟨rfl, _⟩ | ⟨g, cap, cur, rfl, _⟩
    · exact ⟨_, _, _, rfl⟩
    · exact ⟨_, _, _, rfl⟩
  obtain ⟨va, vn, vc, rfl⟩ := hsl
  exact ⟨va, vn, vc, w', hr, h2, h3⟩
/-- One call more. -/
theorem RunAt.called {B g gp : Nat} {r : Int} {w W1 W2 : World} {s : St} {cv av : Value} {c : Cl} {ua : Option Addr} {un uc vn vc : Nat} {va : Option Addr} {ps : List (Cl × Value)} {Bu : Nat} (h : RunAt B g gp r w 0 0 s cv av) (hB1 : Below w.heap.size w W1)
    (h1 : ps.map (·.1) = s.calls) (h3 : ∀ p ∈ ps, NumsO B w p.2 p.1.args ∧ p.2.ownBlock ≠ some gp) (hcv : W1.ownsRow B 75 2 cv ps.length (cellsC ps)) (hO : W2.ownsRow B 75 2 (.slice va vn vc) (ps.length + 1) (cellsC ps ++ [.int .i64 c.n, .slice ua un uc])) (hg : W1.grownBy W2 cv.ownBlock)
    (hu : NumsO Bu W1 (.slice ua un uc) c.args) (hBu : gp < Bu) (hBB : B ≤ Bu) :
    RunAt B g gp r (W2.setCell ⟨g, 2, none⟩ (.slice va vn vc)) 0 0 { s with calls := s.calls ++ [c] } (.slice va vn vc) av ∧ Mv B gp w (W2.setCell ⟨g, 2, none⟩ (.slice va vn vc)) := by
  have hR1 := h.of hB1
  have hcb : ∀ k, cv.ownBlock = some k → B ≤ k ∧ ∃ cs, W1.heap[k]? = some (Obj.cells cs 75 (0, 0)) := by
    intro k e
    refine ⟨(hcv.lt k e).1, ?_⟩
    rcases hcv.2 with ⟨rfl, _⟩ | ⟨k', cap, cur, rfl, _, hkk, _⟩
    · simp [Value.ownBlock] at e
    · simp [Value.ownBlock] at e
      subst e
      exact ⟨_, hkk⟩
  have hm2 : Mv B gp W1 W2 := by
    refine ⟨(Below.refl _ _).grown hg hR1.size.1 fun k e => (hcb k e).1, Keeps.grown hcv rfl hg, fun k cs _ hk => ?_⟩
    rw [hg.block k (Array.getElem?_eq_some_iff.1 hk).1 (fun e => ?_)]
    · exact hk
    · obtain ⟨_, cs', hk'⟩ := hcb k e.symm
      rw [hk] at hk'
      simp at hk'
  have hrow : W2.heap[g]? = _ := (hg.block g hR1.size.2.1 (fun e => by
    obtain ⟨_, cs', hk'⟩ := hcb g e.symm
    rw [hR1.row] at hk'
    simp at hk')).trans hR1.row
  have hpl : W2.heap[gp]? = _ := (hg.block gp hR1.size.2.2 (fun e => by
    obtain ⟨_, cs', hk'⟩ := hcb gp e.symm
    rw [hR1.places] at hk'
    simp at hk')).trans hR1.places
  have hub : (Value.slice ua un uc).ownBlock ≠ some gp := fun e => by
    have := (hu.own gp e).1
    omega
  have hm1 : Mv B gp w W1 := Mv.of hB1 h.size.1
  have hC : CallsO B gp W2 (.slice va vn vc) (s.calls ++ [c]) := by
    refine ⟨ps ++ [(c, .slice ua un uc)], by simp [h1], ?_, fun p hp => ?_⟩
    · rw [cellsC_snoc, List.length_append]
      exact hO
    · rcases List.mem_append.1 hp with hp | hp
      · exact ⟨(hm1.trans hm2).numsO (h3 p hp).1 (h3 p hp).2, (h3 p hp).2⟩
      · simp at hp
        subst hp
        exact ⟨owns_mono (hm2.numsO hu hub) hBB, hub⟩
  have hmv : Mv B gp W2 (W2.setCell ⟨g, 2, none⟩ (.slice va vn vc)) := Mv.set86 hrow h.hg _
  refine ⟨⟨?_, ?_, (h.ans.below (hm1.below.trans hm2.below)).below hmv.below, h.mem, ?_, h.hg, h.hp, h.small⟩, (hm1.trans hm2).trans hmv⟩
  · rw [heap_setCell_same W2 g 2 _ _ _ hrow]
    simp only [List.setIfInBounds_toArray, rowL_set2]
  · refine hC.mv hmv fun k cs hk => ?_
    rw [Below.heap_setCell _ _ _ _ (fun e => ?_)]
    · exact hk
    · simp only at e
      subst e
      rw [hrow] at hk
      simp at hk
  · rw [Below.heap_setCell _ _ _ _ (fun e => ?_)]
    · exact hpl
    · simp only at e
      rw [e, hrow] at hpl
      simp at hpl

theorem take_snoc (s : St) (args : List Int) (j : Nat) (h : j < args.length) : (args.take (j + 1)).map (pg s.p) = (args.take j).map (pg s.p) ++ [pg s.p (args.getD j 0)] := by
  have e : args.take (j + 1) = args.take j ++ [args.getD j 0] := by rw [List.take_add_one]; simp [List.getElem?_eq_getElem h]
  rw [e, List.map_append]
  rfl
set_option maxHeartbeats 2000000 in
set_option maxRecDepth 100000 in
theorem call_any (B g gp : Nat) (r : Int) (w : World) (s : St) (cv av : Value) (i : Ins) (u : Value) (h : RunAt B g gp r w 0 0 s cv av) (hu : IntsV w u i.args) (hl : i.args.length ≤ 3) (ha : ∀ x ∈ i.args, 0 ≤ x ∧ x < (s.p.length : Int)) (hc : s.calls.length ≤ 1048576) :
    Calls Try.prog 58 #[.pointer (some ⟨g, 0, none⟩), insV i u] w fun e w' => e = .returned (.int .i64 (s.ans.headD 0)) ∧ (∃ cv' av', RunAt B g gp r w' 0 0 { s with calls := s.calls ++ [⟨i.n, i.args.map (pg s.p)⟩], ans := s.ans.tail } cv' av') ∧ Mv B gp w w' := by
  obtain ⟨k, op, d, a, b, nn, args⟩ := i
  simp only at hu hl ha
  have hBx := bel1' w (bxI ⟨k, op, d, a, b, nn, args⟩ u)
  have hR1 := h.of hBx
  obtain ⟨b0, b1, b2, b3, b4, b5, b6⟩ := bxI_cells w ⟨k, op, d, a, b, nn, args⟩ u
  obtain ⟨ao, cap, rfl⟩ := hu.slice
  have hu1 := hu.below hBx
  simp only [bxI, Nat.zero_add] at b0 b1 b2 b3 b4 b5 b6 hR1 hBx hu1
  have hM1 : Mv B gp w _ := Mv.of hBx h.size.1
  have HR := hide hR1
  have HM := hide hM1
  have HU := hide hu1
  unfold insV
  simp only
  have hsz1 : (w.alloc (.cells #[.int .u8 k, .int .u8 op, .int .i64 d, .int .i64 a, .int .i64 b, .int .i64 nn, .slice ao args.length cap] 65)).heap.size = w.heap.size + 1 := by simp
  clear h hR1 hM1 hBx b0 b1 b2 b3 b4 hu hu1
  go_enter Try.func58, Try.ntmps58
  go_wp2_with fail
  generalize w.alloc (.cells #[.int .u8 k, .int .u8 op, .int .i64 d, .int .i64 a, .int .i64 b, .int .i64 nn, .slice ao args.length cap] 65) = W1 at *
  rw [← hsz1]
  have hA0 := bel1' W1 (.cells #[.int .i64 nn, .slice none 0 0] 75)
  have hr0 : (W1.alloc (.cells #[.int .i64 nn, .slice none 0 0] 75)).heap[W1.heap.size]? = some (Obj.cells #[.int .i64 nn, .slice none 0 0] 75 (0, 0)) := heap_alloc_new W1 _
  have hgc : ∃ gc, W1.heap.size = gc := ⟨_, rfl⟩
  obtain ⟨gc, hgc⟩ := hgc
  rw [hgc] at hr0 hA0 ⊢
  have HGC := hide hgc
  have HREL := hide (And.intro hr0 hA0)
  have hgpc : gp < gc := by have := HR.out.size; omega
  have hBgc : B ≤ gc := by have := HR.out.size; omega
  clear hr0 hA0 hsz1 hgc
  go_loopw [15] (fun iv wr => ∃ (j : Nat) (ua : Value), j ≤ args.length ∧ iv = .int .i64 j ∧ wr.heap[gc]? = some (Obj.cells #[.int .i64 nn, ua] 75 (0, 0)) ∧ NumsO gc wr ua ((args.take j).map (pg s.p)) ∧ Below gc W1 wr) (fun iv _ => args.length - (intOf iv).toNat)
  case atStart => exact ⟨0, _, by omega, rfl, HREL.out.1, NumsO.nil _ _, HREL.out.2⟩
  case round =>
    obtain ⟨j, ua, hj, rfl, hr, hO, hBr⟩ := hrel
    have hBw : Below W1.heap.size W1 wr := by rw [HGC.out]; exact hBr
    have hgs : gc ≤ wr.heap.size := by rw [← HGC.out]; exact hBr.size
    by_cases hlt : j < args.length
    · have hu1 := HU.out.below hBw
      obtain ⟨ab, aoff, rfl, hcell⟩ := IntsV.at hu1 j hlt
      obtain ⟨yn, hy, hy2⟩ := nat_of (ha (args.getD j 0) (by simp [List.getElem?_eq_getElem hlt]))
      have HT := hide (take_snoc s args j hlt)
      rw [hy] at hcell HT
      have hRr := HR.out.of hBw
      obtain ⟨x, hx⟩ : ∃ x, pg s.p (yn : Int) = x := ⟨_, rfl⟩
      rw [hx] at HT
      have hxl : ((args.take j).map (pg s.p)).length ≤ 1000000 := by simp; omega
      generalize (args.take j).map (pg s.p) = xs at *
      obtain ⟨ua1, uc1, rfl⟩ := hO.v.slice
      obtain ⟨WA, hWA⟩ : ∃ WA, (wr.alloc (.cells #[.int .i64 x] 2)).drew = WA := ⟨_, rfl⟩
      have hBA : Below wr.heap.size wr WA := by rw [← hWA]; exact (bel1' wr _).drew
      have hrA : WA.heap[wr.heap.size]? = some (Obj.cells #[.int .i64 x] 2 (0, 0)) := by rw [← hWA]; exact heap_alloc_new wr _
      have hOA : NumsO gc WA _ xs := hO.kept fun k e => hBA.block k (hO.own k e).2.1
      obtain ⟨va, vn, vc, W2, hrun, hO2, hg2⟩ := run_app2 WA hOA (h := wr.heap.size) (x := x) (by rw [cell_of_row _ _ _ _ _ _ hrA]; rfl) hxl (Nat.le_trans hgs hBA.size)
      have hrow2 : W2.heap[gc]? = some (Obj.cells #[.int .i64 nn, .slice ua1 xs.length uc1] 75 (0, 0)) := by
        rw [hg2.block _ (Nat.lt_of_lt_of_le (Array.getElem?_eq_some_iff.1 hr).1 hBA.size) (fun e => ?_), hBA.block _ (Array.getElem?_eq_some_iff.1 hr).1]
        · exact hr
        · obtain ⟨_, _, cs, hcs⟩ := hO.own _ e.symm
          rw [hr] at hcs
          simp at hcs
      have hB2 : Below gc W1 W2 := (bel_to hBr hBA hgs).grown hg2 (Nat.le_trans hgs hBA.size) fun k e => (hO.own k e).1
      have hc1 : wr.cell? ⟨gc, 1, none⟩ = some (.slice ua1 xs.length uc1) := by rw [cell_of_row _ _ _ _ _ _ hr]; rfl
      have hcA : WA.cell? ⟨gc, 1, none⟩ = some (.slice ua1 xs.length uc1) := cell_below hBA hc1
      have hc2 : W2.cell? ⟨gc, 1, none⟩ = some (.slice ua1 xs.length uc1) := by rw [cell_of_row _ _ _ _ _ _ hrow2]; rfl
      have hf2 : W2.frozen? ⟨gc, 1, none⟩ = false := frozen_of_row _ _ _ _ _ hrow2
      have hrow3 : (W2.setCell ⟨gc, 1, none⟩ (.slice va vn vc)).heap[gc]? = some (Obj.cells #[.int .i64 nn, .slice va vn vc] 75 (0, 0)) := by
        rw [heap_setCell_same W2 _ 1 _ _ _ hrow2]
        rfl
      have hO3 : NumsO gc (W2.setCell ⟨gc, 1, none⟩ (.slice va vn vc)) (.slice va vn vc) (xs ++ [x]) := hO2.kept fun k e => Below.heap_setCell _ _ _ _ (fun e2 => by
        simp only at e2
        subst e2
        obtain ⟨_, _, cs, hcs⟩ := hO2.own _ e
        rw [hrow2] at hcs
        simp at hcs)
      have hB3 : Below gc W1 (W2.setCell ⟨gc, 1, none⟩ (.slice va vn vc)) := hB2.setCell (Nat.le_refl _) _
      have HREL3 := hide (And.intro hrow3 (And.intro hO3 hB3))
      have HF := hide (And.intro hc1 (And.intro hcA (And.intro hc2 hf2)))
      have HRUN := hide (And.intro hRr.c69 (And.intro (hRr.pp hy2 hx) hrun))
      have hyl : (yn : Int) < (s.p.length : Int) := by omega
      have hlt' : (j : Int) < (args.length : Int) := by omega
      clear hBw hgs hrow3 hO3 hB3 hB2 hrow2 hg2 hO2 hOA hrA hBA hO hr hBr hu1 hRr hc1 hcA hc2 hf2 hrun hxl hx
      go_wp2_with fail
      refine ca5_ok (g := g) (gp := gp) (gc := gc) (n := s.p.length) rfl rfl rfl rfl HF.out.1 HF.out.2.1 HF.out.2.2.1 HRUN.out.1 HRUN.out.2.1 HF.out.2.2.2 rfl hWA hyl HRUN.out.2.2 rfl ?_
      intro q
      simp [overlay, dstsOf, ops_ca5_ok]
      go_wp2_with fail
      go_roundw
      case rel => exact ⟨j + 1, _, by omega, by go_num, HREL3.out.1, by rw [HT.out]; exact HREL3.out.2.1, HREL3.out.2.2⟩
      case measure => simp [intOf]; omega
    · obtain rfl : j = args.length := by omega
      rw [List.take_length] at hO
      have hRr := HR.out.of hBw
      obtain ⟨ua1, uc1, rfl⟩ := hO.v.slice
      generalize (args.map (pg s.p)).length = un at *
      obtain ⟨ps, q1, q2, q3⟩ := hRr.calls
      have hpl : ps.length ≤ 2000000 := by
        have := congrArg List.length q1
        simp at this
        omega
      obtain ⟨WA, hWA⟩ : ∃ WA, (wr.alloc (.cells #[.int .i64 nn, .slice ua1 un uc1] 75)).drew = WA := ⟨_, rfl⟩
      have hBA : Below wr.heap.size wr WA := by rw [← hWA]; exact (bel1' wr _).drew
      have hrA : WA.heap[wr.heap.size]? = some (Obj.cells #[.int .i64 nn, .slice ua1 un uc1] 75 (0, 0)) := by rw [← hWA]; exact heap_alloc_new wr _
      have hcA : WA.ownsRow B 75 2 cv ps.length (cellsC ps) := owns_below q2 hBA
      have hOA : NumsO gc WA (.slice ua1 un uc1) (args.map (pg s.p)) := hO.kept fun k e => hBA.block k (hO.own k e).2.1
      obtain ⟨va, vn, vc, W2, hrun, hO2, hg2⟩ := run_app58 WA hcA hrA hpl (Nat.le_trans hRr.size.1 hBA.size)
      obtain ⟨hR3, hM3⟩ := hRr.called (c := ⟨nn, args.map (pg s.p)⟩) hBA q1 q3 hcA hO2 hg2 hOA hgpc hBgc
      have hM4 : Mv B gp w _ := (HM.out.trans (Mv.of hBw HR.out.size.1)).trans hM3
      have hk0 : wr.cell? ⟨gc, 0, none⟩ = some (.int .i64 nn) := by rw [cell_of_row _ _ _ _ _ _ hr]; rfl
      have hk1 : wr.cell? ⟨gc, 1, none⟩ = some (.slice ua1 un uc1) := by rw [cell_of_row _ _ _ _ _ _ hr]; rfl
      have hg1 : W2.cell? ⟨g, 2, none⟩ = some cv ∧ W2.frozen? ⟨g, 2, none⟩ = false := by
        have hne : ¬ some g = cv.ownBlock := fun e => by
          rcases hcA.2 with ⟨rfl, _⟩ | ⟨k', cap', cur, rfl, _, hkk, _⟩
          · simp [Value.ownBlock] at e
          · simp [Value.ownBlock] at e
            subst e
            rw [hBA.block _ hRr.size.2.1, hRr.row] at hkk
            simp at hkk
        have hrow : W2.heap[g]? = _ := (hg2.block g (Nat.lt_of_lt_of_le hRr.size.2.1 hBA.size) hne).trans ((hBA.block g hRr.size.2.1).trans hRr.row)
        exact ⟨by rw [cell_of_row _ _ _ _ _ _ hrow]; rfl, frozen_of_row _ _ _ _ _ hrow⟩
      have HF := hide (And.intro hk0 (And.intro hk1 (And.intro hRr.c2 (And.intro (cell_below hBA hRr.c2) (And.intro hg1 hrun)))))
      have HR3 := hide hR3
      have HM3 := hide hM4
      clear hR3 hM3 hM4 hk0 hk1 hg1 hrun hO2 hg2 hOA hcA hrA hBA hRr q1 q2 q3 hpl hO hr hBw hgs hBr hlt HR HM HU HREL
      go_wp2_with fail
      refine ca7_ok (g := g) (gc := gc) rfl rfl rfl HF.out.1 HF.out.2.1 HF.out.2.2.1 HF.out.2.2.2.1 HF.out.2.2.2.2.1.1 HF.out.2.2.2.2.1.2 rfl hWA HF.out.2.2.2.2.2 rfl ?_
      intro q
      simp [overlay, dstsOf, ops_ca7_ok]
      clear HF hWA
      generalize W2.setCell ⟨g, 2, none⟩ (.slice va vn vc) = W3 at *
      have c70 := HR3.out.c70
      cases hans : s.ans with
      | nil =>
        obtain ⟨aa, ac, rfl⟩ := SlV.slice HR3.out.ans
        simp only [hans, List.length_nil] at c70
        go_wp2_with fail
        go_ret
        have hh := HR3.out
        rw [hans] at hh
        exact ⟨rfl, ⟨_, _, hh⟩, HM3.out⟩
      | cons x0 rest =>
        obtain ⟨aa, ac, rfl⟩ := SlV.slice HR3.out.ans
        have hA := HR3.out.ans
        have hR4 := fun (av' : Value) (xs : List Int) => HR3.out.answered (av' := av') (xs := xs)
        simp only [hans, List.length_cons] at c70 hA hR4
        obtain ⟨ab, aoff, rfl, hx0, _⟩ := SlV.at hA 0 (by simp)
        simp only [Nat.zero_mul, Nat.add_zero, List.getD_cons_zero] at hx0
        have hx0 : W3.cell? ⟨ab, aoff, none⟩ = some (.int .i64 x0) := hx0
        have hrun : ∀ W, (Instr.sliceAt 25 (.slice (some ⟨ab, aoff, none⟩) (rest.length + 1) ac) (some (.int .i64 1)) none none).run Try.prog W = .ok (tailV (some ⟨ab, aoff, none⟩) ac (rest.length + 1)) W := fun W => run_tail64 (by omega) W
        have ht := hA.tail
        have hone : ∃ ao' n' c', tailV (some ⟨ab, aoff, none⟩) ac (rest.length + 1) = .slice ao' n' c' := ⟨_, _, _, rfl⟩
        generalize tailV (some ⟨ab, aoff, none⟩) ac (rest.length + 1) = u at *
        obtain ⟨ao', n', c', rfl⟩ := hone
        obtain ⟨hR5, hM5⟩ := hR4 _ _ ht
        have HR5 := hide hR5
        have HM5 := hide (HM3.out.trans hM5)
        have f70 := HR3.out.fr 70
        have hlen : ((rest.length : Int) + 1 == 0) = false := by rw [beq_eq_false_iff_ne]; omega
        clear hR4 hR5 hM5 ht hA HR3 HM3
        go_wp2_with fail
        go_ret
        refine ⟨by rw [hans]; rfl, ?_, HM5.out⟩
        rw [hans]
        exact ⟨_, _, HR5.out⟩
end Go.Proofs.Ytepmbkiojpffpaa
