/- A run's bin: a KBin is done, or traps. -/
import Derived.Test.YtepmbkiojpffpaaRg
import Derived.Test.YtepmbkiojpffpaaMade1
namespace Go.Proofs.Ytepmbkiojpffpaa
open Go.RowKit Ir

/-- A number that is not below 0. -/
theorem nat_of {x : Int} {n : Nat} (h : 0 ≤ x ∧ x < (n : Int)) : ∃ k : Nat, x = (k : Int) ∧ k < n := ⟨x.toNat, by omega, by omega⟩
/-- An instruction's box. -/
def bxI (i : Ins) (u : Value) : Obj := .cells #[.int .u8 i.k, .int .u8 i.op, .int .i64 i.d, .int .i64 i.a, .int .i64 i.b, .int .i64 i.n, u] 65
theorem bxI_cells (w : World) (i : Ins) (u : Value) : InsCells (w.alloc (bxI i u)) w.heap.size 0 i u := by
  unfold bxI
  refine ⟨?_, ?_, ?_, ?_, ?_, ?_, ?_⟩
  all_goals (rw [cell_of_row _ _ _ _ _ _ (heap_alloc_new w _)]; rfl)

set_option maxHeartbeats 1000000 in
set_option maxRecDepth 100000 in
theorem bin_any (B g gp : Nat) (r : Int) (w : World) (s : St) (cv av : Value) (i : Ins) (u : Value) (h : RunAt B g gp r w 0 0 s cv av) (hk : i.k = 3) (hi : OkI r s.p.length i) :
    Calls Try.prog 56 #[.pointer (some ⟨g, 0, none⟩), insV i u] w fun e w' => (∃ v, e = .returned v) ∧ Came B g gp r w' (act r i s) ∧ Mv B gp w w' := by
  obtain ⟨k, op, d, a, b, nn, args⟩ := i
  simp only at hk
  subst hk
  have hop := hi.op rfl
  obtain ⟨dn, hd, hd2⟩ := nat_of (hi.d (by simp) (by simp))
  obtain ⟨an, ha, ha2⟩ := nat_of (hi.a (by simp) (by simp) (by simp))
  obtain ⟨bn, hb, hb2⟩ := nat_of (hi.b (by simp))
  simp only at hd ha hb hop
  subst hd ha hb
  have hBx := bel1' w (bxI ⟨3, op, dn, an, bn, nn, args⟩ u)
  have hR1 := h.of hBx
  obtain ⟨b0, b1, b2, b3, b4, b5, b6⟩ := bxI_cells w ⟨3, op, dn, an, bn, nn, args⟩ u
  simp only [bxI, Nat.zero_add] at b0 b1 b2 b3 b4 b5 b6 hR1 hBx
  have hM1 : Mv B gp w _ := Mv.of hBx h.size.1
  have HR := hide hR1
  have HM := hide hM1
  have hdl : (dn : Int) < (s.p.length : Int) := by omega
  have hal : (an : Int) < (s.p.length : Int) := by omega
  have hbl : (bn : Int) < (s.p.length : Int) := by omega
  have HB := hide (And.intro b1 (And.intro b2 (And.intro b3 b4)))
  unfold insV
  clear h hR1 hM1 hBx hi b0 b1 b2 b3 b4 b5 b6
  go_enter Try.func56, Try.ntmps56
  go_wp2_with fail
  generalize w.alloc (.cells #[.int .u8 3, .int .u8 op, .int .i64 dn, .int .i64 an, .int .i64 bn, .int .i64 nn, u] 65) = W1 at *
  generalize w.heap.size = gb at *
  obtain ⟨xa, hxa⟩ : ∃ xa, pg s.p (an : Int) = xa := ⟨_, rfl⟩
  obtain ⟨xb, hxb⟩ : ∃ xb, pg s.p (bn : Int) = xb := ⟨_, rfl⟩
  refine bn1_ok (g := g) (gp := gp) (n := s.p.length) (x := xa) (y := xb) rfl rfl rfl HB.out.1 HB.out.2.2.1 HB.out.2.2.2 HR.out.c69 (HR.out.pp ha2 hxa) (HR.out.pp hb2 hxb) hal hbl hop ?_
  intro q h4 h5
  simp [overlay, dstsOf, ops_bn1_ok, h4, h5]
  have hdr : Below W1.heap.size W1 W1.drew := (Below.refl _ _).drew
  have hR2 := HR.out.of hdr
  have hM2 : Mv B gp w W1.drew := HM.out.trans (Mv.of hdr HR.out.size.1)
  have b2 : W1.drew.cell? ⟨gb, 2, none⟩ = some (.int .i64 dn) := HB.out.2.1
  generalize hW2 : W1.drew = W2 at *
  clear HR HM hdr hW2 HB h4 h5
  have HR := hide hR2
  have HM := hide hM2
  clear hR2 hM2
  by_cases ht : op = 7 ∧ xb = 0
  · have hrk : rsk op xb = false := by unfold rsk; rw [decide_eq_true ht]; rfl
    have hE : Hid (act r ⟨3, op, dn, an, bn, nn, args⟩ s = .inr ⟨2, 0, s.calls, s.mem, s.left⟩) := by
      show _ = _
      simp only [act, hxb]
      simp [ht]
    obtain ⟨hR3, hM3⟩ := HR.out.put (j := 0) (u := .int .i64 2) (how' := 2) (val' := 0) (mem' := s.mem) (left' := s.left) HR.out.calls HR.out.ans HR.out.mem (rowL_set0 2)
    have HR3 := hide hR3
    have HM3 := hide (HM.out.trans hM3)
    have c0 := HR.out.c0
    have f0 := HR.out.fr 0
    clear hR3 hM3 HR HM
    rw [hrk]
    go_wp2_with fail
    refine bodyPost_ret (results_none rfl _ _ _) rfl ?_
    refine ⟨⟨_, rfl⟩, ?_, HM3.out⟩
    rw [hE.out]
    exact ⟨_, _, _, HR3.out, rfl, rfl, rfl⟩
  · have hrk : rsk op xb = true := by unfold rsk; rw [decide_eq_false ht]; rfl
    have hrv : rsv op xa xb = bnd op xa xb := by unfold rsv; rw [if_neg ht]
    have hE : Hid (act r ⟨3, op, dn, an, bn, nn, args⟩ s = .inl { s with p := s.p.set dn (bnd op xa xb) }) := by
      show _ = _
      simp only [act, hxa, hxb]
      simp [ht, pst]
    obtain ⟨hR3, hM3⟩ := (HR.out.of (Below.refl _ _).drew).place dn (bnd op xa xb)
    have HR3 := hide hR3
    have HM3 := hide ((HM.out.trans (Mv.of (Below.refl _ _).drew HR.out.size.1)).trans hM3)
    clear hR3 hM3 HM
    rw [hrk, hrv]
    go_wp2_with fail
    refine bn4_ok (g := g) (gp := gp) (n := s.p.length) rfl rfl rfl rfl b2 HR.out.c69 (HR.out.pc hd2) (HR.out.pf dn) hdl ?_
    intro q
    simp [overlay, dstsOf, ops_bn4_ok]
    go_wp2_with fail
    go_end0
    refine ⟨⟨_, rfl⟩, ?_, HM3.out⟩
    rw [hE.out]
    exact ⟨_, _, HR3.out⟩
end Go.Proofs.Ytepmbkiojpffpaa
namespace Go.Proofs.Ytepmbkiojpffpaa
open Go.RowKit Ir

theorem info2 : (Try.prog.info? 2).map (fun i => (i.zero, i.size, i.bytes)) = some (some (.int .i64 0), 1, 8) := by kernel_rfl
theorem info58 : (Try.prog.info? 75).map (fun i => (i.zero, i.size, i.bytes)) = some (some (.agg #[.int .i64 0, .slice none 0 0]), 2, 32) := by kernel_rfl
/-- 'append(xs, y)' of one number, the call's own. -/
theorem run_app2 {B : Nat} (w : World) {ua : Value} {xs : List Int} (hO : NumsO B w ua xs) {h : Nat} {x : Int} (hc : w.cell? ⟨h, 0, none⟩ = some (.int .i64 x)) (hl : xs.length ≤ 1000000) (hB : B ≤ w.heap.size) :
    ∃ va vn vc w', (Builtin.append_ #[25, 25] 25 #[ua, .slice (some ⟨h, 0, none⟩) 1 1]).run Try.prog w = .ok (.slice va vn vc) w' ∧ NumsO B w' (.slice va vn vc) (xs ++ [x]) ∧ w.grownBy w' ua.ownBlock := by
  obtain ⟨i, hi, hz, hsize, hby⟩ := info_parts info2
  obtain ⟨v', w', hr, h2, h3, _⟩ := run_append_own (P := Try.prog) w B 25 25 2 i (.int .i64 0) 1 8 Try.underlying25 hi hz hsize hby rfl (by decide) ua _ _ hO ⟨h, 0, none⟩ 1 1 [.int .i64 x] (by simp)
    (by intro j u hj; match j, hj with | 0, hj => simp at hj; subst hj; rw [Addr.add_lit]; exact hc) (by intro u hu; simp at hu; subst hu; rfl) (by unfold maxLen; omega) (by omega) hB
  have h2' : NumsO B w' v' (xs ++ [x]) := owns_cast h2 (by simp) (by simp [nums])
  obtain ⟨ao, cap, rfl⟩ := h2'.v.slice
  exact ⟨_, _, _, w', hr, h2', h3⟩
/-- 'append(calls, c)' of one call, the call's own. -/
theorem run_app58 {B : Nat} (w : World) {cv : Value} {ps : List (Cl × Value)} (hO : w.ownsRow B 75 2 cv ps.length (cellsC ps)) {h : Nat} {n : Int} {ua : Option Addr} {un uc : Nat} (hh : w.heap[h]? = some (Obj.cells #[.int .i64 n, .slice ua un uc] 75 (0, 0))) (hl : ps.length ≤ 2000000) (hB : B ≤ w.heap.size) :
    ∃ va vn vc w', (Builtin.append_ #[34, 34] 34 #[cv, .slice (some ⟨h, 0, none⟩) 1 1]).run Try.prog w = .ok (.slice va vn vc) w' ∧ w'.ownsRow B 75 2 (.slice va vn vc) (ps.length + 1) (cellsC ps ++ [.int .i64 n, .slice ua un uc]) ∧ w.grownBy w' cv.ownBlock := by
  obtain ⟨i, hi, hz, hsize, hby⟩ := info_parts info58
  obtain ⟨v', w', hr, h2, h3, _⟩ := run_append_own (P := Try.prog) w B 34 34 75 i _ 2 32 Try.underlying34 hi hz hsize hby rfl (by decide) cv _ _ hO ⟨h, 0, none⟩ 1 1 [.int .i64 n, .slice ua un uc] rfl
    (by intro j c hj; rw [Addr.add_lit, Nat.zero_add, cell_of_row _ _ _ _ _ _ hh]; simpa using hj) (by intro c hc; simp at hc; rcases hc with rfl | rfl <;> rfl) (by unfold maxLen; omega) (by omega) hB
  have hsl : ∃ va vn vc, v' = .slice va vn vc := by
    rcases h2.2 with ⟨rfl, _⟩ | ⟨g, cap, cur, rfl, _⟩
    · exact ⟨_, _, _, rfl⟩
    · exact ⟨_, _, _, rfl⟩
  obtain ⟨va, vn, vc, rfl⟩ := hsl
  exact ⟨va, vn, vc, w', hr, h2, h3⟩
/-- One call more. -/
theorem RunAt.called {B g gp : Nat} {r : Int} {w W1 W2 : World} {s : St} {cv av : Value} {c : Cl} {ua : Option Addr} {un uc vn vc : Nat} {va : Option Addr} {ps : List (Cl × Value)} {Bu : Nat} (h : RunAt B g gp r w 0 0 s cv av) (hB1 : Below w.heap.size w W1)
    (h1 : ps.map (·.1) = s.calls) (h3 : ∀ p ∈ ps, NumsO B w p.2 p.1.args ∧ p.2.ownBlock ≠ some gp) (hcv : W1.ownsRow B 75 2 cv ps.length (cellsC ps)) (hO : W2.ownsRow B 75 2 (.slice va vn vc) (ps.length + 1) (cellsC ps ++ [.int .i64 c.n, .slice ua un uc])) (hg : W1.grownBy W2 cv.ownBlock)
    (hu : NumsO Bu W1 (.slice ua un uc) c.args) (hBu : gp < Bu) (hBB : B ≤ Bu) :
    RunAt B g gp r (W2.setCell ⟨g, 2, none⟩ (.slice va vn vc)) 0 0 { s with calls := s.calls ++ [c] } (.slice va vn vc) av ∧ Mv B gp w (W2.setCell ⟨g, 2, none⟩ (.slice va vn vc)) := by
  have hR1 := h.of hB1
  have hcb : ∀ k, cv.ownBlock = some k → B ≤ k ∧ ∃ cs, W1.heap[k]? = some (Obj.cells cs 75 (0, 0)) := by
    intro k e
    refine ⟨(hcv.lt k e).1, ?_⟩
    rcases hcv.2 with ⟨rfl, _⟩ | ⟨k', cap, cur, rfl, _, hkk, _⟩
    · simp [Value.ownBlock] at e
    · simp [Value.ownBlock] at e
      subst e
      exact ⟨_, hkk⟩
  have hm2 : Mv B gp W1 W2 := by
    refine ⟨(Below.refl _ _).grown hg hR1.size.1 fun k e => (hcb k e).1, Keeps.grown hcv rfl hg, fun k cs _ hk => ?_⟩
    rw [hg.block k (Array.getElem?_eq_some_iff.1 hk).1 (fun e => ?_)]
    · exact hk
    · obtain ⟨_, cs', hk'⟩ := hcb k e.symm
      rw [hk] at hk'
      simp at hk'
  have hrow : W2.heap[g]? = _ := (hg.block g hR1.size.2.1 (fun e => by
    obtain ⟨_, cs', hk'⟩ := hcb g e.symm
    rw [hR1.row] at hk'
    simp at hk')).trans hR1.row
  have hpl : W2.heap[gp]? = _ := (hg.block gp hR1.size.2.2 (fun e => by
    obtain ⟨_, cs', hk'⟩ := hcb gp e.symm
    rw [hR1.places] at hk'
    simp at hk')).trans hR1.places
  have hub : (Value.slice ua un uc).ownBlock ≠ some gp := fun e => by
    have := (hu.own gp e).1
    omega
  have hm1 : Mv B gp w W1 := Mv.of hB1 h.size.1
  have hC : CallsO B gp W2 (.slice va vn vc) (s.calls ++ [c]) := by
    refine ⟨ps ++ [(c, .slice ua un uc)], by simp [h1], ?_, fun p hp => ?_⟩
    · rw [cellsC_snoc, List.length_append]
      exact hO
    · rcases List.mem_append.1 hp with hp | hp
      · exact ⟨(hm1.trans hm2).numsO (h3 p hp).1 (h3 p hp).2, (h3 p hp).2⟩
      · simp at hp
        subst hp
        exact ⟨owns_mono (hm2.numsO hu hub) hBB, hub⟩
  have hmv : Mv B gp W2 (W2.setCell ⟨g, 2, none⟩ (.slice va vn vc)) := Mv.set86 hrow h.hg _
  refine ⟨⟨?_, ?_, (h.ans.below (hm1.below.trans hm2.below)).below hmv.below, h.mem, ?_, h.hg, h.hp, h.small⟩, (hm1.trans hm2).trans hmv⟩
  · rw [heap_setCell_same W2 g 2 _ _ _ hrow]
    simp only [List.setIfInBounds_toArray, rowL_set2]
  · refine hC.mv hmv fun k cs hk => ?_
    rw [Below.heap_setCell _ _ _ _ (fun e => ?_)]
    · exact hk
    · simp only at e
      subst e
      rw [hrow] at hk
      simp at hk
  · rw [Below.heap_setCell _ _ _ _ (fun e => ?_)]
    · exact hpl
    · simp only at e
      rw [e, hrow] at hpl
      simp at hpl

theorem take_snoc (s : St) (args : List Int) (j : Nat) (h : j < args.length) : (args.take (j + 1)).map (pg s.p) = (args.take j).map (pg s.p) ++ [pg s.p (args.getD j 0)] := by
  have e : args.take (j + 1) = args.take j ++ [args.getD j 0] := by rw [List.take_add_one]; simp [List.getElem?_eq_getElem h]
  rw [e, List.map_append]
  rfl
set_option maxHeartbeats 2000000 in
set_option maxRecDepth 100000 in
theorem call_any (B g gp : Nat) (r : Int) (w : World) (s : St) (cv av : Value) (i : Ins) (u : Value) (h : RunAt B g gp r w 0 0 s cv av) (hu : IntsV w u i.args) (hl : i.args.length ≤ 3) (ha : ∀ x ∈ i.args, 0 ≤ x ∧ x < (s.p.length : Int)) (hc : s.calls.length ≤ 1048576) :
    Calls Try.prog 58 #[.pointer (some ⟨g, 0, none⟩), insV i u] w fun e w' => e = .returned (.int .i64 (s.ans.headD 0)) ∧ (∃ cv' av', RunAt B g gp r w' 0 0 { s with calls := s.calls ++ [⟨i.n, i.args.map (pg s.p)⟩], ans := s.ans.tail } cv' av') ∧ Mv B gp w w' := by
  obtain ⟨k, op, d, a, b, nn, args⟩ := i
  simp only at hu hl ha
  have hBx := bel1' w (bxI ⟨k, op, d, a, b, nn, args⟩ u)
  have hR1 := h.of hBx
  obtain ⟨b0, b1, b2, b3, b4, b5, b6⟩ := bxI_cells w ⟨k, op, d, a, b, nn, args⟩ u
  obtain ⟨ao, cap, rfl⟩ := hu.slice
  have hu1 := hu.below hBx
  simp only [bxI, Nat.zero_add] at b0 b1 b2 b3 b4 b5 b6 hR1 hBx hu1
  have hM1 : Mv B gp w _ := Mv.of hBx h.size.1
  have HR := hide hR1
  have HM := hide hM1
  have HU := hide hu1
  unfold insV
  simp only
  have hsz1 : (w.alloc (.cells #[.int .u8 k, .int .u8 op, .int .i64 d, .int .i64 a, .int .i64 b, .int .i64 nn, .slice ao args.length cap] 65)).heap.size = w.heap.size + 1 := by simp
  clear h hR1 hM1 hBx b0 b1 b2 b3 b4 hu hu1
  go_enter Try.func58, Try.ntmps58
  go_wp2_with fail
  generalize w.alloc (.cells #[.int .u8 k, .int .u8 op, .int .i64 d, .int .i64 a, .int .i64 b, .int .i64 nn, .slice ao args.length cap] 65) = W1 at *
  rw [← hsz1]
  have hA0 := bel1' W1 (.cells #[.int .i64 nn, .slice none 0 0] 75)
  have hr0 : (W1.alloc (.cells #[.int .i64 nn, .slice none 0 0] 75)).heap[W1.heap.size]? = some (Obj.cells #[.int .i64 nn, .slice none 0 0] 75 (0, 0)) := heap_alloc_new W1 _
  have hgc : ∃ gc, W1.heap.size = gc := ⟨_, rfl⟩
  obtain ⟨gc, hgc⟩ := hgc
  rw [hgc] at hr0 hA0 ⊢
  have HGC := hide hgc
  have HREL := hide (And.intro hr0 hA0)
  have hgpc : gp < gc := by have := HR.out.size; omega
  have hBgc : B ≤ gc := by have := HR.out.size; omega
  clear hr0 hA0 hsz1 hgc
  go_loopw [15] (fun iv wr => ∃ (j : Nat) (ua : Value), j ≤ args.length ∧ iv = .int .i64 j ∧ wr.heap[gc]? = some (Obj.cells #[.int .i64 nn, ua] 75 (0, 0)) ∧ NumsO gc wr ua ((args.take j).map (pg s.p)) ∧ Below gc W1 wr) (fun iv _ => args.length - (intOf iv).toNat)
  case atStart => exact ⟨0, _, by omega, rfl, HREL.out.1, NumsO.nil _ _, HREL.out.2⟩
  case round =>
    obtain ⟨j, ua, hj, rfl, hr, hO, hBr⟩ := hrel
    have hBw : Below W1.heap.size W1 wr := by rw [HGC.out]; exact hBr
    have hgs : gc ≤ wr.heap.size := by rw [← HGC.out]; exact hBr.size
    by_cases hlt : j < args.length
    · have hu1 := HU.out.below hBw
      obtain ⟨ab, aoff, rfl, hcell⟩ := IntsV.at hu1 j hlt
      obtain ⟨yn, hy, hy2⟩ := nat_of (ha (args.getD j 0) (by simp [List.getElem?_eq_getElem hlt]))
      have HT := hide (take_snoc s args j hlt)
      rw [hy] at hcell HT
      have hRr := HR.out.of hBw
      obtain ⟨x, hx⟩ : ∃ x, pg s.p (yn : Int) = x := ⟨_, rfl⟩
      rw [hx] at HT
      have hxl : ((args.take j).map (pg s.p)).length ≤ 1000000 := by simp; omega
      generalize (args.take j).map (pg s.p) = xs at *
      obtain ⟨ua1, uc1, rfl⟩ := hO.v.slice
      obtain ⟨WA, hWA⟩ : ∃ WA, (wr.alloc (.cells #[.int .i64 x] 2)).drew = WA := ⟨_, rfl⟩
      have hBA : Below wr.heap.size wr WA := by rw [← hWA]; exact (bel1' wr _).drew
      have hrA : WA.heap[wr.heap.size]? = some (Obj.cells #[.int .i64 x] 2 (0, 0)) := by rw [← hWA]; exact heap_alloc_new wr _
      have hOA : NumsO gc WA _ xs := hO.kept fun k e => hBA.block k (hO.own k e).2.1
      obtain ⟨va, vn, vc, W2, hrun, hO2, hg2⟩ := run_app2 WA hOA (h := wr.heap.size) (x := x) (by rw [cell_of_row _ _ _ _ _ _ hrA]; rfl) hxl (Nat.le_trans hgs hBA.size)
      have hrow2 : W2.heap[gc]? = some (Obj.cells #[.int .i64 nn, .slice ua1 xs.length uc1] 75 (0, 0)) := by
        rw [hg2.block _ (Nat.lt_of_lt_of_le (Array.getElem?_eq_some_iff.1 hr).1 hBA.size) (fun e => ?_), hBA.block _ (Array.getElem?_eq_some_iff.1 hr).1]
        · exact hr
        · obtain ⟨_, _, cs, hcs⟩ := hO.own _ e.symm
          rw [hr] at hcs
          simp at hcs
      have hB2 : Below gc W1 W2 := (bel_to hBr hBA hgs).grown hg2 (Nat.le_trans hgs hBA.size) fun k e => (hO.own k e).1
      have hc1 : wr.cell? ⟨gc, 1, none⟩ = some (.slice ua1 xs.length uc1) := by rw [cell_of_row _ _ _ _ _ _ hr]; rfl
      have hcA : WA.cell? ⟨gc, 1, none⟩ = some (.slice ua1 xs.length uc1) := cell_below hBA hc1
      have hc2 : W2.cell? ⟨gc, 1, none⟩ = some (.slice ua1 xs.length uc1) := by rw [cell_of_row _ _ _ _ _ _ hrow2]; rfl
      have hf2 : W2.frozen? ⟨gc, 1, none⟩ = false := frozen_of_row _ _ _ _ _ hrow2
      have hrow3 : (W2.setCell ⟨gc, 1, none⟩ (.slice va vn vc)).heap[gc]? = some (Obj.cells #[.int .i64 nn, .slice va vn vc] 75 (0, 0)) := by
        rw [heap_setCell_same W2 _ 1 _ _ _ hrow2]
        rfl
      have hO3 : NumsO gc (W2.setCell ⟨gc, 1, none⟩ (.slice va vn vc)) (.slice va vn vc) (xs ++ [x]) := hO2.kept fun k e => Below.heap_setCell _ _ _ _ (fun e2 => by
        simp only at e2
        subst e2
        obtain ⟨_, _, cs, hcs⟩ := hO2.own _ e
        rw [hrow2] at hcs
        simp at hcs)
      have hB3 : Below gc W1 (W2.setCell ⟨gc, 1, none⟩ (.slice va vn vc)) := hB2.setCell (Nat.le_refl _) _
      have HREL3 := hide (And.intro hrow3 (And.intro hO3 hB3))
      have HF := hide (And.intro hc1 (And.intro hcA (And.intro hc2 hf2)))
      have HRUN := hide (And.intro hRr.c69 (And.intro (hRr.pp hy2 hx) hrun))
      have hyl : (yn : Int) < (s.p.length : Int) := by omega
      have hlt' : (j : Int) < (args.length : Int) := by omega
      clear hBw hgs hrow3 hO3 hB3 hB2 hrow2 hg2 hO2 hOA hrA hBA hO hr hBr hu1 hRr hc1 hcA hc2 hf2 hrun hxl hx
      go_wp2_with fail
      refine ca5_ok (g := g) (gp := gp) (gc := gc) (n := s.p.length) rfl rfl rfl rfl HF.out.1 HF.out.2.1 HF.out.2.2.1 HRUN.out.1 HRUN.out.2.1 HF.out.2.2.2 rfl hWA hyl HRUN.out.2.2 rfl ?_
      intro q
      simp [overlay, dstsOf, ops_ca5_ok]
      go_wp2_with fail
      go_roundw
      case rel => exact ⟨j + 1, _, by omega, by go_num, HREL3.out.1, by rw [HT.out]; exact HREL3.out.2.1, HREL3.out.2.2⟩
      case measure => simp [intOf]; omega
    · obtain rfl : j = args.length := by omega
      rw [List.take_length] at hO
      have hRr := HR.out.of hBw
      obtain ⟨ua1, uc1, rfl⟩ := hO.v.slice
      generalize (args.map (pg s.p)).length = un at *
      obtain ⟨ps, q1, q2, q3⟩ := hRr.calls
      have hpl : ps.length ≤ 2000000 := by
        have := congrArg List.length q1
        simp at this
        omega
      obtain ⟨WA, hWA⟩ : ∃ WA, (wr.alloc (.cells #[.int .i64 nn, .slice ua1 un uc1] 75)).drew = WA := ⟨_, rfl⟩
      have hBA : Below wr.heap.size wr WA := by rw [← hWA]; exact (bel1' wr _).drew
      have hrA : WA.heap[wr.heap.size]? = some (Obj.cells #[.int .i64 nn, .slice ua1 un uc1] 75 (0, 0)) := by rw [← hWA]; exact heap_alloc_new wr _
      have hcA : WA.ownsRow B 75 2 cv ps.length (cellsC ps) := owns_below q2 hBA
      have hOA : NumsO gc WA (.slice ua1 un uc1) (args.map (pg s.p)) := hO.kept fun k e => hBA.block k (hO.own k e).2.1
      obtain ⟨va, vn, vc, W2, hrun, hO2, hg2⟩ := run_app58 WA hcA hrA hpl (Nat.le_trans hRr.size.1 hBA.size)
      obtain ⟨hR3, hM3⟩ := hRr.called (c := ⟨nn, args.map (pg s.p)⟩) hBA q1 q3 hcA hO2 hg2 hOA hgpc hBgc
      have hM4 : Mv B gp w _ := (HM.out.trans (Mv.of hBw HR.out.size.1)).trans hM3
      have hk0 : wr.cell? ⟨gc, 0, none⟩ = some (.int .i64 nn) := by rw [cell_of_row _ _ _ _ _ _ hr]; rfl
      have hk1 : wr.cell? ⟨gc, 1, none⟩ = some (.slice ua1 un uc1) := by rw [cell_of_row _ _ _ _ _ _ hr]; rfl
      have hg1 : W2.cell? ⟨g, 2, none⟩ = some cv ∧ W2.frozen? ⟨g, 2, none⟩ = false := by
        have hne : ¬ some g = cv.ownBlock := fun e => by
          rcases hcA.2 with ⟨rfl, _⟩ | ⟨k', cap', cur, rfl, _, hkk, _⟩
          · simp [Value.ownBlock] at e
          · simp [Value.ownBlock] at e
            subst e
            rw [hBA.block _ hRr.size.2.1, hRr.row] at hkk
            simp at hkk
        have hrow : W2.heap[g]? = _ := (hg2.block g (Nat.lt_of_lt_of_le hRr.size.2.1 hBA.size) hne).trans ((hBA.block g hRr.size.2.1).trans hRr.row)
        exact ⟨by rw [cell_of_row _ _ _ _ _ _ hrow]; rfl, frozen_of_row _ _ _ _ _ hrow⟩
      have HF := hide (And.intro hk0 (And.intro hk1 (And.intro hRr.c2 (And.intro (cell_below hBA hRr.c2) (And.intro hg1 hrun)))))
      have HR3 := hide hR3
      have HM3 := hide hM4
      clear hR3 hM3 hM4 hk0 hk1 hg1 hrun hO2 hg2 hOA hcA hrA hBA hRr q1 q2 q3 hpl hO hr hBw hgs hBr hlt HR HM HU HREL
      go_wp2_with fail
      refine ca7_ok (g := g) (gc := gc) rfl rfl rfl HF.out.1 HF.out.2.1 HF.out.2.2.1 HF.out.2.2.2.1 HF.out.2.2.2.2.1.1 HF.out.2.2.2.2.1.2 rfl hWA HF.out.2.2.2.2.2 rfl ?_
      intro q
      simp [overlay, dstsOf, ops_ca7_ok]
      clear HF hWA
      generalize W2.setCell ⟨g, 2, none⟩ (.slice va vn vc) = W3 at *
      have c70 := HR3.out.c70
      cases hans : s.ans with
      | nil =>
        obtain ⟨aa, ac, rfl⟩ := SlV.slice HR3.out.ans
        simp only [hans, List.length_nil] at c70
        go_wp2_with fail
        go_ret
        have hh := HR3.out
        rw [hans] at hh
        exact ⟨rfl, ⟨_, _, hh⟩, HM3.out⟩
      | cons x0 rest =>
        obtain ⟨aa, ac, rfl⟩ := SlV.slice HR3.out.ans
        have hA := HR3.out.ans
        have hR4 := fun (av' : Value) (xs : List Int) => HR3.out.answered (av' := av') (xs := xs)
        simp only [hans, List.length_cons] at c70 hA hR4
        obtain ⟨ab, aoff, rfl, hx0, _⟩ := SlV.at hA 0 (by simp)
        simp only [Nat.zero_mul, Nat.add_zero, List.getD_cons_zero] at hx0
        have hx0 : W3.cell? ⟨ab, aoff, none⟩ = some (.int .i64 x0) := hx0
        have hrun : ∀ W, (Instr.sliceAt 25 (.slice (some ⟨ab, aoff, none⟩) (rest.length + 1) ac) (some (.int .i64 1)) none none).run Try.prog W = .ok (tailV (some ⟨ab, aoff, none⟩) ac (rest.length + 1)) W := fun W => run_tail64 (by omega) W
        have ht := hA.tail
        have hone : ∃ ao' n' c', tailV (some ⟨ab, aoff, none⟩) ac (rest.length + 1) = .slice ao' n' c' := ⟨_, _, _, rfl⟩
        generalize tailV (some ⟨ab, aoff, none⟩) ac (rest.length + 1) = u at *
        obtain ⟨ao', n', c', rfl⟩ := hone
        obtain ⟨hR5, hM5⟩ := hR4 _ _ ht
        have HR5 := hide hR5
        have HM5 := hide (HM3.out.trans hM5)
        have f70 := HR3.out.fr 70
        have hlen : ((rest.length : Int) + 1 == 0) = false := by rw [beq_eq_false_iff_ne]; omega
        clear hR4 hR5 hM5 ht hA HR3 HM3
        go_wp2_with fail
        go_ret
        refine ⟨by rw [hans]; rfl, ?_, HM5.out⟩
        rw [hans]
        exact ⟨_, _, HR5.out⟩
end Go.Proofs.Ytepmbkiojpffpaa
namespace Go.Proofs.Ytepmbkiojpffpaa
open Go Go.RowKit Ir
def ops_st6_ok : Array Oper := #[⟨some 67, .move (.tmp 4), 25, "running.go:61", #[], none⟩, ⟨some 68, .fieldAddr 65 (.tmp 3) 2, 0, "running.go:61", #[], none⟩, ⟨some 69, .load 3 (.tmp 68), 3, "running.go:61", #[⟨1, .data⟩], none⟩, ⟨some 70, .move (.tmp 0), 99, "running.go:61", #[], none⟩, ⟨some 71, .load 65 (.tmp 3), 65, "running.go:61", #[], none⟩, ⟨some 72, .call { callee := Callee.value (Operand.func 58), args := #[.tmp 70, .tmp 71], argTypes := #[99, 65] }, 2, "running.go:61", #[⟨3, .data⟩, ⟨4, .data⟩], none⟩, ⟨some 73, .indexAddr 25 (.tmp 67) (.tmp 69), 0, "running.go:61", #[⟨0, .data⟩, ⟨2, .data⟩, ⟨0, .phase⟩, ⟨1, .phase⟩, ⟨2, .phase⟩, ⟨3, .phase⟩, ⟨4, .phase⟩, ⟨5, .phase⟩], none⟩, ⟨none, .store 2 (.tmp 73) (.tmp 72), 0, "running.go:61", #[⟨6, .data⟩, ⟨5, .data⟩, ⟨5, .chain⟩, ⟨0, .phase⟩, ⟨1, .phase⟩, ⟨2, .phase⟩, ⟨3, .phase⟩, ⟨4, .phase⟩, ⟨5, .phase⟩], none⟩]
theorem rowI_cells {W : World} {g : Nat} {X : Ins} {u : Value} (h : W.heap[g]? = some (Obj.cells (rowI X u) 65 (0, 0))) : InsCells W g 0 X u := by
  refine ⟨?_, ?_, ?_, ?_, ?_, ?_, ?_⟩
  all_goals (rw [cell_of_row _ _ _ _ _ _ h]; rfl)
/-- The state behind a call. -/
def calledS (s : St) (i : Ins) : St := { s with calls := s.calls ++ [⟨i.n, i.args.map (pg s.p)⟩], ans := s.ans.tail }
def Post6 (B g gp : Nat) (r : Int) (s : St) (wa W : World) : Prop := (∃ cv av, RunAt B g gp r W 0 0 s cv av) ∧ Mv B gp wa W
structure S6 (B g gp dn : Nat) (r x : Int) (s : St) (wa : World) (l : Nat → Bool) (W : World) : Prop where
  a : l 5 = false → W = wa
  b : l 5 = true → l 7 = false → Post6 B g gp r s wa W
  c : l 7 = true → ∃ W0, Post6 B g gp r s wa W0 ∧ W = W0.setCell ⟨gp, dn, none⟩ (.int .i64 x)
theorem S6.skip {B g gp dn : Nat} {r x : Int} {s : St} {wa : World} {l : Nat → Bool} {W : World} (h : S6 B g gp dn r x s wa l W) {j : Nat} (h5 : j ≠ 5) (h7 : j ≠ 7) : S6 B g gp dn r x s wa (upd l j) W := by
  have u5 : upd l j 5 = l 5 := if_neg (fun e => h5 e.symm)
  have u7 : upd l j 7 = l 7 := if_neg (fun e => h7 e.symm)
  exact ⟨by rw [u5]; exact h.a, by rw [u5, u7]; exact h.b, by rw [u7]; exact h.c⟩
theorem S6.box {B g gp dn gb : Nat} {r x : Int} {s : St} {wa : World} {l : Nat → Bool} {W : World} {i : Ins} {u : Value} (h : S6 B g gp dn r x s wa l W) (hb : wa.heap[gb]? = some (Obj.cells (rowI i u) 65 (0, 0))) (hd : i.d = (dn : Int)) (n7 : l 7 = false) : W.cell? ⟨gb, 2, none⟩ = some (.int .i64 (dn : Nat)) := by
  have hr : W.heap[gb]? = some (Obj.cells (rowI i u) 65 (0, 0)) := by
    cases h5 : l 5 with
    | false => rw [h.a h5]; exact hb
    | true => exact (h.b h5 n7).2.keeps _ _ _ _ rfl hb
  have := (rowI_cells hr).c2
  rw [hd] at this
  simpa using this
/-- What is known of each temporary. -/
def G_st6 (g gp gb n dn : Nat) (x : Int) (i : Ins) (u : Value) : Tmp → Value → World → Prop
  | 67, xx, _ => xx = .slice (some ⟨gp, 0, none⟩) n n
  | 68, xx, _ => xx = .pointer (some ⟨gb, 2, none⟩)
  | 69, xx, _ => xx = .int .i64 (dn : Nat)
  | 70, xx, _ => xx = .pointer (some ⟨g, 0, none⟩)
  | 71, xx, _ => xx = insV i u
  | 72, xx, _ => xx = .int .i64 x
  | 73, xx, _ => xx = .pointer (some ⟨gp, dn, none⟩)
  | _, _, _ => True

set_option maxHeartbeats 1000000 in
set_option maxRecDepth 100000 in
theorem st6_ok {Q : Exit → Act → World → Prop} {a0 : Act} {wa : World} {B g gp gb n dn : Nat} {r x : Int} {s : St} {cv av : Value} {i : Ins} {u : Value} (hz : a0.tmps.size = 106) (b4 : a0.eval (.tmp 4) = .slice (some ⟨gp, 0, none⟩) n n) (b3 : a0.eval (.tmp 3) = .pointer (some ⟨gb, 0, none⟩)) (b0 : a0.eval (.tmp 0) = .pointer (some ⟨g, 0, none⟩))
    (h : RunAt B g gp r wa 0 0 s cv av) (hbox : wa.heap[gb]? = some (Obj.cells (rowI i u) 65 (0, 0))) (hu : IntsV wa u i.args) (hl : i.args.length ≤ 3) (ha : ∀ x ∈ i.args, 0 ≤ x ∧ x < (s.p.length : Int)) (hcl : s.calls.length ≤ 1048576) (hdn : i.d = (dn : Int)) (hd2 : dn < s.p.length) (hn : n = s.p.length) (hx : s.ans.headD 0 = x)
    (hend : ∀ (q : Tmp → Value) (W0 : World), Post6 B g gp r (calledS s i) wa.drew W0 → Q .normal (overlay a0 (dstsOf ops_st6_ok) q) (W0.setCell ⟨gp, dn, none⟩ (.int .i64 x))) : (Code.region 14 ops_st6_ok true).wp Try.prog Q a0 wa := by
  have hdl : (dn : Int) < (n : Int) := by omega
  refine L.wp_region_eachL (by kernel_rfl) (fun _ tt yv _ => G_st6 g gp gb n dn x i u tt yv wa) (fun l W => S6 B g gp dn r x (calledS s i) wa.drew l W) (by rw [hz]; kernel_rfl) ⟨fun _ => rfl, fun h => by simp at h, fun h => by simp at h⟩ ?_ ?_
  · refine And.intro ?_ (And.intro ?_ (And.intro ?_ (And.intro ?_ (And.intro ?_ (And.intro ?_ (And.intro ?_ (And.intro ?_ trivial)))))))
    · refine L.asked_pure rfl rfl (fun _ _ h => h.skip (by decide) (by decide)) (fun _ _ _ _ _ h => h) (fun _ _ _ => rfl) (fun l a W H => ?_)
      have e4 : a.eval (.tmp 4) = .slice (some ⟨gp, 0, none⟩) n n := (H.base 4 rfl).trans b4
      exact run_move rfl e4
    · refine L.asked_pure rfl rfl (fun _ _ h => h.skip (by decide) (by decide)) (fun _ _ _ _ _ h => h) (fun _ _ _ => rfl) (fun l a W H => ?_)
      have e3 : a.eval (.tmp 3) = .pointer (some ⟨gb, 0, none⟩) := (H.base 3 rfl).trans b3
      (simp only [execOp]; try simp only [Option.map]); (try simp only [List.map_toArray, List.map_cons, List.map_nil]); (simp only [e3]; go_simp)
      all_goals (try first | go_num | omega | (rw [IntKind.wrap_i64]; omega) | (rw [IntKind.wrap_u8]; omega))
    · refine L.asked_pure rfl rfl (fun _ _ h => h.skip (by decide) (by decide)) (fun _ _ _ _ _ h => h) (fun _ _ _ => rfl) (fun l a W H => ?_)
      have e68 : a.eval (.tmp 68) = .pointer (some ⟨gb, 2, none⟩) := H.facts 68 rfl
      have n7 : l 7 = false := by
        cases hs : l 7 with
        | false => rfl
        | true =>
          have h1 := (H.closed 7 2 (by rfl) hs)
          rw [H.new] at h1
          cases h1
      have hcc : W.cell? ⟨gb, 2, none⟩ = some (.int .i64 (dn : Nat)) := H.s.box hbox hdn n7
      (simp only [execOp]; try simp only [Option.map]); (simp only [e68]; go_simp)
    · refine L.asked_pure rfl rfl (fun _ _ h => h.skip (by decide) (by decide)) (fun _ _ _ _ _ h => h) (fun _ _ _ => rfl) (fun l a W H => ?_)
      have e0 : a.eval (.tmp 0) = .pointer (some ⟨g, 0, none⟩) := (H.base 0 rfl).trans b0
      exact run_move rfl e0
    · refine L.asked_pure rfl rfl (fun _ _ h => h.skip (by decide) (by decide)) (fun _ _ _ _ _ h => h) (fun _ _ _ => rfl) (fun l a W H => ?_)
      have e3 : a.eval (.tmp 3) = .pointer (some ⟨gb, 0, none⟩) := (H.base 3 rfl).trans b3
      have n5 : l 5 = false := by
        cases hs : l 5 with
        | false => rfl
        | true =>
          have h1 := (H.closed 5 4 (by rfl) hs)
          rw [H.new] at h1
          cases h1
      have hW := H.s.a n5
      subst hW
      exact run_load46 rfl e3 (rowI_cells hbox)
    · refine L.asked_call rfl Try.func58 (by kernel_rfl) (by kernel_rfl) rfl rfl (fun l a W H => ?_)
      have e70 : a.eval (.tmp 70) = .pointer (some ⟨g, 0, none⟩) := H.facts 70 rfl
      have e71 : a.eval (.tmp 71) = insV i u := H.facts 71 rfl
      have ea : (#[.tmp 70, .tmp 71] : Array Operand).map a.eval = #[.pointer (some ⟨g, 0, none⟩), insV i u] := by simp only [List.map_toArray, List.map_cons, List.map_nil, e70, e71]
      rw [ea]
      have hW := H.s.a H.new
      subst hW
      refine (call_any B g gp r wa.drew s cv av i u (h.of (Below.refl _ _).drew) (hu.below (Below.refl _ _).drew) hl ha hcl).mono ?_
      rintro e w' ⟨rfl, hR, hM⟩
      have n7 : l 7 = false := by
        cases hs : l 7 with
        | false => rfl
        | true =>
          have h1 := (H.closed 7 5 (by rfl) hs)
          rw [H.new] at h1
          cases h1
      exact ⟨_, rfl, by rw [hx]; rfl, ⟨fun h => (by simp [upd] at h), fun _ _ => ⟨hR, hM⟩, fun h => (by have h : l 7 = true := h; rw [n7] at h; cases h)⟩, fun _ _ _ h => h⟩
    · refine L.asked_pure rfl rfl (fun _ _ h => h.skip (by decide) (by decide)) (fun _ _ _ _ _ h => h) (fun _ _ _ => rfl) (fun l a W H => ?_)
      have e67 : a.eval (.tmp 67) = .slice (some ⟨gp, 0, none⟩) n n := H.facts 67 rfl
      have e69 : a.eval (.tmp 69) = .int .i64 (dn : Nat) := H.facts 69 rfl
      (simp only [execOp]; try simp only [Option.map]); (try simp only [List.map_toArray, List.map_cons, List.map_nil]); (simp only [e67, e69]; go_simp)
      all_goals (try first | go_num | omega | (rw [IntKind.wrap_i64]; omega) | (rw [IntKind.wrap_u8]; omega))
    · refine L.asked_skip rfl rfl (fun l a W H => ?_)
      have e72 : a.eval (.tmp 72) = .int .i64 x := H.facts 72 rfl
      have e73 : a.eval (.tmp 73) = .pointer (some ⟨gp, dn, none⟩) := H.facts 73 rfl
      have y5 : l 5 = true := H.deps ⟨5, .data⟩ (by simp) rfl
      obtain ⟨hR, hM⟩ := H.s.b y5 H.new
      obtain ⟨cv', av', hR'⟩ := hR
      have hcc := hR'.pc (j := dn) hd2
      have hff := hR'.pf dn
      refine ⟨W.setCell ⟨gp, dn, none⟩ (.int .i64 x), ?_, ⟨fun h => (by have h : l 5 = false := h; rw [y5] at h; cases h), fun _ h => (by simp [upd] at h), fun _ => ⟨W, ⟨⟨_, _, hR'⟩, hM⟩, rfl⟩⟩, fun _ _ h => h⟩
      (simp only [execOp]; try simp only [Option.map]); (simp only [e72, e73]; go_simp)
  · intro l q W hall hS _
    obtain ⟨W0, hP, rfl⟩ := hS.c (hall 7 (by decide))
    exact hend q W0 hP
end Go.Proofs.Ytepmbkiojpffpaa
