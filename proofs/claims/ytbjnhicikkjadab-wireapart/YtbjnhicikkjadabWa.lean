/- WireApart, its walk. -/
import Derived.Test.YtbjnhicikkjadabWd
import Derived.Deep.Cut
namespace Go.Proofs.Ytbjnhicikkjadab
open Go.RowKit Ir Wire

theorem SpecV.below {w w' : World} {v : Value} {a b c : Int} {bs : List Int} (h : SpecV w v a b c bs) (hB : Below w.heap.size w w') : SpecV w' v a b c bs := by
  obtain ⟨u, h1, h2, h3, h4, h5⟩ := h
  exact ⟨u, h1, h2, h3, h4, h5.below hB⟩
theorem bx3 {w : World} {g : Nat} {a0 a1 a2 : Value} {t : TypeId} (h : w.heap[g]? = some (Obj.cells #[a0, a1, a2] t (0, 0))) : w.cell? ⟨g, 0, none⟩ = some a0 ∧ w.cell? ⟨g, 1, none⟩ = some a1 ∧ w.cell? ⟨g, 2, none⟩ = some a2 := by
  refine ⟨?_, ?_, ?_⟩ <;> (rw [cell_of_row _ _ _ _ _ _ h]; rfl)
theorem bx4 {w : World} {g : Nat} {a0 a1 a2 a3 : Value} {t : TypeId} (h : w.heap[g]? = some (Obj.cells #[a0, a1, a2, a3] t (0, 0))) : w.cell? ⟨g, 0, none⟩ = some a0 ∧ w.cell? ⟨g, 1, none⟩ = some a1 ∧ w.cell? ⟨g, 2, none⟩ = some a2 ∧ w.cell? ⟨g, 3, none⟩ = some a3 := by
  refine ⟨?_, ?_, ?_, ?_⟩ <;> (rw [cell_of_row _ _ _ _ _ _ h]; rfl)
theorem small_args {F : Fun} (hc : (chk F).1 = 0) (hr : ∀ b ∈ F.bs, ∀ i ∈ b.ins, I64 i.n) : ∀ b ∈ F.bs, ∀ i ∈ b.ins, i.args.length ≤ 1000000000 := by
  obtain ⟨ha, hb⟩ := chk_all hc
  simp only [sized, decide_eq_true_eq] at ha
  intro b hbm i hi
  have h := ((wfB_of (hb b hbm) (by omega) (by omega) (hr b hbm)).2.1 i hi).args
  by_cases k6 : i.k = 6
  · rw [if_pos k6] at h
    omega
  · rw [if_neg k6] at h
    rw [h]
    simp
theorem same_bytes {M L : Fun} {w w' : World} {u v : Value} (hM : (chk M).1 = 0) (hL : (chk L).1 = 0) (rM : ∀ b ∈ M.bs, ∀ i ∈ b.ins, I64 i.n) (rL : ∀ b ∈ L.bs, ∀ i ∈ b.ins, I64 i.n) (hx : Lb.Byt w u (funB M)) (hy : Lb.Byt w' v (funB L)) : ((strOfNums (funB M)).toList == (strOfNums (funB L)).toList) = true ↔ M = L := by
  obtain ⟨_, hx, _⟩ := hx
  obtain ⟨_, hy, _⟩ := hy
  rw [Lb.str_beq hx hy]
  simp only [decide_eq_true_eq]
  exact ⟨fun e => funB_inj hM hL rM rL e, fun e => by rw [e]⟩
theorem bysnd (w : World) (v : Value) (xs : List Int) (h : Lb.Byt w v xs) : ∃ ao n cap, v = .slice ao n cap := by
  obtain ⟨ao, cap, h⟩ := h.slice
  exact ⟨ao, _, cap, h⟩
set_option maxHeartbeats 1000000 in
set_option maxRecDepth 100000 in
theorem apart_walk (sp tp : Value) (sa sb sc : Int) (sbs : List Int) (ta tb tc : Int) (tbs : List Int) (same : Bool) (w : World) (hs : SpecV w sp sa sb sc sbs) (ht : SpecV w tp ta tb tc tbs) :
    Calls Try.prog 3 #[sp, tp, .bool same] w fun r w' => r = .returned (.bool true) ∧ Below w.heap.size w w' := by
  have hs' := hs
  obtain ⟨us, rfl, _, _, _, hs4⟩ := hs'
  obtain ⟨sx, cx, rfl⟩ := hs4.slice
  have ht' := ht
  obtain ⟨ut, rfl, _, _, _, ht4⟩ := ht'
  obtain ⟨tx, dx, rfl⟩ := ht4.slice
  have hB0 := bel1' w (.cells #[.int .u8 sa, .int .u8 sb, .int .u8 sc, .slice sx sbs.length cx] 24)
  have hB0b := bel1' (w.alloc (.cells #[.int .u8 sa, .int .u8 sb, .int .u8 sc, .slice sx sbs.length cx] 24)) (.cells #[.int .u8 ta, .int .u8 tb, .int .u8 tc, .slice tx tbs.length dx] 24)
  have hB00 := bel_of hB0 hB0b
  have HS0 := hide hs
  have HS := hide (hs.below hB00)
  have HT := hide (ht.below hB00)
  have hra := (hB0b.block _ (by simp)).trans (heap_alloc_new w (.cells #[.int .u8 sa, .int .u8 sb, .int .u8 sc, .slice sx sbs.length cx] 24))
  have hrb := heap_alloc_new (w.alloc (.cells #[.int .u8 sa, .int .u8 sb, .int .u8 sc, .slice sx sbs.length cx] 24)) (.cells #[.int .u8 ta, .int .u8 tb, .int .u8 tc, .slice tx tbs.length dx] 24)
  simp only [World.size_alloc] at hrb
  have HR3 := hide hra
  have HR4 := hide hrb
  have HB0 := hide hB00
  clear hs ht hs4 ht4 hB0 hB0b hB00 hra hrb
  go_enter Try.func3, Try.ntmps3
  go_wp2_with fail
  refine (awake_any _).mono ?_
  rintro r w1 ⟨rfl, hB1⟩
  have HR3 := hide ((hB1.block _ (by simp; omega)).trans HR3.out)
  have HR4 := hide ((hB1.block _ (by simp)).trans HR4.out)
  have HS := hide (HS.out.below hB1)
  have HT := hide (HT.out.below hB1)
  have HB1 := hide (bel_of HB0.out hB1)
  clear hB1 HB0
  obtain ⟨s0, s1, s2, s3⟩ := bx4 HR3.out
  obtain ⟨t0, t1, t2, t3⟩ := bx4 HR4.out
  have f0 : w1.frozen? ⟨w.heap.size + 1, 0, none⟩ = false := frozen_of_row _ _ _ _ _ HR4.out
  have f1 : w1.frozen? ⟨w.heap.size + 1, 1, none⟩ = false := frozen_of_row _ _ _ _ _ HR4.out
  have f2 : w1.frozen? ⟨w.heap.size + 1, 2, none⟩ = false := frozen_of_row _ _ _ _ _ HR4.out
  have f3 : w1.frozen? ⟨w.heap.size + 1, 3, none⟩ = false := frozen_of_row _ _ _ _ _ HR4.out
  cases same with
  | true =>
    have hq0 : (w1.setCell ⟨w.heap.size + 1, 0, none⟩ (.int .u8 sa)).heap[w.heap.size + 1]? = some (Obj.cells #[.int .u8 sa, .int .u8 tb, .int .u8 tc, .slice tx tbs.length dx] 24 (0, 0)) := heap_setCell_same _ (w.heap.size + 1) 0 _ _ (.int .u8 sa) HR4.out
    have hq1 : ((w1.setCell ⟨w.heap.size + 1, 0, none⟩ (.int .u8 sa)).setCell ⟨w.heap.size + 1, 1, none⟩ (.int .u8 sb)).heap[w.heap.size + 1]? = some (Obj.cells #[.int .u8 sa, .int .u8 sb, .int .u8 tc, .slice tx tbs.length dx] 24 (0, 0)) := heap_setCell_same _ (w.heap.size + 1) 1 _ _ (.int .u8 sb) hq0
    have hq2 : (((w1.setCell ⟨w.heap.size + 1, 0, none⟩ (.int .u8 sa)).setCell ⟨w.heap.size + 1, 1, none⟩ (.int .u8 sb)).setCell ⟨w.heap.size + 1, 2, none⟩ (.int .u8 sc)).heap[w.heap.size + 1]? = some (Obj.cells #[.int .u8 sa, .int .u8 sb, .int .u8 sc, .slice tx tbs.length dx] 24 (0, 0)) := heap_setCell_same _ (w.heap.size + 1) 2 _ _ (.int .u8 sc) hq1
    have hq3 : ((((w1.setCell ⟨w.heap.size + 1, 0, none⟩ (.int .u8 sa)).setCell ⟨w.heap.size + 1, 1, none⟩ (.int .u8 sb)).setCell ⟨w.heap.size + 1, 2, none⟩ (.int .u8 sc)).setCell ⟨w.heap.size + 1, 3, none⟩ (.slice sx sbs.length cx)).heap[w.heap.size + 1]? = some (Obj.cells #[.int .u8 sa, .int .u8 sb, .int .u8 sc, .slice sx sbs.length cx] 24 (0, 0)) := heap_setCell_same _ (w.heap.size + 1) 3 _ _ (.slice sx sbs.length cx) hq2
    have hg : w1.grownBy ((((w1.setCell ⟨w.heap.size + 1, 0, none⟩ (.int .u8 sa)).setCell ⟨w.heap.size + 1, 1, none⟩ (.int .u8 sb)).setCell ⟨w.heap.size + 1, 2, none⟩ (.int .u8 sc)).setCell ⟨w.heap.size + 1, 3, none⟩ (.slice sx sbs.length cx)) (some (w.heap.size + 1)) :=
      Lb.grownBy_trans (Lb.grownBy_trans (Lb.grownBy_trans (Lb.grownBy_setCell _ (w.heap.size + 1) 0 _) (Lb.grownBy_setCell _ (w.heap.size + 1) 1 _)) (Lb.grownBy_setCell _ (w.heap.size + 1) 2 _)) (Lb.grownBy_setCell _ (w.heap.size + 1) 3 _)
    have HR3 := hide ((hg.block w.heap.size (Array.getElem?_eq_some_iff.1 HR3.out).1 (by simp)).trans HR3.out)
    have HR4 := hide hq3
    have HB2 := hide (HB1.out.grown hg HB1.out.size (fun q hq => by simp at hq; omega))
    have HS := hide (HS0.out.below HB2.out)
    clear hg hq0 hq1 hq2 hq3 HB1 HT HS0
    go_wp2_with fail
    clear s0 s1 s2 s3 t0 t1 t2 t3 f0 f1 f2 f3
    generalize ((((w1.setCell ⟨w.heap.size + 1, 0, none⟩ (.int .u8 sa)).setCell ⟨w.heap.size + 1, 1, none⟩ (.int .u8 sb)).setCell ⟨w.heap.size + 1, 2, none⟩ (.int .u8 sc)).setCell ⟨w.heap.size + 1, 3, none⟩ (.slice sx sbs.length cx)) = w2 at *
    refine r5_ok (ra := #[.int .u8 sa, .int .u8 sb, .int .u8 sc, .slice sx sbs.length cx]) (rb := #[.int .u8 sa, .int .u8 sb, .int .u8 sc, .slice sx sbs.length cx]) (M := made sa sb sc sbs) (L := made sa sb sc sbs) rfl rfl rfl HR3.out HR4.out rfl rfl (fun W h => made_any _ sa sb sc sbs W (HS.out.below h)) (fun W h => made_any _ sa sb sc sbs W (HS.out.below h)) ?_
    intro s W g7 g8 um ul h7 h8 hr7 hr8 hum hul hB5
    have hckM : (chk (made sa sb sc sbs)).1 = 0 := by rw [made_right]
    have hckL : (chk (made sa sb sc sbs)).1 = 0 := by rw [made_right]
    have hrM := made_rgd sa sb sc sbs
    have hrL := made_rgd sa sb sc sbs
    have hsM := small_args hckM hrM
    have hsL := small_args hckL hrL
    have HB5 := hide (bel_of HB2.out hB5)
    generalize made sa sb sc sbs = M at *
    obtain ⟨L, hLM⟩ : ∃ L, L = M := ⟨_, rfl⟩
    rw [← hLM] at hr8 hul hckL hrL hsL
    clear hLM
    obtain ⟨ua, uc, rfl⟩ := hum.slice
    obtain ⟨la, lc, rfl⟩ := hul.slice
    simp [overlay, dstsOf, ops5, h7, h8]
    unfold funR at hr7 hr8
    obtain ⟨x0, x1, x2⟩ := bx3 hr7
    have HW := hide (wfunc_ok M (.agg #[.int .i64 M.p, .int .i64 M.v, .slice ua M.bs.length uc]) W ⟨_, rfl, hum⟩ hckM hrM)
    have HR7 := hide hr7
    have HR8 := hide hr8
    have HUM := hide hum
    have HUL := hide hul
    have HCM := hide (And.intro hckM (And.intro hckL (And.intro hrM (And.intro hrL (And.intro hsM hsL)))))
    clear h7 h8 hr7 hr8 hum hul hB5 hckM hckL hrM hrL hsM hsL HR3 HS HB2
    go_wp2_with fail
    refine HW.out.mono ?_
    rintro r w3 ⟨xv, rfl, hX, hB3⟩
    obtain ⟨xa, xn, xc, rfl⟩ := bysnd _ _ _ hX.byt
    have HX := hide hX.byt
    have HR7 := hide ((hB3.block _ (Array.getElem?_eq_some_iff.1 HR7.out).1).trans HR7.out)
    have HR8 := hide ((hB3.block _ (Array.getElem?_eq_some_iff.1 HR8.out).1).trans HR8.out)
    have HUM := hide (HUM.out.below hB3)
    have HUL := hide (HUL.out.below hB3)
    have HB3 := hide (bel_of HB5.out hB3)
    obtain ⟨y0, y1, y2⟩ := bx3 HR8.out
    have HW2 := hide (wfunc_ok L (.agg #[.int .i64 L.p, .int .i64 L.v, .slice la L.bs.length lc]) w3 ⟨_, rfl, HUL.out⟩ HCM.out.2.1 HCM.out.2.2.2.1)
    clear hX hB3 HW HB5 x0 x1 x2
    go_wp2_with fail
    refine HW2.out.mono ?_
    rintro r w4 ⟨yv, rfl, hY, hB4⟩
    obtain ⟨ya, yn, yc, rfl⟩ := bysnd _ _ _ hY.byt
    have HY := hide hY.byt
    have HX := hide (HX.out.below hB4)
    have HR7 := hide ((hB4.block _ (Array.getElem?_eq_some_iff.1 HR7.out).1).trans HR7.out)
    have HR8 := hide ((hB4.block _ (Array.getElem?_eq_some_iff.1 HR8.out).1).trans HR8.out)
    have HUM := hide (HUM.out.below hB4)
    have HUL := hide (HUL.out.below hB4)
    have HB4 := hide (bel_of HB3.out hB4)
    clear hY hB4 HW2 HB3 y0 y1 y2
    go_wp2_with fail
    refine r8_ok (M := M) (L := L) (um := .slice ua M.bs.length uc) (ul := .slice la L.bs.length lc) (xs := funB M) (ys := funB L) rfl rfl rfl rfl rfl rfl rfl HR7.out HR8.out HX.out HY.out rfl (same_bytes HCM.out.1 HCM.out.2.1 HCM.out.2.2.1 HCM.out.2.2.2.1 HX.out HY.out) (fun W h => sameFuncs_dec M L _ _ W (HUM.out.below h) (HUL.out.below h) HCM.out.2.2.2.2.1 HCM.out.2.2.2.2.2) ?_
    intro s2 W2 h6 hB6
    have hBf := bel_of HB4.out hB6
    clear hB6 HB4 HX HY HR7 HR8 HUM HUL HCM
    simp [overlay, dstsOf, ops8, h6]
    go_wp2_with fail
    go_ret
    exact ⟨rfl, hBf⟩
  | false =>
    go_wp2_with fail
    clear s0 s1 s2 s3 t0 t1 t2 t3 f0 f1 f2 f3
    refine r5_ok (ra := #[.int .u8 sa, .int .u8 sb, .int .u8 sc, .slice sx sbs.length cx]) (rb := #[.int .u8 ta, .int .u8 tb, .int .u8 tc, .slice tx tbs.length dx]) (M := made sa sb sc sbs) (L := made ta tb tc tbs) rfl rfl rfl HR3.out HR4.out rfl rfl (fun W h => made_any _ sa sb sc sbs W (HS.out.below h)) (fun W h => made_any _ ta tb tc tbs W (HT.out.below h)) ?_
    intro s W g7 g8 um ul h7 h8 hr7 hr8 hum hul hB5
    have hckM : (chk (made sa sb sc sbs)).1 = 0 := by rw [made_right]
    have hckL : (chk (made ta tb tc tbs)).1 = 0 := by rw [made_right]
    have hrM := made_rgd sa sb sc sbs
    have hrL := made_rgd ta tb tc tbs
    have hsM := small_args hckM hrM
    have hsL := small_args hckL hrL
    have HB5 := hide (bel_of HB1.out hB5)
    generalize made sa sb sc sbs = M at *
    generalize made ta tb tc tbs = L at *
    obtain ⟨ua, uc, rfl⟩ := hum.slice
    obtain ⟨la, lc, rfl⟩ := hul.slice
    simp [overlay, dstsOf, ops5, h7, h8]
    unfold funR at hr7 hr8
    obtain ⟨x0, x1, x2⟩ := bx3 hr7
    have HW := hide (wfunc_ok M (.agg #[.int .i64 M.p, .int .i64 M.v, .slice ua M.bs.length uc]) W ⟨_, rfl, hum⟩ hckM hrM)
    have HR7 := hide hr7
    have HR8 := hide hr8
    have HUM := hide hum
    have HUL := hide hul
    have HCM := hide (And.intro hckM (And.intro hckL (And.intro hrM (And.intro hrL (And.intro hsM hsL)))))
    clear h7 h8 hr7 hr8 hum hul hB5 hckM hckL hrM hrL hsM hsL HR3 HS HB1
    go_wp2_with fail
    refine HW.out.mono ?_
    rintro r w3 ⟨xv, rfl, hX, hB3⟩
    obtain ⟨xa, xn, xc, rfl⟩ := bysnd _ _ _ hX.byt
    have HX := hide hX.byt
    have HR7 := hide ((hB3.block _ (Array.getElem?_eq_some_iff.1 HR7.out).1).trans HR7.out)
    have HR8 := hide ((hB3.block _ (Array.getElem?_eq_some_iff.1 HR8.out).1).trans HR8.out)
    have HUM := hide (HUM.out.below hB3)
    have HUL := hide (HUL.out.below hB3)
    have HB3 := hide (bel_of HB5.out hB3)
    obtain ⟨y0, y1, y2⟩ := bx3 HR8.out
    have HW2 := hide (wfunc_ok L (.agg #[.int .i64 L.p, .int .i64 L.v, .slice la L.bs.length lc]) w3 ⟨_, rfl, HUL.out⟩ HCM.out.2.1 HCM.out.2.2.2.1)
    clear hX hB3 HW HB5 x0 x1 x2
    go_wp2_with fail
    refine HW2.out.mono ?_
    rintro r w4 ⟨yv, rfl, hY, hB4⟩
    obtain ⟨ya, yn, yc, rfl⟩ := bysnd _ _ _ hY.byt
    have HY := hide hY.byt
    have HX := hide (HX.out.below hB4)
    have HR7 := hide ((hB4.block _ (Array.getElem?_eq_some_iff.1 HR7.out).1).trans HR7.out)
    have HR8 := hide ((hB4.block _ (Array.getElem?_eq_some_iff.1 HR8.out).1).trans HR8.out)
    have HUM := hide (HUM.out.below hB4)
    have HUL := hide (HUL.out.below hB4)
    have HB4 := hide (bel_of HB3.out hB4)
    clear hY hB4 HW2 HB3 y0 y1 y2
    go_wp2_with fail
    refine r8_ok (M := M) (L := L) (um := .slice ua M.bs.length uc) (ul := .slice la L.bs.length lc) (xs := funB M) (ys := funB L) rfl rfl rfl rfl rfl rfl rfl HR7.out HR8.out HX.out HY.out rfl (same_bytes HCM.out.1 HCM.out.2.1 HCM.out.2.2.1 HCM.out.2.2.2.1 HX.out HY.out) (fun W h => sameFuncs_dec M L _ _ W (HUM.out.below h) (HUL.out.below h) HCM.out.2.2.2.2.1 HCM.out.2.2.2.2.2) ?_
    intro s2 W2 h6 hB6
    have hBf := bel_of HB4.out hB6
    clear hB6 HB4 HX HY HR7 HR8 HUM HUL HCM
    simp [overlay, dstsOf, ops8, h6]
    go_wp2_with fail
    go_ret
    exact ⟨rfl, hBf⟩
end Go.Proofs.Ytbjnhicikkjadab
