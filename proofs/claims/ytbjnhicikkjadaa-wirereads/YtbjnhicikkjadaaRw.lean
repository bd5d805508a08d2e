/- The document's ReadFunc and ReadCode. -/
import Derived.Test.YtbjnhicikkjadaaBk
import Derived.Test.YtbjnhicikkjadaaRr
import Derived.Test.YtbjnhicikkjadaaRefFunc
import Derived.Test.YtbjnhicikkjadaaRCode
import Derived.Test.YtbjnhicikkjadaaAw
import Derived.Test.YtbjnhicikkjadaaTv
import Derived.Test.YtbjnhicikkjadaaSd
import Derived.Test.YtbjnhicikkjadaaRf
import Derived.Test.YtbjnhicikkjadaaMade
import Derived.Test.YtbjnhicikkjadaaMd5
import Derived.Deep.Cut
namespace Go.Proofs.Ytbjnhicikkjadaa
open Go Go.RowKit Ir Wire

set_option maxHeartbeats 4000000 in
set_option maxRecDepth 100000 in
theorem refReadFunc_any (v : Value) (xs : List Int) (w : World) (hv : Lb.Byt w v xs) (hw : 0 < w.heap.size) :
    Calls Try.prog 22 #[v] w fun e w' => ∃ u, e = .returned (.tuple #[.agg #[.int .i64 (rd zF funP okF xs).1.p, .int .i64 (rd zF funP okF xs).1.v, u], .int .i64 (rd zF funP okF xs).2]) ∧ BlksO w.heap.size w' u (rd zF funP okF xs).1.bs ∧ Below w.heap.size w w' := by
  obtain ⟨b, hb, hbt⟩ := byt_block hv hw
  obtain ⟨ao, nv, cap, rfl⟩ := bysnd _ _ _ hv
  have hB1 := bel1' w (.cells #[.int .i64 0, .int .i64 0, .slice none 0 0] 24)
  have hR0 := rdr_box (hbt.below hB1 (fun _ => hb)) (by simp; omega : b < (w.alloc (.cells #[.int .i64 0, .int .i64 0, .slice none 0 0] 24)).heap.size) 0
  have hB2 := bel_of hB1 (bel1' (w.alloc (.cells #[.int .i64 0, .int .i64 0, .slice none 0 0] 24)) (.cells #[.slice ao nv cap, .int .i64 0] 107))
  have hr0 := (((bel1' (w.alloc (.cells #[.int .i64 0, .int .i64 0, .slice none 0 0] 24)) (.cells #[.slice ao nv cap, .int .i64 0] 107))).block _ (row_lt (heap_alloc_new w (.cells #[.int .i64 0, .int .i64 0, .slice none 0 0] 24)))).trans (heap_alloc_new w (.cells #[.int .i64 0, .int .i64 0, .slice none 0 0] 24))
  have hsz : ((w.alloc (.cells #[.int .i64 0, .int .i64 0, .slice none 0 0] 24)).alloc (.cells #[.slice ao nv cap, .int .i64 0] 107)).heap.size = w.heap.size + 1 + 1 := by simp
  have hp0 : (w.alloc (.cells #[.int .i64 0, .int .i64 0, .slice none 0 0] 24)).heap.size = w.heap.size + 1 := by simp
  obtain ⟨W0, hW0⟩ : ∃ W, W = (w.alloc (.cells #[.int .i64 0, .int .i64 0, .slice none 0 0] 24)).alloc (.cells #[.slice ao nv cap, .int .i64 0] 107) := ⟨_, rfl⟩
  rw [hp0] at hR0
  rw [← hW0] at hR0 hB2 hr0 hsz
  have HS0 : Hid (St8 W0 (w.heap.size + 1) b (W0.alloc (.cells #[.int .i64 0, .int .i64 0, .slice none 0 0] 24)) xs 0) := hide (St8.alloc ⟨hR0, Lb.grownBy_refl _ _, by omega⟩ _)
  have hg0 := heap_alloc_new W0 (.cells #[.int .i64 0, .int .i64 0, .slice none 0 0] 24)
  rw [hsz] at hg0
  have HBel := hide hB2
  have HSZ := hide hsz
  have hz := build24
  have hrr := (HS0.out.grown.block w.heap.size (by omega) (by simp)).trans hr0
  have HRR := hide hr0
  have hWx : Hid (W0 = (w.alloc (.cells #[.int .i64 0, .int .i64 0, .slice none 0 0] 24)).alloc (.cells #[.slice ao nv cap, .int .i64 0] 107)) := hide hW0
  have HC := hide (refBelow_t (w.heap.size + 1) b xs 0 4096 _ HS0.out.rdr (by omega) (by omega))
  rw [hW0] at HC
  clear hv hbt hB1 hR0 hB2 hr0 hsz hW0 hrr
  go_enter Try.func22, Try.ntmps22
  go_wp2_with fail
  refine HC.out.mono ?_
  rintro e v0 ⟨x0, u, ys0, d0, rfl, ⟨rfl, hx0, hx1⟩, hT0, hR, hg⟩
  rw [← hWx.out] at hg
  have hS := HS0.out.call hR hg
  have hgr := grown_row hg hg0 (by have := HSZ.out; omega)
  have HT0 := hide hT0
  have hfz : v0.frozen? ⟨(w.heap.size + 1 + 1), 0, none⟩ = false := frozen_of_row _ _ _ _ _ hgr
  obtain ⟨c0, c1, c2⟩ := box3 hgr
  have HSn0 := hide (hS.set (g := w.heap.size + 1 + 1) (k := 0) (v := .int .i64 x0) (by have := HSZ.out; omega))
  have hg1 : (v0.setCell ⟨(w.heap.size + 1 + 1), 0, none⟩ (.int .i64 x0)).heap[w.heap.size + 1 + 1]? = some (Obj.cells #[.int .i64 x0, .int .i64 0, .slice none 0 0] 24 (0, 0)) := heap_setCell_same v0 (w.heap.size + 1 + 1) 0 _ _ (.int .i64 x0) hgr
  clear HC hS hgr hT0 hR hg hg0 hx0 hx1 HS0
  have HC := hide (refBelow_t (w.heap.size + 1) b ys0 d0 4096 _ HSn0.out.rdr (by omega) (by omega))
  go_wp2_with fail
  refine HC.out.mono ?_
  rintro e v1 ⟨x1, u, ys1, d1, rfl, ⟨rfl, hx0, hx1⟩, hT1, hR, hg⟩
  have hS := HSn0.out.call hR hg
  have hgr := grown_row hg hg1 (by have := HSZ.out; omega)
  have HT1 := hide hT1
  have hfz : v1.frozen? ⟨(w.heap.size + 1 + 1), 1, none⟩ = false := frozen_of_row _ _ _ _ _ hgr
  obtain ⟨c0, c1, c2⟩ := box3 hgr
  have HSn1 := hide (hS.set (g := w.heap.size + 1 + 1) (k := 1) (v := .int .i64 x1) (by have := HSZ.out; omega))
  have hg2 : (v1.setCell ⟨(w.heap.size + 1 + 1), 1, none⟩ (.int .i64 x1)).heap[w.heap.size + 1 + 1]? = some (Obj.cells #[.int .i64 x0, .int .i64 x1, .slice none 0 0] 24 (0, 0)) := heap_setCell_same v1 (w.heap.size + 1 + 1) 1 _ _ (.int .i64 x1) hgr
  clear HC hS hgr hT1 hR hg hg1 hx0 hx1 HSn0
  have HC := hide (readBlocks_any 32 (w.heap.size + 1) b ys1 d1 _ HSn1.out.rdr (by have := HSn1.out.sz; have := HSn1.out.pb.2; omega) (by omega))
  go_wp2_with fail
  refine HC.out.mono ?_
  rintro e vb ⟨bs, u, ysb, db, rfl, hO, hTb, hR, hg⟩
  have hS := HSn1.out.call hR hg
  have hgr := grown_row hg hg2 (by have := HSZ.out; omega)
  have hTT := took_fun HT0.out HT1.out hTb
  obtain ⟨au, nu, cu, rfl⟩ : ∃ ao n cap, u = .slice ao n cap := (by obtain ⟨_, _, h2, _⟩ := hO; exact owns_slice h2)
  have hfz : vb.frozen? ⟨(w.heap.size + 1 + 1), 2, none⟩ = false := frozen_of_row _ _ _ _ _ hgr
  obtain ⟨c0, c1, c2⟩ := box3 hgr
  have hO0 := BlksO.mono (B' := W0.heap.size) hO HSn1.out.sz
  have HSb := hide (hS.set (g := w.heap.size + 1 + 1) (k := 2) (v := .slice au nu cu) (by have := HSZ.out; omega))
  have hgb : (vb.setCell ⟨(w.heap.size + 1 + 1), 2, none⟩ (.slice au nu cu)).heap[w.heap.size + 1 + 1]? = some (Obj.cells #[.int .i64 x0, .int .i64 x1, .slice au nu cu] 24 (0, 0)) := heap_setCell_same vb (w.heap.size + 1 + 1) 2 _ _ (.slice au nu cu) hgr
  have HOb : Hid (BlksO W0.heap.size (vb.setCell ⟨(w.heap.size + 1 + 1), 2, none⟩ (.slice au nu cu)) (.slice au nu cu) bs) := hide (BlksO.keeps hO0 (Keeps.set hgr rfl _))
  have HE := hide (Lb.refEnd_any (w.heap.size + 1) b ysb db _ HSb.out.rdr)
  clear HC hO hTb hR hg hS hgr hg2 hO0 HSn1
  go_wp2_with fail
  refine HE.out.mono ?_
  rintro e we ⟨rfl, hR, hg⟩
  have hS := HSb.out.call hR hg
  have hgr := grown_row hg hgb (by have := HSZ.out; omega)
  have hOe := HOb.out.kept hg HSb.out.pb.1
  have hBe : Below w.heap.size w we := HBel.out.grown hS.grown HBel.out.size (fun q hq => by simp at hq; omega)
  have hre := (hS.grown.block w.heap.size (by have := HSZ.out; omega) (by simp)).trans HRR.out
  have hsw : w.heap.size ≤ W0.heap.size := by have := HSZ.out; omega
  have hlw : w.heap.size < we.heap.size := row_lt hre
  have HOw := hide (BlksO.mono (B' := w.heap.size) hOe hsw)
  have HBe := hide hBe
  have HRE := hide hre
  have HGR := hide hgr
  clear HE hR hg hS HSb hgb HOb hfz c0 c1 c2 hOe hBe
  obtain ⟨ee, hee⟩ : ∃ e, e = Leb.ended ysb db := ⟨_, rfl⟩
  rw [← hee]
  obtain ⟨r0, r1, r2⟩ := box3 hre
  by_cases h0 : ee = 0
  · subst h0
    have he := hide hee.symm
    obtain ⟨c0, c1, c2⟩ := box3 HGR.out
    have HK := hide (refFunc_any (⟨x0, x1, bs⟩ : Fun) (.agg #[.int .i64 x0, .int .i64 x1, .slice au nu cu]) we ⟨_, rfl, HOw.out.v⟩)
    obtain ⟨c, hc⟩ : ∃ c, c = chk (⟨x0, x1, bs⟩ : Fun) := ⟨_, rfl⟩
    rw [← hc] at HK
    obtain ⟨z0, z1, z2⟩ := c
    have hf := run_field37 (.int .i64 z0) (.int .i64 z1) (.int .i64 z2)
    have HCC := hide hc
    clear hc hee hgr hre
    unfold faultV at HK
    go_wp2_with fail
    refine HK.out.mono ?_
    rintro e wk ⟨rfl, hBk⟩
    have hrk := (hBk.block _ (row_lt HRE.out)).trans HRE.out
    have hnk := (hBk.block _ (row_lt HGR.out)).trans HGR.out
    have hBK := HBe.out.trans (hBk.mono HBe.out.size)
    have hOk := HOw.out.keeps (Keeps.below hBk)
    have hlk : w.heap.size < wk.heap.size := row_lt hrk
    clear HK c0 c1 c2 r0 r1 r2 hBk
    obtain ⟨r0, r1, r2⟩ := box3 hrk
    obtain ⟨c0, c1, c2⟩ := box3 hnk
    have g0 : wk.frozen? ⟨w.heap.size, 0, none⟩ = false := frozen_of_row _ _ _ _ _ hrk
    have g1 : wk.frozen? ⟨w.heap.size, 1, none⟩ = false := frozen_of_row _ _ _ _ _ hrk
    have g2 : wk.frozen? ⟨w.heap.size, 2, none⟩ = false := frozen_of_row _ _ _ _ _ hrk
    by_cases hz0 : z0 = 0
    · subst hz0
      have ho : okF (⟨x0, x1, bs⟩ : Fun) = true := by unfold okF; rw [← HCC.out]; rfl
      have hrd := hide (rd_ok (z := zF) (ok := okF) hTT he.out ho)
      have hre2 := sbox3 (.int .i64 x0) (.int .i64 x1) (.slice au nu cu) hrk
      have hBe2 := hBK.grown (gbox3 _ w.heap.size (.int .i64 x0) (.int .i64 x1) (.slice au nu cu)) hBK.size (fun q hq => by simp at hq; omega)
      have hOe2 := BlksO.keeps hOk (kbox3 (.int .i64 x0) (.int .i64 x1) (.slice au nu cu) hrk (by decide))
      obtain ⟨y0, y1, y2⟩ := box3 hre2
      go_wp2_with fail
      refine bodyPost_ret (v := .tuple #[.agg #[.int .i64 x0, .int .i64 x1, .slice au nu cu], .int .i64 0]) (by simp [results, Try.results22, go_sem, y0, y1, y2]) rfl ?_
      rw [hrd.out]
      exact ⟨_, rfl, hOe2, hBe2⟩
    · have hb0 : (z0 == 0) = false := by simp [hz0]
      have ho : okF (⟨x0, x1, bs⟩ : Fun) = false := by unfold okF; rw [← HCC.out]; exact hb0
      have hrd := hide (rd_shape (z := zF) (ok := okF) hTT he.out ho)
      clear hz0
      have hre2 := sbox3 (.int .i64 0) (.int .i64 0) (.slice none 0 0) hrk
      have hBe2 := hBK.grown (gbox3 _ w.heap.size (.int .i64 0) (.int .i64 0) (.slice none 0 0)) hBK.size (fun q hq => by simp at hq; omega)
      obtain ⟨y0, y1, y2⟩ := box3 hre2
      go_wp2_with fail
      refine bodyPost_ret (v := .tuple #[.agg #[.int .i64 0, .int .i64 0, .slice none 0 0], .int .i64 30]) (by simp [results, Try.results22, go_sem, y0, y1, y2]) rfl ?_
      rw [hrd.out]
      exact ⟨_, rfl, BlksO.nil _ _, hBe2⟩
  · have hb0 : (ee == 0) = false := by simp [h0]
    have hrd := hide (rd_fault (z := zF) (ok := okF) hTT (by rw [← hee]; exact h0))
    rw [← hee] at hrd
    have hBE := HBe.out
    clear h0 hee
    have g0 : we.frozen? ⟨w.heap.size, 0, none⟩ = false := frozen_of_row _ _ _ _ _ hre
    have g1 : we.frozen? ⟨w.heap.size, 1, none⟩ = false := frozen_of_row _ _ _ _ _ hre
    have g2 : we.frozen? ⟨w.heap.size, 2, none⟩ = false := frozen_of_row _ _ _ _ _ hre
    have hre2 := sbox3 (.int .i64 0) (.int .i64 0) (.slice none 0 0) hre
    have hBe2 := hBE.grown (gbox3 _ w.heap.size (.int .i64 0) (.int .i64 0) (.slice none 0 0)) hBE.size (fun q hq => by simp at hq; omega)
    obtain ⟨y0, y1, y2⟩ := box3 hre2
    go_wp2_with fail
    refine bodyPost_ret (v := .tuple #[.agg #[.int .i64 0, .int .i64 0, .slice none 0 0], .int .i64 ee]) (by simp [results, Try.results22, go_sem, y0, y1, y2]) rfl ?_
    rw [hrd.out]
    exact ⟨_, rfl, BlksO.nil _ _, hBe2⟩
set_option maxHeartbeats 4000000 in
set_option maxRecDepth 100000 in
theorem refReadCode_any (v : Value) (xs : List Int) (w : World) (hv : Lb.Byt w v xs) (hw : 0 < w.heap.size) :
    Calls Try.prog 25 #[v] w fun e w' => ∃ u, e = .returned (.tuple #[.agg #[.int .i64 (rd zC codP okC xs).1.p, .int .i64 (rd zC codP okC xs).1.r, .int .i64 (rd zC codP okC xs).1.s, u], .int .i64 (rd zC codP okC xs).2]) ∧ BlksO w.heap.size w' u (rd zC codP okC xs).1.bs ∧ Below w.heap.size w w' := by
  obtain ⟨b, hb, hbt⟩ := byt_block hv hw
  obtain ⟨ao, nv, cap, rfl⟩ := bysnd _ _ _ hv
  have hB1 := bel1' w (.cells #[.int .i64 0, .int .i64 0, .int .i64 0, .slice none 0 0] 42)
  have hR0 := rdr_box (hbt.below hB1 (fun _ => hb)) (by simp; omega : b < (w.alloc (.cells #[.int .i64 0, .int .i64 0, .int .i64 0, .slice none 0 0] 42)).heap.size) 0
  have hB2 := bel_of hB1 (bel1' (w.alloc (.cells #[.int .i64 0, .int .i64 0, .int .i64 0, .slice none 0 0] 42)) (.cells #[.slice ao nv cap, .int .i64 0] 107))
  have hr0 := (((bel1' (w.alloc (.cells #[.int .i64 0, .int .i64 0, .int .i64 0, .slice none 0 0] 42)) (.cells #[.slice ao nv cap, .int .i64 0] 107))).block _ (row_lt (heap_alloc_new w (.cells #[.int .i64 0, .int .i64 0, .int .i64 0, .slice none 0 0] 42)))).trans (heap_alloc_new w (.cells #[.int .i64 0, .int .i64 0, .int .i64 0, .slice none 0 0] 42))
  have hsz : ((w.alloc (.cells #[.int .i64 0, .int .i64 0, .int .i64 0, .slice none 0 0] 42)).alloc (.cells #[.slice ao nv cap, .int .i64 0] 107)).heap.size = w.heap.size + 1 + 1 := by simp
  have hp0 : (w.alloc (.cells #[.int .i64 0, .int .i64 0, .int .i64 0, .slice none 0 0] 42)).heap.size = w.heap.size + 1 := by simp
  obtain ⟨W0, hW0⟩ : ∃ W, W = (w.alloc (.cells #[.int .i64 0, .int .i64 0, .int .i64 0, .slice none 0 0] 42)).alloc (.cells #[.slice ao nv cap, .int .i64 0] 107) := ⟨_, rfl⟩
  rw [hp0] at hR0
  rw [← hW0] at hR0 hB2 hr0 hsz
  have HS0 : Hid (St8 W0 (w.heap.size + 1) b (W0.alloc (.cells #[.int .i64 0, .int .i64 0, .int .i64 0, .slice none 0 0] 42)) xs 0) := hide (St8.alloc ⟨hR0, Lb.grownBy_refl _ _, by omega⟩ _)
  have hg0 := heap_alloc_new W0 (.cells #[.int .i64 0, .int .i64 0, .int .i64 0, .slice none 0 0] 42)
  rw [hsz] at hg0
  have HBel := hide hB2
  have HSZ := hide hsz
  have hz := build42
  have hrr := (HS0.out.grown.block w.heap.size (by omega) (by simp)).trans hr0
  have HRR := hide hr0
  have hWx : Hid (W0 = (w.alloc (.cells #[.int .i64 0, .int .i64 0, .int .i64 0, .slice none 0 0] 42)).alloc (.cells #[.slice ao nv cap, .int .i64 0] 107)) := hide hW0
  have HC := hide (refBelow_t (w.heap.size + 1) b xs 0 4096 _ HS0.out.rdr (by omega) (by omega))
  rw [hW0] at HC
  clear hv hbt hB1 hR0 hB2 hr0 hsz hW0 hrr
  go_enter Try.func25, Try.ntmps25
  go_wp2_with fail
  refine HC.out.mono ?_
  rintro e v0 ⟨x0, u, ys0, d0, rfl, ⟨rfl, hx0, hx1⟩, hT0, hR, hg⟩
  rw [← hWx.out] at hg
  have hS := HS0.out.call hR hg
  have hgr := grown_row hg hg0 (by have := HSZ.out; omega)
  have HT0 := hide hT0
  have hfz : v0.frozen? ⟨(w.heap.size + 1 + 1), 0, none⟩ = false := frozen_of_row _ _ _ _ _ hgr
  obtain ⟨c0, c1, c2, c3⟩ := box4 hgr
  have HSn0 := hide (hS.set (g := w.heap.size + 1 + 1) (k := 0) (v := .int .i64 x0) (by have := HSZ.out; omega))
  have hg1 : (v0.setCell ⟨(w.heap.size + 1 + 1), 0, none⟩ (.int .i64 x0)).heap[w.heap.size + 1 + 1]? = some (Obj.cells #[.int .i64 x0, .int .i64 0, .int .i64 0, .slice none 0 0] 42 (0, 0)) := heap_setCell_same v0 (w.heap.size + 1 + 1) 0 _ _ (.int .i64 x0) hgr
  clear HC hS hgr hT0 hR hg hg0 hx0 hx1 HS0
  have HC := hide (refBelow_t (w.heap.size + 1) b ys0 d0 4096 _ HSn0.out.rdr (by omega) (by omega))
  go_wp2_with fail
  refine HC.out.mono ?_
  rintro e v1 ⟨x1, u, ys1, d1, rfl, ⟨rfl, hx0, hx1⟩, hT1, hR, hg⟩
  have hS := HSn0.out.call hR hg
  have hgr := grown_row hg hg1 (by have := HSZ.out; omega)
  have HT1 := hide hT1
  have hfz : v1.frozen? ⟨(w.heap.size + 1 + 1), 1, none⟩ = false := frozen_of_row _ _ _ _ _ hgr
  obtain ⟨c0, c1, c2, c3⟩ := box4 hgr
  have HSn1 := hide (hS.set (g := w.heap.size + 1 + 1) (k := 1) (v := .int .i64 x1) (by have := HSZ.out; omega))
  have hg2 : (v1.setCell ⟨(w.heap.size + 1 + 1), 1, none⟩ (.int .i64 x1)).heap[w.heap.size + 1 + 1]? = some (Obj.cells #[.int .i64 x0, .int .i64 x1, .int .i64 0, .slice none 0 0] 42 (0, 0)) := heap_setCell_same v1 (w.heap.size + 1 + 1) 1 _ _ (.int .i64 x1) hgr
  clear HC hS hgr hT1 hR hg hg1 hx0 hx1 HSn0
  have HC := hide (refBelow_t (w.heap.size + 1) b ys1 d1 4096 _ HSn1.out.rdr (by omega) (by omega))
  go_wp2_with fail
  refine HC.out.mono ?_
  rintro e v2 ⟨x2, u, ys2, d2, rfl, ⟨rfl, hx0, hx1⟩, hT2, hR, hg⟩
  have hS := HSn1.out.call hR hg
  have hgr := grown_row hg hg2 (by have := HSZ.out; omega)
  have HT2 := hide hT2
  have hfz : v2.frozen? ⟨(w.heap.size + 1 + 1), 2, none⟩ = false := frozen_of_row _ _ _ _ _ hgr
  obtain ⟨c0, c1, c2, c3⟩ := box4 hgr
  have HSn2 := hide (hS.set (g := w.heap.size + 1 + 1) (k := 2) (v := .int .i64 x2) (by have := HSZ.out; omega))
  have hg3 : (v2.setCell ⟨(w.heap.size + 1 + 1), 2, none⟩ (.int .i64 x2)).heap[w.heap.size + 1 + 1]? = some (Obj.cells #[.int .i64 x0, .int .i64 x1, .int .i64 x2, .slice none 0 0] 42 (0, 0)) := heap_setCell_same v2 (w.heap.size + 1 + 1) 2 _ _ (.int .i64 x2) hgr
  clear HC hS hgr hT2 hR hg hg2 hx0 hx1 HSn1
  have HC := hide (readBlocks_any 400 (w.heap.size + 1) b ys2 d2 _ HSn2.out.rdr (by have := HSn2.out.sz; have := HSn2.out.pb.2; omega) (by omega))
  go_wp2_with fail
  refine HC.out.mono ?_
  rintro e vb ⟨bs, u, ysb, db, rfl, hO, hTb, hR, hg⟩
  have hS := HSn2.out.call hR hg
  have hgr := grown_row hg hg3 (by have := HSZ.out; omega)
  have hTT := took_cod HT0.out HT1.out HT2.out hTb
  obtain ⟨au, nu, cu, rfl⟩ : ∃ ao n cap, u = .slice ao n cap := (by obtain ⟨_, _, h2, _⟩ := hO; exact owns_slice h2)
  have hfz : vb.frozen? ⟨(w.heap.size + 1 + 1), 3, none⟩ = false := frozen_of_row _ _ _ _ _ hgr
  obtain ⟨c0, c1, c2, c3⟩ := box4 hgr
  have hO0 := BlksO.mono (B' := W0.heap.size) hO HSn2.out.sz
  have HSb := hide (hS.set (g := w.heap.size + 1 + 1) (k := 3) (v := .slice au nu cu) (by have := HSZ.out; omega))
  have hgb : (vb.setCell ⟨(w.heap.size + 1 + 1), 3, none⟩ (.slice au nu cu)).heap[w.heap.size + 1 + 1]? = some (Obj.cells #[.int .i64 x0, .int .i64 x1, .int .i64 x2, .slice au nu cu] 42 (0, 0)) := heap_setCell_same vb (w.heap.size + 1 + 1) 3 _ _ (.slice au nu cu) hgr
  have HOb : Hid (BlksO W0.heap.size (vb.setCell ⟨(w.heap.size + 1 + 1), 3, none⟩ (.slice au nu cu)) (.slice au nu cu) bs) := hide (BlksO.keeps hO0 (Keeps.set hgr rfl _))
  have HE := hide (Lb.refEnd_any (w.heap.size + 1) b ysb db _ HSb.out.rdr)
  clear HC hO hTb hR hg hS hgr hg3 hO0 HSn2
  go_wp2_with fail
  refine HE.out.mono ?_
  rintro e we ⟨rfl, hR, hg⟩
  have hS := HSb.out.call hR hg
  have hgr := grown_row hg hgb (by have := HSZ.out; omega)
  have hOe := HOb.out.kept hg HSb.out.pb.1
  have hBe : Below w.heap.size w we := HBel.out.grown hS.grown HBel.out.size (fun q hq => by simp at hq; omega)
  have hre := (hS.grown.block w.heap.size (by have := HSZ.out; omega) (by simp)).trans HRR.out
  have hsw : w.heap.size ≤ W0.heap.size := by have := HSZ.out; omega
  have hlw : w.heap.size < we.heap.size := row_lt hre
  have HOw := hide (BlksO.mono (B' := w.heap.size) hOe hsw)
  have HBe := hide hBe
  have HRE := hide hre
  have HGR := hide hgr
  clear HE hR hg hS HSb hgb HOb hfz c0 c1 c2 c3 hOe hBe
  obtain ⟨ee, hee⟩ : ∃ e, e = Leb.ended ysb db := ⟨_, rfl⟩
  rw [← hee]
  obtain ⟨r0, r1, r2, r3⟩ := box4 hre
  by_cases h0 : ee = 0
  · subst h0
    have he := hide hee.symm
    obtain ⟨c0, c1, c2, c3⟩ := box4 HGR.out
    have HK := hide (rCode_any (⟨x0, x1, x2, bs⟩ : Cod) (.agg #[.int .i64 x0, .int .i64 x1, .int .i64 x2, .slice au nu cu]) we ⟨_, rfl, HOw.out.v⟩)
    obtain ⟨c, hc⟩ : ∃ c, c = mchk (⟨x0, x1, x2, bs⟩ : Cod) := ⟨_, rfl⟩
    rw [← hc] at HK
    obtain ⟨z0, z1, z2⟩ := c
    have hf := run_field37 (.int .i64 z0) (.int .i64 z1) (.int .i64 z2)
    have HCC := hide hc
    clear hc hee hgr hre
    unfold faultV at HK
    go_wp2_with fail
    refine HK.out.mono ?_
    rintro e wk ⟨rfl, hBk⟩
    have hrk := (hBk.block _ (row_lt HRE.out)).trans HRE.out
    have hnk := (hBk.block _ (row_lt HGR.out)).trans HGR.out
    have hBK := HBe.out.trans (hBk.mono HBe.out.size)
    have hOk := HOw.out.keeps (Keeps.below hBk)
    have hlk : w.heap.size < wk.heap.size := row_lt hrk
    clear HK c0 c1 c2 c3 r0 r1 r2 r3 hBk
    obtain ⟨r0, r1, r2, r3⟩ := box4 hrk
    obtain ⟨c0, c1, c2, c3⟩ := box4 hnk
    have g0 : wk.frozen? ⟨w.heap.size, 0, none⟩ = false := frozen_of_row _ _ _ _ _ hrk
    have g1 : wk.frozen? ⟨w.heap.size, 1, none⟩ = false := frozen_of_row _ _ _ _ _ hrk
    have g2 : wk.frozen? ⟨w.heap.size, 2, none⟩ = false := frozen_of_row _ _ _ _ _ hrk
    have g3 : wk.frozen? ⟨w.heap.size, 3, none⟩ = false := frozen_of_row _ _ _ _ _ hrk
    by_cases hz0 : z0 = 0
    · subst hz0
      have ho : okC (⟨x0, x1, x2, bs⟩ : Cod) = true := by unfold okC; rw [← HCC.out]; rfl
      have hrd := hide (rd_ok (z := zC) (ok := okC) hTT he.out ho)
      have hre3 := sbox4 (.int .i64 x0) (.int .i64 x1) (.int .i64 x2) (.slice au nu cu) hrk
      have hBe3 := hBK.grown (gbox4 _ w.heap.size (.int .i64 x0) (.int .i64 x1) (.int .i64 x2) (.slice au nu cu)) hBK.size (fun q hq => by simp at hq; omega)
      have hOe3 := BlksO.keeps hOk (kbox4 (.int .i64 x0) (.int .i64 x1) (.int .i64 x2) (.slice au nu cu) hrk (by decide))
      obtain ⟨y0, y1, y2, y3⟩ := box4 hre3
      go_wp2_with fail
      refine bodyPost_ret (v := .tuple #[.agg #[.int .i64 x0, .int .i64 x1, .int .i64 x2, .slice au nu cu], .int .i64 0]) (by simp [results, Try.results25, go_sem, y0, y1, y2, y3]) rfl ?_
      rw [hrd.out]
      exact ⟨_, rfl, hOe3, hBe3⟩
    · have hb0 : (z0 == 0) = false := by simp [hz0]
      have ho : okC (⟨x0, x1, x2, bs⟩ : Cod) = false := by unfold okC; rw [← HCC.out]; exact hb0
      have hrd := hide (rd_shape (z := zC) (ok := okC) hTT he.out ho)
      clear hz0
      have hre3 := sbox4 (.int .i64 0) (.int .i64 0) (.int .i64 0) (.slice none 0 0) hrk
      have hBe3 := hBK.grown (gbox4 _ w.heap.size (.int .i64 0) (.int .i64 0) (.int .i64 0) (.slice none 0 0)) hBK.size (fun q hq => by simp at hq; omega)
      obtain ⟨y0, y1, y2, y3⟩ := box4 hre3
      go_wp2_with fail
      refine bodyPost_ret (v := .tuple #[.agg #[.int .i64 0, .int .i64 0, .int .i64 0, .slice none 0 0], .int .i64 30]) (by simp [results, Try.results25, go_sem, y0, y1, y2, y3]) rfl ?_
      rw [hrd.out]
      exact ⟨_, rfl, BlksO.nil _ _, hBe3⟩
  · have hb0 : (ee == 0) = false := by simp [h0]
    have hrd := hide (rd_fault (z := zC) (ok := okC) hTT (by rw [← hee]; exact h0))
    rw [← hee] at hrd
    have hBE := HBe.out
    clear h0 hee
    have g0 : we.frozen? ⟨w.heap.size, 0, none⟩ = false := frozen_of_row _ _ _ _ _ hre
    have g1 : we.frozen? ⟨w.heap.size, 1, none⟩ = false := frozen_of_row _ _ _ _ _ hre
    have g2 : we.frozen? ⟨w.heap.size, 2, none⟩ = false := frozen_of_row _ _ _ _ _ hre
    have g3 : we.frozen? ⟨w.heap.size, 3, none⟩ = false := frozen_of_row _ _ _ _ _ hre
    have hre3 := sbox4 (.int .i64 0) (.int .i64 0) (.int .i64 0) (.slice none 0 0) hre
    have hBe3 := hBE.grown (gbox4 _ w.heap.size (.int .i64 0) (.int .i64 0) (.int .i64 0) (.slice none 0 0)) hBE.size (fun q hq => by simp at hq; omega)
    obtain ⟨y0, y1, y2, y3⟩ := box4 hre3
    go_wp2_with fail
    refine bodyPost_ret (v := .tuple #[.agg #[.int .i64 0, .int .i64 0, .int .i64 0, .slice none 0 0], .int .i64 ee]) (by simp [results, Try.results25, go_sem, y0, y1, y2, y3]) rfl ?_
    rw [hrd.out]
    exact ⟨_, rfl, BlksO.nil _ _, hBe3⟩
end Go.Proofs.Ytbjnhicikkjadaa
namespace Go.Proofs.Ytbjnhicikkjadaa
open Go.RowKit Ir Wire

set_option maxHeartbeats 1000000 in
set_option maxRecDepth 100000 in
theorem awake_posR (w : World) : Calls Try.prog 9 #[] w fun e w' => e = .returned (.bool true) ∧ Below w.heap.size w w' ∧ 0 < w'.heap.size := by
  go_enter Try.func9, Try.ntmps9
  go_wp2_with fail
  have b1 := bel1' w (.cells #[.slice none 0 0, .int .u8 3, .int .i64 0, .int .i64 0, .int .i64 0] 82)
  have n1 := heap_alloc_new w (.cells #[.slice none 0 0, .int .u8 3, .int .i64 0, .int .i64 0, .int .i64 0] 82)
  refine (wfunc_ok funA _ _ ⟨_, rfl, blk_lit1 (e := ⟨3, 0, 0, 0⟩) n1⟩ awF (by intro b hb i hi; simp [funA] at hb; subst hb; simp at hi)).mono ?_
  rintro e W1 ⟨v, rfl, hO, hB⟩
  rw [awB] at hO
  have hc := str6 hO.byt
  have hB1 : Below w.heap.size w W1 := b1.trans (hB.mono (by simp))
  have hpos : 0 < W1.heap.size := by have := hB.size; simp at this; omega
  clear b1 n1 hB hO
  go_wp2_with fail
  go_ret
  exact ⟨rfl, hB1, hpos⟩
theorem fun_sz {F : Fun} (hc : (chk F).1 = 0) (hr : Rgd F.bs) : (0 ≤ F.p ∧ F.p < 4096) ∧ (0 ≤ F.v ∧ F.v < 4096) ∧ (∀ b ∈ F.bs, WfB 32 b) ∧ F.bs.length ≤ 16 := by
  obtain ⟨ha, hb⟩ := chk_all hc
  simp only [sized, decide_eq_true_eq] at ha
  exact ⟨by omega, by omega, fun b h => wfB_of (hb b h) (by omega) (by omega) (hr b h), by omega⟩
theorem cod_sz {F : Cod} (hc : (mchk F).1 = 0) (hr : Rgd F.bs) : (0 ≤ F.p ∧ F.p < 4096) ∧ (0 ≤ F.r ∧ F.r < 4096) ∧ (0 ≤ F.s ∧ F.s < 4096) ∧ (∀ b ∈ F.bs, WfB 400 b) ∧ F.bs.length ≤ 16 := by
  obtain ⟨ha, hb⟩ := mchk_all hc
  simp only [msz, decide_eq_true_eq] at ha
  exact ⟨by omega, by omega, by omega, fun b h => wfMB_of (hb b h) (by omega) (by omega) (by omega) (hr b h), by omega⟩
theorem wfI_args {i : Ins} (h : WfI i) : i.args.length ≤ 1000000000 := by
  have := h.args
  by_cases k6 : i.k = 6
  · rw [if_pos k6] at this
    omega
  · rw [if_neg k6] at this
    rw [this]
    simp
theorem rdF_args {xs : List Int} (hx : Bs xs) : ∀ b ∈ (rd zF funP okF xs).1.bs, ∀ i ∈ b.ins, i.args.length ≤ 1000000000 := by
  unfold rd
  cases h : funP xs with
  | inr c => simp [zF]
  | inl p =>
    obtain ⟨F, r⟩ := p
    have hW : ∀ b ∈ F.bs, WfB 32 b := by
      obtain ⟨p, r1, h1, h2⟩ := bind_inl h
      obtain ⟨rfl, _, _⟩ := belP_inv hx h1
      obtain ⟨v, r2, h3, h4⟩ := bind_inl h2
      obtain ⟨rfl, _, _⟩ := belP_inv hx.right h3
      obtain ⟨bs, r3, h5, h6⟩ := bind_inl h4
      obtain ⟨_, _, hw⟩ := allP_inv hx.right.right h5
      obtain ⟨rfl, rfl⟩ := inl_eq h6
      exact hw
    simp only
    split
    · simp [zF]
    · split
      · exact fun b hb i hi => wfI_args ((hW b hb).2.1 i hi)
      · simp [zF]
theorem rdC_args {xs : List Int} (hx : Bs xs) : ∀ b ∈ (rd zC codP okC xs).1.bs, ∀ i ∈ b.ins, i.args.length ≤ 1000000000 := by
  unfold rd
  cases h : codP xs with
  | inr c => simp [zC]
  | inl p =>
    obtain ⟨F, r⟩ := p
    have hW : ∀ b ∈ F.bs, WfB 400 b := by
      obtain ⟨p, r1, h1, h2⟩ := bind_inl h
      obtain ⟨rfl, _, _⟩ := belP_inv hx h1
      obtain ⟨v, r2, h3, h4⟩ := bind_inl h2
      obtain ⟨rfl, _, _⟩ := belP_inv hx.right h3
      obtain ⟨s, r3, h5, h6⟩ := bind_inl h4
      obtain ⟨rfl, _, _⟩ := belP_inv hx.right.right h5
      obtain ⟨bs, r4, h7, h8⟩ := bind_inl h6
      obtain ⟨_, _, hw⟩ := allP_inv hx.right.right.right h7
      obtain ⟨rfl, rfl⟩ := inl_eq h8
      exact hw
    simp only
    split
    · simp [zC]
    · split
      · exact fun b hb i hi => wfI_args ((hW b hb).2.1 i hi)
      · simp [zC]
end Go.Proofs.Ytbjnhicikkjadaa
namespace Go.Proofs.Ytbjnhicikkjadaa
open Go.RowKit Ir Wire

theorem SpecV.below {w w' : World} {v : Value} {a b c : Int} {bs : List Int} (h : SpecV w v a b c bs) (hB : Below w.heap.size w w') : SpecV w' v a b c bs := by
  obtain ⟨u, h1, h2, h3, h4, h5⟩ := h
  exact ⟨u, h1, h2, h3, h4, h5.below hB⟩
set_option maxHeartbeats 8000000 in
set_option maxRecDepth 100000 in
theorem reads_walk (bv : Value) (xs : List Int) (sp : Value) (sa sb sc : Int) (sbs : List Int) (rg : Int) (mv : Value) (ms : List Int) (av : Value) (ns : List Int) (tv : Value) (ts : List Int) (w : World) (hb : Lb.Byt w bv xs) (hs : SpecV w sp sa sb sc sbs) (hrg : 0 ≤ rg ∧ rg < 256) (hm : Byt w mv ms) (ha : IntsV w av ns) (ht : Lb.Byt w tv ts) :
    Calls Try.prog 5 #[bv, sp, .int .u8 rg, mv, av, tv] w fun r w' => r = .returned (.bool true) ∧ Below w.heap.size w w' := by
  have hs' := hs
  obtain ⟨us, rfl, hs1, hs2, hs3, hs4⟩ := hs'
  obtain ⟨ax, cx, rfl⟩ := hs4.slice
  obtain ⟨am, cm, rfl⟩ := hm.slice
  obtain ⟨ba, bn, bc, rfl⟩ := bysnd _ _ _ hb
  obtain ⟨na, nc, rfl⟩ := ha.slice
  obtain ⟨ta, tn, tc, rfl⟩ := bysnd _ _ _ ht
  have Hbn := hide (byt_cell hb).1
  have hB0 := bel1' w (.cells #[.int .u8 sa, .int .u8 sb, .int .u8 sc, .slice ax sbs.length cx] 27)
  have HS := hide (hs.below hB0)
  have HM := hide (hm.below hB0)
  have HBb := hide (hb.below hB0)
  have HA := hide (ha.below hB0)
  have HT := hide (ht.below hB0)
  have HB0 := hide hB0
  have HRg := hide hrg
  obtain ⟨i0, hi, hz0, hz1, hz2⟩ := info_parts Lb.info5
  have HI := hide (And.intro hi (And.intro hz0 (And.intro hz1 hz2)))
  clear hs hb ha ht hm hs1 hs2 hs3 hs4 hB0 hrg hi hz0 hz1 hz2
  go_enter Try.func5, Try.ntmps5
  go_wp2_with fail
  refine (awake_posR _).mono ?_
  rintro r w1 ⟨rfl, hB1, hpos⟩
  have HX1 := hide (box_b hB1)
  have HS := hide (HS.out.below hB1)
  have HM := hide (HM.out.below hB1)
  have HBb := hide (HBb.out.below hB1)
  have HA := hide (HA.out.below hB1)
  have HT := hide (HT.out.below hB1)
  have HB1 := hide (HB0.out.trans (hB1.mono (by simp)))
  have Hpos := hide hpos
  clear hB1 HB0 hpos
  obtain ⟨s0, s1, s2, s3⟩ := box4' HX1.out
  by_cases h3 : 3000 < bn
  · have g3 : (3000 : Int) < (bn : Int) := by omega
    go_wp2_with fail
    go_ret
    exact ⟨rfl, HB1.out⟩
  · have g3 : ¬ (3000 : Int) < (bn : Int) := by omega
    have Hbl : Hid (xs.length ≤ 3000) := by show _ ≤ _; have := Hbn.out; omega
    have hMd := hide (made_any _ sa sb sc sbs w1 HS.out)
    have hright := hide (made_right sa sb sc sbs)
    have hrgd := hide (made_rgd sa sb sc sbs)
    generalize hMM : made sa sb sc sbs = M at hMd hright hrgd
    clear hMM h3
    go_wp2_with fail
    refine hMd.out.mono ?_
    rintro r w2 ⟨um, rfl, hO, hB2⟩
    obtain ⟨ma, mc, rfl⟩ := hO.v.slice
    have hck : (chk M).1 = 0 := by rw [hright.out]
    obtain ⟨q1, q2, q3, q4⟩ := fun_sz hck hrgd.out
    have hW := hide (funcBytes_any M (.agg #[.int .i64 M.p, .int .i64 M.v, .slice ma M.bs.length mc]) w2 ⟨_, rfl, hO.v⟩ q1 q2 q3 q4)
    have Hmx := hide (funB_most hck hrgd.out)
    have HX2 := hide ((hB2.block _ (row_lt HX1.out)).trans HX1.out)
    have HS := hide (HS.out.below hB2)
    have HM := hide (HM.out.below hB2)
    have HBb := hide (HBb.out.below hB2)
    have HA := hide (HA.out.below hB2)
    have HT := hide (HT.out.below hB2)
    have HB2 := hide (bel_of HB1.out hB2)
    clear hO hB2 hMd HB1 s0 s1 s2 s3 HX1 hck g3 q1 q2 q3 q4 hright hrgd
    go_wp2_with fail
    refine hW.out.mono ?_
    rintro r w3 ⟨xv, rfl, hX, hB3⟩
    obtain ⟨xa, xn, xc, rfl⟩ := bysnd _ _ _ hX
    have HX := hide hX
    have HX3 := hide ((hB3.block _ (row_lt HX2.out)).trans HX2.out)
    have HS := hide (HS.out.below hB3)
    have HM := hide (HM.out.below hB3)
    have HBb := hide (HBb.out.below hB3)
    have HA := hide (HA.out.below hB3)
    have HT := hide (HT.out.below hB3)
    have HB3 := hide (bel_of HB2.out hB3)
    have hMd := hide (made5_any _ sa sb sc sbs rg 3 _ ms w3 HS.out HRg.out (by omega) HM.out)
    generalize funB M = xb at *
    obtain ⟨s0, s1, s2, s3⟩ := box4' HX3.out
    clear hX hB3 hW HB2 HX2
    go_wp2_with fail
    refine hMd.out.mono ?_
    rintro r w4 ⟨C, uc, rfl, hO, hckC, _, hrC, _, hB4⟩
    obtain ⟨ca, cc, rfl⟩ := hO.v.slice
    have hck : (mchk C).1 = 0 := by rw [hckC]
    obtain ⟨q1, q2, q5, q3, q4⟩ := cod_sz hck hrC
    have hW := hide (codeBytes_any C (.agg #[.int .i64 C.p, .int .i64 C.r, .int .i64 C.s, .slice ca C.bs.length cc]) w4 ⟨_, rfl, hO.v⟩ q1 q2 q5 q3 q4)
    have Hmy := hide (codB_most hck hrC)
    have HX := hide (HX.out.below hB4)
    have HBb := hide (HBb.out.below hB4)
    have HA := hide (HA.out.below hB4)
    have HT := hide (HT.out.below hB4)
    have HB4 := hide (bel_of HB3.out hB4)
    clear hO hB4 hMd HB3 s0 s1 s2 s3 HX3 hck hckC hrC q1 q2 q3 q4 q5 HS HM HRg
    go_wp2_with fail
    refine hW.out.mono ?_
    rintro r w5 ⟨yv, rfl, hY, hB5⟩
    obtain ⟨ya, yn, yc, rfl⟩ := bysnd _ _ _ hY
    have HY := hide hY
    have HX := hide (HX.out.below hB5)
    have HBb := hide (HBb.out.below hB5)
    have HA := hide (HA.out.below hB5)
    have HT := hide (HT.out.below hB5)
    have HB5 := hide (bel_of HB4.out hB5)
    generalize codB C = yb at *
    have hTu := hide (turned_any _ _ _ _ ns ts w5 HX.out HA.out HT.out (by have := Hmx.out; omega))
    clear hY hB5 hW HB4
    go_wp2_with fail
    refine hTu.out.mono ?_
    rintro r w6 ⟨zv, zs1, rfl, hZ, hzl, hB6⟩
    obtain ⟨z1a, z1n, z1c, rfl⟩ := bysnd _ _ _ hZ
    have HZ1 := hide hZ
    have Hl1 := hide hzl
    have HX := hide (HX.out.below hB6)
    have HY := hide (HY.out.below hB6)
    have HBb := hide (HBb.out.below hB6)
    have HA := hide (HA.out.below hB6)
    have HT := hide (HT.out.below hB6)
    have HB6 := hide (bel_of HB5.out hB6)
    have hTu := hide (turned_any _ _ _ _ ns ts w6 HY.out HA.out HT.out (by have := Hmy.out; omega))
    clear hZ hzl hB6 HB5
    go_wp2_with fail
    refine hTu.out.mono ?_
    rintro r w7 ⟨zv, zs2, rfl, hZ, hzl, hB7⟩
    obtain ⟨z2a, z2n, z2c, rfl⟩ := bysnd _ _ _ hZ
    have HZ2 := hide hZ
    have Hl2 := hide hzl
    have HX := hide (HX.out.below hB7)
    have HY := hide (HY.out.below hB7)
    have HBb := hide (HBb.out.below hB7)
    have HZ1 := hide (HZ1.out.below hB7)
    have HB7 := hide (bel_of HB6.out hB7)
    clear hZ hzl hB7 HB6 hTu HA HT
    have hE := Lb.owns_empty w7 w7.heap.size (Nat.le_refl _)
    have hBE := (Below.refl w7.heap.size w7).alloc (Nat.le_refl _) (.cells #[] 5)
    have hXE := HX.out.below hBE
    obtain ⟨hi, hz0, hz1, hz2⟩ := HI.out
    have hlx : xb.length ≤ 700000 := Hmx.out
    go_wp2_with (at_builtin; go_must (refine Lb.wpList_append_byt _ rfl (.tmp 49) (.tmp 50) 25 rfl w7.heap.size i0 Try.underlying25 hi hz0 hz1 hz2 _ _ _ rfl hE _ xb rfl hXE (by omega) (by simp) ?_))
    intro v8 w8 hown hg8
    have hB8 : Below w7.heap.size w7 w8 := hBE.grown hg8 (by simp) (fun k hk => (hE.lt k hk).1)
    have hown8 := owns_cast hown (m := xb.length) (ys := xb.map (Value.int .u8)) (by simp) (by simp)
    obtain ⟨a8, n8, c8, rfl⟩ := owns_slice hown8
    have hb8 := HBb.out.below hB8
    have hsz8 := hB8.size
    have hlb : xs.length ≤ 3000 := Hbl.out
    clear hE hBE hXE hown hg8
    go_wp2_with (at_builtin; go_must (refine Lb.wpList_append_byt _ rfl (.tmp 51) (.tmp 52) 25 rfl w7.heap.size i0 Try.underlying25 hi hz0 hz1 hz2 _ _ _ rfl hown8 _ xs rfl hb8 (by omega) hsz8 ?_))
    intro v9 w9 hown hg9
    have hB9 : Below w7.heap.size w7 w9 := hB8.grown hg9 hsz8 (fun k hk => (hown8.lt k hk).1)
    have hZ3 : Lb.Byt w9 v9 (xb ++ xs) := Lb.Byt.of_owns (owns_cast hown (m := (xb ++ xs).length) (ys := (xb ++ xs).map (Value.int .u8)) (by simp) (by simp)) (by
      intro x hx
      rcases List.mem_append.1 hx with h | h
      · obtain ⟨_, h1, _⟩ := HX.out
        exact h1 x h
      · obtain ⟨_, h1, _⟩ := HBb.out
        exact h1 x h)
    obtain ⟨z3a, z3n, z3c, rfl⟩ := bysnd _ _ _ hZ3
    have hBx := bel1' w9 (.cells #[.slice ba bn bc, .slice xa xn xc, .slice ya yn yc, .slice z1a z1n z1c, .slice z2a z2n z2c, .slice z3a z3n z3c] 25)
    have hrow := heap_alloc_new w9 (.cells #[.slice ba bn bc, .slice xa xn xc, .slice ya yn yc, .slice z1a z1n z1c, .slice z2a z2n z2c, .slice z3a z3n z3c] 25)
    have HXX : Hid (∀ j, j < 6 → ∃ (za : Option Addr) (zn zc : Nat) (zs : List Int), (w9.alloc (.cells #[.slice ba bn bc, .slice xa xn xc, .slice ya yn yc, .slice z1a z1n z1c, .slice z2a z2n z2c, .slice z3a z3n z3c] 25)).cell? ⟨w9.heap.size, j, none⟩ = some (.slice za zn zc) ∧ Lb.Byt (w9.alloc (.cells #[.slice ba bn bc, .slice xa xn xc, .slice ya yn yc, .slice z1a z1n z1c, .slice z2a z2n z2c, .slice z3a z3n z3c] 25)) (.slice za zn zc) zs ∧ zs.length ≤ 1000000000) := by
      have l1 := Hl1.out
      have l2 := Hl2.out
      have l3 : yb.length ≤ 700000 := Hmy.out
      intro j hj
      match j, hj with
      | 0, _ => exact ⟨ba, bn, bc, xs, by rw [cell_of_row _ _ _ _ _ _ hrow]; rfl, (HBb.out.below hB9).below hBx, by omega⟩
      | 1, _ => exact ⟨xa, xn, xc, xb, by rw [cell_of_row _ _ _ _ _ _ hrow]; rfl, (HX.out.below hB9).below hBx, by omega⟩
      | 2, _ => exact ⟨ya, yn, yc, yb, by rw [cell_of_row _ _ _ _ _ _ hrow]; rfl, (HY.out.below hB9).below hBx, by omega⟩
      | 3, _ => exact ⟨z1a, z1n, z1c, zs1, by rw [cell_of_row _ _ _ _ _ _ hrow]; rfl, (HZ1.out.below hB9).below hBx, by omega⟩
      | 4, _ => exact ⟨z2a, z2n, z2c, zs2, by rw [cell_of_row _ _ _ _ _ _ hrow]; rfl, (HZ2.out.below hB9).below hBx, by omega⟩
      | 5, _ => exact ⟨z3a, z3n, z3c, xb ++ xs, by rw [cell_of_row _ _ _ _ _ _ hrow]; rfl, hZ3.below hBx, by rw [List.length_append]; omega⟩
    have HB9 := hide (bel_of HB7.out (bel_of hB9 hBx))
    have Hpos : Hid (0 < (w9.alloc (.cells #[.slice ba bn bc, .slice xa xn xc, .slice ya yn yc, .slice z1a z1n z1c, .slice z2a z2n z2c, .slice z3a z3n z3c] 25)).heap.size) := hide (by simp)
    clear hown hg9 hB8 hB9 hZ3 hBx hrow HB7 hown8 hb8 hsz8 hlb hlx hi hz0 hz1 hz2 HI HX HY HZ1 HZ2 HBb Hl1 Hl2 Hmx Hmy Hbl
    go_upto_region 8 with fail
    generalize (w9.alloc (.cells #[.slice ba bn bc, .slice xa xn xc, .slice ya yn yc, .slice z1a z1n z1c, .slice z2a z2n z2c, .slice z3a z3n z3c] 25)) = wA at *
    generalize w9.heap.size = gA at *
    go_wp2_with fail
    go_loopw [16, 17, 18, 19, 20, 21, 22, 23, 24, 56] (fun _ _ _ _ _ _ _ _ _ iv wr => ∃ j : Nat, j ≤ 6 ∧ iv = .int .i64 j ∧ Below wA.heap.size wA wr) (fun _ _ _ _ _ _ _ _ _ iv _ => 6 - (intOf iv).toNat)
    case atStart => exact ⟨0, by omega, rfl, Below.refl _ _⟩
    case round =>
      rename World => ws
      obtain ⟨j, hj, rfl, hBs⟩ := hrel
      by_cases hlt : j < 6
      · have hlt' : (j : Int) < 6 := by omega
        obtain ⟨za, zn, zc, zs, hcell, hZ, hl⟩ := HXX.out j hlt
        have hcell := cell_below hBs hcell
        have HZ := hide (hZ.below hBs)
        have Hbs : Hid (Bs zs) := by obtain ⟨_, h, _⟩ := hZ; exact h
        have HB := hide hBs
        have hR := hide (readFunc_any (.slice za zn zc) zs ws HZ.out hl)
        have hR2 := hide (fun W (h : Below ws.heap.size ws W) => refReadFunc_any (.slice za zn zc) zs W (HZ.out.below h) (by have h1 := h.size; have h2 := HB.out.size; have h3 := Hpos.out; omega))
        have hR3 := hide (fun W (h : Below ws.heap.size ws W) => readCode_any (.slice za zn zc) zs W (HZ.out.below h) hl)
        have hR4 := hide (fun W (h : Below ws.heap.size ws W) => refReadCode_any (.slice za zn zc) zs W (HZ.out.below h) (by have h1 := h.size; have h2 := HB.out.size; have h3 := Hpos.out; omega))
        have hsm := hide (rdF_args Hbs.out)
        have hsm2 := hide (rdC_args Hbs.out)
        obtain ⟨R, hRe⟩ : ∃ R, R = rd zF funP okF zs := ⟨_, rfl⟩
        rw [← hRe] at hR hR2 hsm
        obtain ⟨D, hDe⟩ : ∃ R, R = rd zC codP okC zs := ⟨_, rfl⟩
        rw [← hDe] at hR3 hR4 hsm2
        clear hRe hDe hZ hl hBs
        obtain ⟨R, c⟩ := R
        obtain ⟨D, d⟩ := D
        simp only at hR hR2 hsm hR3 hR4 hsm2
        have hHB := hide (Below.refl ws.heap.size ws)
        go_wp2_with fail
        refine hR.out.mono ?_
        rintro r wa ⟨u, rfl, hu, hB⟩
        obtain ⟨ua, uc, rfl⟩ := hu.v.slice
        have hBx := bel1' wa (.cells #[.int .i64 R.p, .int .i64 R.v, .slice ua R.bs.length uc] 24)
        have Hrow1 := hide (heap_alloc_new wa (.cells #[.int .i64 R.p, .int .i64 R.v, .slice ua R.bs.length uc] 24))
        have Hu := hide (hu.v.below hBx)
        have hHB := hide (hHB.out.trans ((bel_of hB hBx).mono hHB.out.size))
        have hRb := hide (hR2.out _ hHB.out)
        clear hu hB hBx hR hR2 hcell
        go_wp2_with fail
        generalize (wa.alloc (.cells #[.int .i64 R.p, .int .i64 R.v, .slice ua R.bs.length uc] 24)) = wa1 at *
        generalize wa.heap.size = ga at *
        refine hRb.out.mono ?_
        rintro r wb ⟨u2, rfl, hu2, hB⟩
        obtain ⟨ub, ucb, rfl⟩ := hu2.v.slice
        have hBx := bel1' wb (.cells #[.int .i64 R.p, .int .i64 R.v, .slice ub R.bs.length ucb] 24)
        have hBB := bel_of hB hBx
        obtain ⟨y0, y1, y2⟩ := box3 (heap_alloc_new wb (.cells #[.int .i64 R.p, .int .i64 R.v, .slice ub R.bs.length ucb] 24))
        obtain ⟨x0, x1, x2⟩ := box3 ((hBB.block _ (row_lt Hrow1.out)).trans Hrow1.out)
        have hHB := hide (hHB.out.trans (hBB.mono hHB.out.size))
        have HSm := hide (sameFuncs_any R (.slice ua R.bs.length uc) (.slice ub R.bs.length ucb) (wb.alloc (.cells #[.int .i64 R.p, .int .i64 R.v, .slice ub R.bs.length ucb] 24)) (Hu.out.below hBB) (hu2.v.below hBx) hsm.out)
        have hce : (c == c) = true := by simp
        clear hu2 hB hBx hBB hRb Hu hsm Hrow1
        go_wp2_with fail
        refine HSm.out.mono ?_
        rintro r wc ⟨rfl, hB⟩
        have hHB := hide (hHB.out.trans (hB.mono hHB.out.size))
        have hRc := hide (hR3.out _ hHB.out)
        clear hB HSm y0 y1 y2 x0 x1 x2 hce hR3
        go_wp2_with fail
        refine hRc.out.mono ?_
        rintro r wd ⟨u, rfl, hu, hB⟩
        obtain ⟨va, vc, rfl⟩ := hu.v.slice
        have hBx := bel1' wd (.cells #[.int .i64 D.p, .int .i64 D.r, .int .i64 D.s, .slice va D.bs.length vc] 42)
        have Hrow1 := hide (heap_alloc_new wd (.cells #[.int .i64 D.p, .int .i64 D.r, .int .i64 D.s, .slice va D.bs.length vc] 42))
        have Hu := hide (hu.v.below hBx)
        have hHB := hide (hHB.out.trans ((bel_of hB hBx).mono hHB.out.size))
        have hRd := hide (hR4.out _ hHB.out)
        clear hu hB hBx hRc hR4
        go_wp2_with fail
        generalize (wd.alloc (.cells #[.int .i64 D.p, .int .i64 D.r, .int .i64 D.s, .slice va D.bs.length vc] 42)) = wd1 at *
        generalize wd.heap.size = gd at *
        refine hRd.out.mono ?_
        rintro r we ⟨u2, rfl, hu2, hB⟩
        obtain ⟨vb, vcb, rfl⟩ := hu2.v.slice
        have hBx := bel1' we (.cells #[.int .i64 D.p, .int .i64 D.r, .int .i64 D.s, .slice vb D.bs.length vcb] 42)
        have hBB := bel_of hB hBx
        obtain ⟨y0, y1, y2, y3⟩ := box4' (heap_alloc_new we (.cells #[.int .i64 D.p, .int .i64 D.r, .int .i64 D.s, .slice vb D.bs.length vcb] 42))
        obtain ⟨x0, x1, x2, x3⟩ := box4' ((hBB.block _ (row_lt Hrow1.out)).trans Hrow1.out)
        have hHB := hide (hHB.out.trans (hBB.mono hHB.out.size))
        have HSm := hide (sameCodes_any D (.slice va D.bs.length vc) (.slice vb D.bs.length vcb) (we.alloc (.cells #[.int .i64 D.p, .int .i64 D.r, .int .i64 D.s, .slice vb D.bs.length vcb] 42)) (Hu.out.below hBB) (hu2.v.below hBx) hsm2.out)
        have hde : (d == d) = true := by simp
        clear hu2 hB hBx hBB hRd Hu hsm2 Hrow1
        go_wp2_with fail
        refine HSm.out.mono ?_
        rintro r wf ⟨rfl, hB⟩
        have hHB := hide (hHB.out.trans (hB.mono hHB.out.size))
        have HB := hide (HB.out.trans (hHB.out.mono HB.out.size))
        clear hB HSm y0 y1 y2 y3 x0 x1 x2 x3 hde hHB
        go_wp2_with fail
        go_roundw
        case rel => exact ⟨j + 1, by omega, by first | go_num | (simp; omega), HB.out⟩
        case measure => simp [intOf]; omega
      · obtain rfl : j = 6 := by omega
        go_wp2_with fail
        go_ret
        exact ⟨rfl, HB9.out.trans (hBs.mono HB9.out.size)⟩
end Go.Proofs.Ytbjnhicikkjadaa
