/- WireFuncs, its walk. -/
import Derived.Test.YtbjnhicikkjadaaSr
import Derived.Test.YtbjnhicikkjadaaTurn
import Derived.Test.YtbjnhicikkjadaaMade
import Derived.Test.YtbjnhicikkjadaaRefFunc
import Derived.Test.YtbjnhicikkjadaaOn
namespace Go.Proofs.Ytbjnhicikkjadaa
open Go.RowKit Ir Wire

theorem SpecV.below {w w' : World} {v : Value} {a b c : Int} {bs : List Int} (h : SpecV w v a b c bs) (hB : Below w.heap.size w w') : SpecV w' v a b c bs := by
  obtain ⟨u, h1, h2, h3, h4, h5⟩ := h
  exact ⟨u, h1, h2, h3, h4, h5.below hB⟩
/-- One function of the three, as it lies in the row. -/
def FunIn (W : World) (g j : Nat) (F : Fun) : Prop := ∃ u : Value, W.cell? ⟨g, j * 3, none⟩ = some (.int .i64 F.p) ∧ W.cell? ⟨g, j * 3 + 1, none⟩ = some (.int .i64 F.v) ∧ W.cell? ⟨g, j * 3 + 2, none⟩ = some u ∧ BlksV W u F.bs ∧ Rgd F.bs
theorem FunIn.below {W W' : World} {g j : Nat} {F : Fun} (h : FunIn W g j F) (hB : Below W.heap.size W W') : FunIn W' g j F := by
  obtain ⟨ub, h0, h1, h2, h3, h4⟩ := h
  exact ⟨ub, cell_below hB h0, cell_below hB h1, cell_below hB h2, h3.below hB, h4⟩
theorem fun_size {F : Fun} (hc : (chk F).1 = 0) (hr : Rgd F.bs) : (0 ≤ F.p ∧ F.p < 4096) ∧ (0 ≤ F.v ∧ F.v < 4096) ∧ (∀ b ∈ F.bs, WfB 32 b) ∧ F.bs.length ≤ 16 := by
  obtain ⟨ha, hb⟩ := chk_all hc
  simp only [sized, decide_eq_true_eq] at ha
  exact ⟨by omega, by omega, fun b h => wfB_of (hb b h) (by omega) (by omega) (hr b h), by omega⟩
theorem row9 {w : World} {g : Nat} {a0 a1 a2 a3 a4 a5 a6 a7 a8 : Value} {t : TypeId} (h : w.heap[g]? = some (Obj.cells #[a0, a1, a2, a3, a4, a5, a6, a7, a8] t (0, 0))) : ∀ j v, #[a0, a1, a2, a3, a4, a5, a6, a7, a8][j]? = some v → w.cell? ⟨g, j, none⟩ = some v := by
  intro j v hj
  rw [cell_of_row _ _ _ _ _ _ h]
  exact hj
set_option maxHeartbeats 4000000 in
set_option maxRecDepth 100000 in
theorem funcs_walk (F : Fun) (uf : Option Addr) (cf : Nat) (sp : Value) (sa sb sc : Int) (sbs : List Int) (b k f n : Int) (w : World) (hF0 : BlksV w (.slice uf F.bs.length cf) F.bs) (hFr : Rgd F.bs) (hs : SpecV w sp sa sb sc sbs) (hb : 0 ≤ b ∧ b < 256) (hk : 0 ≤ k ∧ k < 256) (hf : 0 ≤ f ∧ f < 256) (hn : I64 n) :
    Calls Try.prog 3 #[.agg #[.int .i64 F.p, .int .i64 F.v, .slice uf F.bs.length cf], sp, .int .u8 b, .int .u8 k, .int .u8 f, .int .i64 n] w fun r w' => r = .returned (.bool true) ∧ Below w.heap.size w w' := by
  have hs' := hs
  obtain ⟨us, rfl, hs1, hs2, hs3, hs4⟩ := hs'
  obtain ⟨ax, cx, rfl⟩ := hs4.slice
  have HFr := hide hFr
  have Hn := hide hn
  have hBa := bel1 w (.cells #[.int .i64 F.p, .int .i64 F.v, .slice uf F.bs.length cf] 24)
  have hza : (w.alloc (.cells #[.int .i64 F.p, .int .i64 F.v, .slice uf F.bs.length cf] 24)).heap.size = w.heap.size + 1 := by simp
  have hBb := bel1 (w.alloc (.cells #[.int .i64 F.p, .int .i64 F.v, .slice uf F.bs.length cf] 24)) (.cells #[.int .u8 sa, .int .u8 sb, .int .u8 sc, .slice ax sbs.length cx] 27)
  have HBb := hide hBb
  have HZ := hide hza
  have hBab := hide (bel_of hBa hBb)
  have HF0 := hide ((hF0.below hBa).below hBb)
  have HS0 := hide ((hs.below hBa).below hBb)
  clear hF0 hs hBa hBb hza hs1 hs2 hs3 hs4 hFr hn
  go_enter Try.func3, Try.ntmps3
  go_wp2_with fail
  refine (awake_any _).mono ?_
  rintro r w1 ⟨rfl, hB1⟩
  obtain ⟨a0, a1, a2⟩ := boxF (bel_of HBb.out hB1)
  have hsx := boxS hB1
  rw [HZ.out] at hsx
  obtain ⟨s0, s1, s2, s3⟩ := hsx
  have HF1 := hide (HF0.out.below hB1)
  have HS1 := hide (HS0.out.below hB1)
  have hBw1 := hide (bel_of hBab.out hB1)
  have hL := hide (longF_any _ F.bs w1 HF1.out)
  clear hB1 HBb HF0 HS0 hBab HZ
  go_wp2_with fail
  refine hL.out.mono ?_
  rintro r w2 ⟨⟨c, rfl⟩, hB2⟩
  have a0 := cell_below hB2 a0
  have a1 := cell_below hB2 a1
  have a2 := cell_below hB2 a2
  have s0 := cell_below hB2 s0
  have s1 := cell_below hB2 s1
  have s2 := cell_below hB2 s2
  have s3 := cell_below hB2 s3
  have HF2 := hide (HF1.out.below hB2)
  have HS2 := hide (HS1.out.below hB2)
  have hBw2 := hide (bel_of hBw1.out hB2)
  clear hL hB2 HF1 HS1 hBw1
  cases c with
  | true =>
    go_wp2_with fail
    go_ret
    exact ⟨rfl, hBw2.out⟩
  | false =>
    have hMd := hide (made_any _ sa sb sc sbs w2 HS2.out)
    have hright := hide (made_right sa sb sc sbs)
    have hrgd := hide (made_rgd sa sb sc sbs)
    have HMd := hide (fun W (h : SpecV W (.agg #[.int .u8 sa, .int .u8 sb, .int .u8 sc, .slice ax sbs.length cx]) sa sb sc sbs) => made_any _ sa sb sc sbs W h)
    generalize hMM : made sa sb sc sbs = M at hMd hright hrgd HMd
    clear hMM
    have A0 := hide a0
    have A1 := hide a1
    have A2 := hide a2
    have T0 := hide s0
    have T1 := hide s1
    have T2 := hide s2
    have T3' := hide s3
    clear a0 a1 a2
    go_wp2_with fail
    refine hMd.out.mono ?_
    rintro r w3 ⟨um, rfl, hO3, hB3⟩
    have hBx := bel1 w3 (.cells #[.int .i64 M.p, .int .i64 M.v, um] 24)
    obtain ⟨ua, uc, rfl⟩ := hO3.v.slice
    have hB24 := bel_of hB3 hBx
    obtain ⟨y0, y1, y2⟩ := boxF (Below.refl _ (w3.alloc (.cells #[.int .i64 M.p, .int .i64 M.v, .slice ua M.bs.length uc] 24)))
    have HO4 := hide (hO3.below hBx)
    have HG2 : Hid ((w3.alloc (.cells #[.int .i64 M.p, .int .i64 M.v, .slice ua M.bs.length uc] 24)).heap[w3.heap.size]? = some (Obj.cells (rowF M.p M.v (.slice ua M.bs.length uc)) 24 (0, 0))) := hide (heap_alloc_new w3 _)
    have HB24 := hide hB24
    have HT := hide (turn_any w2.heap.size _ M.bs b k f n _ HO4.out hB24.size hb.1 hb.2 hk.1 hk.2 hf.1 Hn.out (right_small hright.out))
    clear hMd hO3 hB3 hBx hB24 s0 s1 s2 s3
    go_wp2_with fail
    generalize (w3.alloc (.cells #[.int .i64 M.p, .int .i64 M.v, .slice ua M.bs.length uc] 24)) = w4 at *
    generalize hgz : w3.heap.size = g2 at y0 y1 y2 HG2 ⊢
    refine HT.out.mono ?_
    rintro r w6 ⟨rfl, hSf, hB6, hK6, -⟩
    obtain ⟨bs', hbl, hO6, hr6⟩ := HO4.out.soft hSf
    have hg6 := hK6 _ _ _ _ rfl HG2.out
    have b0 : w6.cell? ⟨g2, 0, none⟩ = some (.int .i64 M.p) := by rw [cell_of_row _ _ _ _ _ _ hg6]; rfl
    have b1 : w6.cell? ⟨g2, 1, none⟩ = some (.int .i64 M.v) := by rw [cell_of_row _ _ _ _ _ _ hg6]; rfl
    have b2 : w6.cell? ⟨g2, 2, none⟩ = some (.slice ua M.bs.length uc) := by rw [cell_of_row _ _ _ _ _ _ hg6]; rfl
    have hB26 : Below w2.heap.size w2 w6 := HB24.out.trans hB6
    have HS6 := hide (HS2.out.below hB26)
    have HF6 := hide (HF2.out.below hB26)
    have a0 := cell_below hB26 A0.out
    have a1 := cell_below hB26 A1.out
    have a2 := cell_below hB26 A2.out
    have s0 := cell_below hB26 T0.out
    have s1 := cell_below hB26 T1.out
    have s2 := cell_below hB26 T2.out
    have s3 := cell_below hB26 T3'.out
    have hBw6 := hide (bel_of hBw2.out hB26)
    obtain ⟨N, e1, e2, e3⟩ : ∃ N : Fun, N.p = M.p ∧ N.v = M.v ∧ N.bs = bs' := ⟨⟨M.p, M.v, bs'⟩, rfl, rfl, rfl⟩
    rw [← e1] at b0
    rw [← e2] at b1
    rw [← hbl, ← e3] at b2
    have hO6v := hO6.v
    rw [← hbl, ← e3] at hO6v
    have HN6 := hide (And.intro hO6v (show Rgd N.bs by rw [e3]; exact hr6 hrgd.out))
    have HM7 := hide (HMd.out w6.drew (HS6.out.below (Below.refl _ _).drew))
    clear y0 y1 y2 hSf hB6 hK6 hO6 hr6 hg6 hB26 e1 e2 e3 hbl hO6v HT HO4 HG2 HB24 A0 A1 A2 T0 T1 T2 T3' HS2 HF2 hBw2 hgz HMd
    generalize M.bs.length = ml at *
    go_wp2_with fail
    generalize hgz1 : w.heap.size = g1 at a0 a1 a2 s0 s1 s2 s3 ⊢
    go_region_held3 (fun w' => w'.cell? ⟨g1, 0, none⟩ = some (.int .i64 F.p) ∧ w'.cell? ⟨g1, 1, none⟩ = some (.int .i64 F.v) ∧ w'.cell? ⟨g1, 2, none⟩ = some (.slice uf F.bs.length cf) ∧ w'.cell? ⟨g2, 0, none⟩ = some (.int .i64 N.p) ∧ w'.cell? ⟨g2, 1, none⟩ = some (.int .i64 N.v) ∧ w'.cell? ⟨g2, 2, none⟩ = some (.slice ua N.bs.length uc)
        ∧ w'.cell? ⟨g1 + 1, 0, none⟩ = some (.int .u8 sa) ∧ w'.cell? ⟨g1 + 1, 1, none⟩ = some (.int .u8 sb) ∧ w'.cell? ⟨g1 + 1, 2, none⟩ = some (.int .u8 sc) ∧ w'.cell? ⟨g1 + 1, 3, none⟩ = some (.slice ax sbs.length cx)) (first | with_reducible assumption | go_keep)
      (first
        | (go_at_call 11; refine HM7.out.mono ?_; rintro e w7 ⟨u7, rfl, hO7, hB7⟩; obtain ⟨a7, n7, k7, hu7⟩ : ∃ a7 n7 k7, u7 = .slice a7 n7 k7 := (by obtain ⟨x, y, h⟩ := hO7.v.slice; exact ⟨x, _, y, h⟩); subst hu7; have hB7' : Below w6.heap.size w6 w7 := (Below.refl _ _).drew.trans hB7; have hS7 := And.intro (cell_below hB7' a0) (And.intro (cell_below hB7' a1) (And.intro (cell_below hB7' a2) (And.intro (cell_below hB7' b0) (And.intro (cell_below hB7' b1) (And.intro (cell_below hB7' b2) (And.intro (cell_below hB7' s0) (And.intro (cell_below hB7' s1) (And.intro (cell_below hB7' s2) (cell_below hB7' s3)))))))))))
    have hB8 := bel1' w7 (.cells #[.int .i64 F.p, .int .i64 F.v, .slice uf F.bs.length cf, .int .i64 N.p, .int .i64 N.v, .slice ua N.bs.length uc, .int .i64 M.p, .int .i64 M.v, .slice a7 n7 k7] 24)
    have hrow := row9 (heap_alloc_new w7 (.cells #[.int .i64 F.p, .int .i64 F.v, .slice uf F.bs.length cf, .int .i64 N.p, .int .i64 N.v, .slice ua N.bs.length uc, .int .i64 M.p, .int .i64 M.v, .slice a7 n7 k7] 24))
    have HX : Hid (∀ j, j < 3 → ∃ X : Fun, FunIn (w7.alloc (.cells #[.int .i64 F.p, .int .i64 F.v, .slice uf F.bs.length cf, .int .i64 N.p, .int .i64 N.v, .slice ua N.bs.length uc, .int .i64 M.p, .int .i64 M.v, .slice a7 n7 k7] 24)) w7.heap.size j X) := by
      intro j hj
      match j, hj with
      | 0, _ => exact ⟨F, _, hrow 0 _ rfl, hrow 1 _ rfl, hrow 2 _ rfl, (HF6.out.below hB7').below hB8, HFr.out⟩
      | 1, _ => exact ⟨N, _, hrow 3 _ rfl, hrow 4 _ rfl, hrow 5 _ rfl, (HN6.out.1.below hB7').below hB8, HN6.out.2⟩
      | 2, _ => exact ⟨M, _, hrow 6 _ rfl, hrow 7 _ rfl, hrow 8 _ rfl, hO7.v.below hB8, hrgd.out⟩
    have HB8 := hide (bel_of hBw6.out (bel_of hB7' hB8))
    clear hB8 hrow hS7 hB7 hB7' hO7 HM7 HN6 HF6 HS6 hBw6 hright hrgd a0 a1 a2 b0 b1 b2 s0 s1 s2 s3
    go_wp2_with fail
    generalize (w7.alloc (.cells #[.int .i64 F.p, .int .i64 F.v, .slice uf F.bs.length cf, .int .i64 N.p, .int .i64 N.v, .slice ua N.bs.length uc, .int .i64 M.p, .int .i64 M.v, .slice a7 n7 k7] 24)) = w8 at *
    generalize w7.heap.size = g8 at *
    go_loopw [16, 17, 38] (fun rv ev iv wr => ∃ j : Nat, j ≤ 3 ∧ iv = .int .i64 j ∧ Below w8.heap.size w8 wr) (fun _ _ iv _ => 3 - (intOf iv).toNat)
    case atStart => exact ⟨0, by omega, rfl, Below.refl _ _⟩
    case round =>
      rename World => ws
      obtain ⟨j, hj, rfl, hBs⟩ := hrel
      by_cases hlt : j < 3
      · have hlt' : (j : Int) < 3 := by omega
        obtain ⟨X, hXI⟩ := HX.out j hlt
        obtain ⟨u, c0, c1, c2, hu, hr⟩ := hXI.below hBs
        obtain ⟨ub, cb, rfl⟩ := hu.slice
        have HR := hide hr
        have HU := hide hu
        have HBs := hide hBs
        have HBN := fun W (h : Below ws.heap.size ws W) => (hBs.trans (h.mono hBs.size) : Below w8.heap.size w8 W)
        have HBN := hide HBN
        have hBy := bel1' ws (.cells #[.int .i64 X.p, .int .i64 X.v, .slice ub X.bs.length cb] 24)
        have HBy := hide hBy
        have HUy := hide (hu.below hBy)
        clear hXI hu hr hBs hBy
        by_cases hc : (chk X).1 = 0
        · have hW := hide (wfunc_ok X _ _ ⟨_, rfl, HUy.out⟩ hc HR.out)
          have HC := hide hc
          clear hc
          go_wp2_with fail
          refine hW.out.mono ?_
          rintro r wa ⟨va, rfl, hOa, hBa⟩
          have HRa := hide (refFunc_any X (.agg #[.int .i64 X.p, .int .i64 X.v, .slice ub X.bs.length cb]) wa ⟨_, rfl, HUy.out.below hBa⟩)
          obtain ⟨c0, c1, c2⟩ := box3 (box_b hBa)
          have hcf : Hid ((faultV (chk X)) = .agg #[.int .i64 0, .int .i64 (chk X).2.1, .int .i64 (chk X).2.2]) := by show _ = _; unfold faultV; rw [HC.out]
          have HBa := hide (HBy.out.trans (hBa.mono (by simp)))
          have HUa := hide (HUy.out.below hBa)
          obtain ⟨aa, na, ka, rfl⟩ := bysnd _ _ _ hOa.byt
          have HOa := hide hOa.byt
          have HY := hide (box_b hBa)
          generalize hgy : ws.heap.size = gy at c0 c1 c2 HY ⊢
          clear hBa hW HUy HBy hOa hgy
          go_wp2_with fail
          refine HRa.out.mono ?_
          rintro r wb ⟨rfl, hBb⟩
          rw [hcf.out]
          have hf := run_field37 (.int .i64 0) (.int .i64 (chk X).2.1) (.int .i64 (chk X).2.2)
          have HBb := hide (HBa.out.trans (hBb.mono HBa.out.size))
          have HUb := hide (HUa.out.below hBb)
          have HOb := hide (HOa.out.below hBb)
          have hry := (hBb.block _ (Array.getElem?_eq_some_iff.1 HY.out).1).trans HY.out
          obtain ⟨z1, z2, z3, z4⟩ := fun_size HC.out HR.out
          have HG := hide (fun W (h : Below wb.heap.size wb W) => funcBytes_any X (.agg #[.int .i64 X.p, .int .i64 X.v, .slice ub X.bs.length cb]) W ⟨_, rfl, HUb.out.below h⟩ z1 z2 z3 z4)
          generalize funB X = ys at *
          clear hBb HRa hcf HUa HOa HBa z1 z2 z3 z4 HY
          have Hry := hide hry
          clear hry
          go_wp2_with fail
          refine sf_ok (gy := gy) (ys := ys) (X := X) (ub := .slice ub X.bs.length cb) rfl rfl rfl rfl Hry.out HOb.out HG.out ?_
          intro s14 wc hs67 hBc
          simp [overlay, dstsOf, ops_sf_ok, hs67]
          have HBc := hide (HBb.out.trans (hBc.mono HBb.out.size))
          clear hBc hs67
          go_wp2_with fail
          go_roundw
          case rel => exact ⟨j + 1, by omega, by first | go_num | (simp; omega), HBN.out _ HBc.out⟩
          case measure => simp [intOf]; omega
        · have hW := hide (wfunc_bad X _ _ ⟨_, rfl, HUy.out⟩ hc)
          have HC := hide hc
          clear hc
          go_wp2_with fail
          refine hW.out.mono ?_
          rintro r wa ⟨rfl, hBa⟩
          have HRa := hide (refFunc_any X (.agg #[.int .i64 X.p, .int .i64 X.v, .slice ub X.bs.length cb]) wa ⟨_, rfl, HUy.out.below hBa⟩)
          obtain ⟨c0, c1, c2⟩ := box3 (box_b hBa)
          have hcf : Hid ((faultV (chk X)) = .agg #[.int .i64 (chk X).1, .int .i64 (chk X).2.1, .int .i64 (chk X).2.2]) := rfl
          have HBa := hide (HBy.out.trans (hBa.mono (by simp)))
          clear hBa hW HUy HBy
          go_wp2_with fail
          refine HRa.out.mono ?_
          rintro r wb ⟨rfl, hBb⟩
          rw [hcf.out]
          have hb : ((chk X).1 == 0) = false := by simp [HC.out]
          have hf := run_field37 (.int .i64 (chk X).1) (.int .i64 (chk X).2.1) (.int .i64 (chk X).2.2)
          have HBb := hide (HBa.out.trans (hBb.mono HBa.out.size))
          generalize (chk X).1 = e0 at *
          clear hBb HRa hcf
          go_wp2_with fail
          go_roundw
          case rel => exact ⟨j + 1, by omega, by first | go_num | (simp; omega), HBN.out _ HBb.out⟩
          case measure => simp [intOf]; omega
      · obtain rfl : j = 3 := by omega
        go_wp2_with fail
        go_ret
        exact ⟨rfl, HB8.out.trans (hBs.mono HB8.out.size)⟩
end Go.Proofs.Ytbjnhicikkjadaa
