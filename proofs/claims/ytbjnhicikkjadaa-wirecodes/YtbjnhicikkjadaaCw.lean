/- WireCodes, its walk. -/
import Derived.Test.YtbjnhicikkjadaaSr
import Derived.Test.YtbjnhicikkjadaaTurn
import Derived.Test.YtbjnhicikkjadaaMd5
import Derived.Test.YtbjnhicikkjadaaRCode
import Derived.Test.YtbjnhicikkjadaaOn
namespace Go.Proofs.Ytbjnhicikkjadaa
open Go.RowKit Ir Wire

theorem SpecV.below {w w' : World} {v : Value} {a b c : Int} {bs : List Int} (h : SpecV w v a b c bs) (hB : Below w.heap.size w w') : SpecV w' v a b c bs := by
  obtain ⟨u, h1, h2, h3, h4, h5⟩ := h
  exact ⟨u, h1, h2, h3, h4, h5.below hB⟩
/-- One code of the three, as it lies in the row. -/
def CodIn (W : World) (g j : Nat) (F : Cod) : Prop := ∃ u : Value, W.cell? ⟨g, j * 4, none⟩ = some (.int .i64 F.p) ∧ W.cell? ⟨g, j * 4 + 1, none⟩ = some (.int .i64 F.r) ∧ W.cell? ⟨g, j * 4 + 2, none⟩ = some (.int .i64 F.s) ∧ W.cell? ⟨g, j * 4 + 3, none⟩ = some u ∧ BlksV W u F.bs ∧ Rgd F.bs
theorem CodIn.below {W W' : World} {g j : Nat} {F : Cod} (h : CodIn W g j F) (hB : Below W.heap.size W W') : CodIn W' g j F := by
  obtain ⟨ub, h0, h1, h2, h3, h4, h5⟩ := h
  exact ⟨ub, cell_below hB h0, cell_below hB h1, cell_below hB h2, cell_below hB h3, h4.below hB, h5⟩
theorem cod_size {F : Cod} (hc : (mchk F).1 = 0) (hr : Rgd F.bs) : (0 ≤ F.p ∧ F.p < 4096) ∧ (0 ≤ F.r ∧ F.r < 4096) ∧ (0 ≤ F.s ∧ F.s < 4096) ∧ (∀ b ∈ F.bs, WfB 400 b) ∧ F.bs.length ≤ 16 := by
  obtain ⟨ha, hb⟩ := mchk_all hc
  simp only [msz, decide_eq_true_eq] at ha
  exact ⟨by omega, by omega, by omega, fun b h => wfMB_of (hb b h) (by omega) (by omega) (by omega) (hr b h), by omega⟩
theorem mF_args {i : Ins} {r s : Int} (h : mF i r s = 0) : i.args.length ≤ 3 := by
  unfold mF at h
  by_cases k7 : i.k = 7
  · rw [if_pos k7] at h
    have := (slF_all h).1.2.2.2
    omega
  · rw [if_neg k7] at h
    by_cases k8 : i.k = 8
    · rw [if_pos k8] at h
      have := (slF_all h).1.2.2.2
      omega
    · rw [if_neg k8] at h
      exact (inF_all (ofR_zero.1 h)).2.1
theorem code_small {D : Cod} (h : mchk D = (0, 0, 0)) : ∀ x ∈ D.bs, x.ins.length < 100000 ∧ ∀ i ∈ x.ins, i.args.length ≤ 1000000 := by
  intro x hx
  obtain ⟨_, h2⟩ := mchk_all (C := D) (by rw [h])
  obtain ⟨h3, h4, _⟩ := mbF_all (h2 x hx)
  exact ⟨by omega, fun i hi => by have := mF_args (h4 i hi); omega⟩
theorem row12 {w : World} {g : Nat} {a0 a1 a2 a3 a4 a5 a6 a7 a8 a9 a10 a11 : Value} {t : TypeId} (h : w.heap[g]? = some (Obj.cells #[a0, a1, a2, a3, a4, a5, a6, a7, a8, a9, a10, a11] t (0, 0))) : ∀ j v, #[a0, a1, a2, a3, a4, a5, a6, a7, a8, a9, a10, a11][j]? = some v → w.cell? ⟨g, j, none⟩ = some v := by
  intro j v hj
  rw [cell_of_row _ _ _ _ _ _ h]
  exact hj
set_option maxHeartbeats 4000000 in
set_option maxRecDepth 100000 in
theorem codes_walk (F : Cod) (uf : Option Addr) (cf : Nat) (sp : Value) (sa sb sc : Int) (sbs : List Int) (mv : Value) (ms : List Int) (b k f n : Int) (w : World) (hF0 : BlksV w (.slice uf F.bs.length cf) F.bs) (hFr : Rgd F.bs) (hs : SpecV w sp sa sb sc sbs) (hm : Byt w mv ms) (hb : 0 ≤ b ∧ b < 256) (hk : 0 ≤ k ∧ k < 256) (hf : 0 ≤ f ∧ f < 256) (hn : I64 n) :
    Calls Try.prog 4 #[.agg #[.int .i64 F.p, .int .i64 F.r, .int .i64 F.s, .slice uf F.bs.length cf], sp, mv, .int .u8 b, .int .u8 k, .int .u8 f, .int .i64 n] w fun r w' => r = .returned (.bool true) ∧ Below w.heap.size w w' := by
  have hs' := hs
  obtain ⟨us, rfl, hs1, hs2, hs3, hs4⟩ := hs'
  obtain ⟨ax, cx, rfl⟩ := hs4.slice
  obtain ⟨am, cm, rfl⟩ := hm.slice
  have HFr := hide hFr
  have Hn := hide hn
  have hBa := bel1 w (.cells #[.int .i64 F.p, .int .i64 F.r, .int .i64 F.s, .slice uf F.bs.length cf] 42)
  have hza : (w.alloc (.cells #[.int .i64 F.p, .int .i64 F.r, .int .i64 F.s, .slice uf F.bs.length cf] 42)).heap.size = w.heap.size + 1 := by simp
  have hBb := bel1 (w.alloc (.cells #[.int .i64 F.p, .int .i64 F.r, .int .i64 F.s, .slice uf F.bs.length cf] 42)) (.cells #[.int .u8 sa, .int .u8 sb, .int .u8 sc, .slice ax sbs.length cx] 27)
  have HBb := hide hBb
  have HZ := hide hza
  have hBab := hide (bel_of hBa hBb)
  have HF0 := hide ((hF0.below hBa).below hBb)
  have HS0 := hide ((hs.below hBa).below hBb)
  have HM0 := hide ((hm.below hBa).below hBb)
  clear hF0 hs hm hBa hBb hza hs1 hs2 hs3 hs4 hFr hn
  go_enter Try.func4, Try.ntmps4
  go_wp2_with fail
  refine (awake_any _).mono ?_
  rintro r w1 ⟨rfl, hB1⟩
  obtain ⟨a0, a1, a2, a3⟩ := box4 (box_b (bel_of HBb.out hB1))
  have hsx := boxS hB1
  rw [HZ.out] at hsx
  obtain ⟨s0, s1, s2, s3⟩ := hsx
  have HF1 := hide (HF0.out.below hB1)
  have HS1 := hide (HS0.out.below hB1)
  have HM1 := hide (HM0.out.below hB1)
  have hBw1 := hide (bel_of hBab.out hB1)
  have hL := hide (long_any _ F.bs w1 HF1.out)
  clear hB1 HBb HF0 HS0 HM0 hBab HZ
  go_wp2_with fail
  refine hL.out.mono ?_
  rintro r w2 ⟨⟨c, rfl⟩, hB2⟩
  have a0 := cell_below hB2 a0
  have a1 := cell_below hB2 a1
  have a2 := cell_below hB2 a2
  have a3 := cell_below hB2 a3
  have s0 := cell_below hB2 s0
  have s1 := cell_below hB2 s1
  have s2 := cell_below hB2 s2
  have s3 := cell_below hB2 s3
  have HF2 := hide (HF1.out.below hB2)
  have HS2 := hide (HS1.out.below hB2)
  have HM2 := hide (HM1.out.below hB2)
  have hBw2 := hide (bel_of hBw1.out hB2)
  clear hL hB2 HF1 HS1 HM1 hBw1
  cases c with
  | true =>
    go_wp2_with fail
    go_ret
    exact ⟨rfl, hBw2.out⟩
  | false =>
    have hMd := hide (made5_any _ sa sb sc sbs b k _ ms w2 HS2.out hb hk HM2.out)
    have HMd := hide (fun W (h : SpecV W (.agg #[.int .u8 sa, .int .u8 sb, .int .u8 sc, .slice ax sbs.length cx]) sa sb sc sbs) (h2 : Byt W (.slice am ms.length cm) ms) => made5_any _ sa sb sc sbs b k _ ms W h hb hk h2)
    have A0 := hide a0
    have A1 := hide a1
    have A2 := hide a2
    have A3 := hide a3
    have T0 := hide s0
    have T1 := hide s1
    have T2 := hide s2
    have T3' := hide s3
    clear a0 a1 a2 a3
    go_wp2_with fail
    refine hMd.out.mono ?_
    rintro r w3 ⟨M, um, rfl, hO3, hck, hsm, hrg, -, hB3⟩
    have hright := hide hck
    have hrgd := hide hrg
    clear hck hrg hsm
    have hBx := bel1 w3 (.cells #[.int .i64 M.p, .int .i64 M.r, .int .i64 M.s, um] 42)
    obtain ⟨ua, uc, rfl⟩ := hO3.v.slice
    have hB24 := bel_of hB3 hBx
    obtain ⟨y0, y1, y2, y3⟩ := box4 (box_b (Below.refl _ (w3.alloc (.cells #[.int .i64 M.p, .int .i64 M.r, .int .i64 M.s, .slice ua M.bs.length uc] 42))))
    have HO4 := hide (hO3.below hBx)
    have HG2 : Hid ((w3.alloc (.cells #[.int .i64 M.p, .int .i64 M.r, .int .i64 M.s, .slice ua M.bs.length uc] 42)).heap[w3.heap.size]? = some (Obj.cells #[.int .i64 M.p, .int .i64 M.r, .int .i64 M.s, .slice ua M.bs.length uc] 42 (0, 0))) := hide (heap_alloc_new w3 _)
    have HB24 := hide hB24
    have HT := hide (turn_any w2.heap.size _ M.bs b k f n _ HO4.out hB24.size hb.1 hb.2 hk.1 hk.2 hf.1 Hn.out (code_small hright.out))
    clear hMd hO3 hB3 hBx hB24 s0 s1 s2 s3
    go_wp2_with fail
    generalize (w3.alloc (.cells #[.int .i64 M.p, .int .i64 M.r, .int .i64 M.s, .slice ua M.bs.length uc] 42)) = w4 at *
    generalize hgz : w3.heap.size = g2 at y0 y1 y2 y3 HG2 ⊢
    refine HT.out.mono ?_
    rintro r w6 ⟨rfl, hSf, hB6, hK6, -⟩
    obtain ⟨bs', hbl, hO6, hr6⟩ := HO4.out.soft hSf
    have hg6 := hK6 _ _ _ _ rfl HG2.out
    have b0 : w6.cell? ⟨g2, 0, none⟩ = some (.int .i64 M.p) := by rw [cell_of_row _ _ _ _ _ _ hg6]; rfl
    have b1 : w6.cell? ⟨g2, 1, none⟩ = some (.int .i64 M.r) := by rw [cell_of_row _ _ _ _ _ _ hg6]; rfl
    have b2 : w6.cell? ⟨g2, 2, none⟩ = some (.int .i64 M.s) := by rw [cell_of_row _ _ _ _ _ _ hg6]; rfl
    have b3 : w6.cell? ⟨g2, 3, none⟩ = some (.slice ua M.bs.length uc) := by rw [cell_of_row _ _ _ _ _ _ hg6]; rfl
    have hB26 : Below w2.heap.size w2 w6 := HB24.out.trans hB6
    have HS6 := hide (HS2.out.below hB26)
    have HM6 := hide (HM2.out.below hB26)
    have HF6 := hide (HF2.out.below hB26)
    have a0 := cell_below hB26 A0.out
    have a1 := cell_below hB26 A1.out
    have a2 := cell_below hB26 A2.out
    have a3 := cell_below hB26 A3.out
    have s0 := cell_below hB26 T0.out
    have s1 := cell_below hB26 T1.out
    have s2 := cell_below hB26 T2.out
    have s3 := cell_below hB26 T3'.out
    have hBw6 := hide (bel_of hBw2.out hB26)
    obtain ⟨N, e1, e2, e4, e3⟩ : ∃ N : Cod, N.p = M.p ∧ N.r = M.r ∧ N.s = M.s ∧ N.bs = bs' := ⟨⟨M.p, M.r, M.s, bs'⟩, rfl, rfl, rfl, rfl⟩
    rw [← e1] at b0
    rw [← e2] at b1
    rw [← e4] at b2
    rw [← hbl, ← e3] at b3
    have hO6v := hO6.v
    rw [← hbl, ← e3] at hO6v
    have HN6 := hide (And.intro hO6v (show Rgd N.bs by rw [e3]; exact hr6 hrgd.out))
    have HM7 := hide (HMd.out w6.drew (HS6.out.below (Below.refl _ _).drew) (HM6.out.below (Below.refl _ _).drew))
    clear y0 y1 y2 y3 hSf hB6 hK6 hO6 hr6 hg6 hB26 e1 e2 e3 e4 hbl hO6v HT HO4 HG2 HB24 HM2 A0 A1 A2 A3 T0 T1 T2 T3' HS2 HF2 hBw2 hgz HMd
    generalize M.bs.length = ml at *
    go_wp2_with fail
    generalize hgz1 : w.heap.size = g1 at a0 a1 a2 a3 s0 s1 s2 s3 ⊢
    go_region_held3 (fun w' => w'.cell? ⟨g1, 0, none⟩ = some (.int .i64 F.p) ∧ w'.cell? ⟨g1, 1, none⟩ = some (.int .i64 F.r) ∧ w'.cell? ⟨g1, 2, none⟩ = some (.int .i64 F.s) ∧ w'.cell? ⟨g1, 3, none⟩ = some (.slice uf F.bs.length cf) ∧ w'.cell? ⟨g2, 0, none⟩ = some (.int .i64 N.p) ∧ w'.cell? ⟨g2, 1, none⟩ = some (.int .i64 N.r) ∧ w'.cell? ⟨g2, 2, none⟩ = some (.int .i64 N.s) ∧ w'.cell? ⟨g2, 3, none⟩ = some (.slice ua N.bs.length uc)
        ∧ w'.cell? ⟨g1 + 1, 0, none⟩ = some (.int .u8 sa) ∧ w'.cell? ⟨g1 + 1, 1, none⟩ = some (.int .u8 sb) ∧ w'.cell? ⟨g1 + 1, 2, none⟩ = some (.int .u8 sc) ∧ w'.cell? ⟨g1 + 1, 3, none⟩ = some (.slice ax sbs.length cx)) (first | with_reducible assumption | go_keep)
      (first
        | (go_at_call 16; refine HM7.out.mono ?_; rintro e w7 ⟨P, u7, rfl, hO7, hck7, -, hrg7, -, hB7⟩; obtain ⟨a7, n7, k7, hu7⟩ : ∃ a7 n7 k7, u7 = .slice a7 n7 k7 := (by obtain ⟨x, y, h⟩ := hO7.v.slice; exact ⟨x, _, y, h⟩); subst hu7; have hB7' : Below w6.heap.size w6 w7 := (Below.refl _ _).drew.trans hB7; have hS7 := And.intro (cell_below hB7' a0) (And.intro (cell_below hB7' a1) (And.intro (cell_below hB7' a2) (And.intro (cell_below hB7' a3) (And.intro (cell_below hB7' b0) (And.intro (cell_below hB7' b1) (And.intro (cell_below hB7' b2) (And.intro (cell_below hB7' b3) (And.intro (cell_below hB7' s0) (And.intro (cell_below hB7' s1) (And.intro (cell_below hB7' s2) (cell_below hB7' s3)))))))))))))
    have hB8 := bel1' w7 (.cells #[.int .i64 F.p, .int .i64 F.r, .int .i64 F.s, .slice uf F.bs.length cf, .int .i64 N.p, .int .i64 N.r, .int .i64 N.s, .slice ua N.bs.length uc, .int .i64 P.p, .int .i64 P.r, .int .i64 P.s, .slice a7 n7 k7] 42)
    have hrow := row12 (heap_alloc_new w7 (.cells #[.int .i64 F.p, .int .i64 F.r, .int .i64 F.s, .slice uf F.bs.length cf, .int .i64 N.p, .int .i64 N.r, .int .i64 N.s, .slice ua N.bs.length uc, .int .i64 P.p, .int .i64 P.r, .int .i64 P.s, .slice a7 n7 k7] 42))
    have HX : Hid (∀ j, j < 3 → ∃ X : Cod, CodIn (w7.alloc (.cells #[.int .i64 F.p, .int .i64 F.r, .int .i64 F.s, .slice uf F.bs.length cf, .int .i64 N.p, .int .i64 N.r, .int .i64 N.s, .slice ua N.bs.length uc, .int .i64 P.p, .int .i64 P.r, .int .i64 P.s, .slice a7 n7 k7] 42)) w7.heap.size j X) := by
      intro j hj
      match j, hj with
      | 0, _ => exact ⟨F, _, hrow 0 _ rfl, hrow 1 _ rfl, hrow 2 _ rfl, hrow 3 _ rfl, (HF6.out.below hB7').below hB8, HFr.out⟩
      | 1, _ => exact ⟨N, _, hrow 4 _ rfl, hrow 5 _ rfl, hrow 6 _ rfl, hrow 7 _ rfl, (HN6.out.1.below hB7').below hB8, HN6.out.2⟩
      | 2, _ => exact ⟨P, _, hrow 8 _ rfl, hrow 9 _ rfl, hrow 10 _ rfl, hrow 11 _ rfl, hO7.v.below hB8, hrg7⟩
    have HB8 := hide (bel_of hBw6.out (bel_of hB7' hB8))
    clear hB8 hrow hS7 hB7 hB7' hO7 HM7 HN6 HF6 HS6 HM6 hBw6 hright hrgd hrg7 hck7 a0 a1 a2 a3 b0 b1 b2 b3 s0 s1 s2 s3
    go_wp2_with fail
    generalize (w7.alloc (.cells #[.int .i64 F.p, .int .i64 F.r, .int .i64 F.s, .slice uf F.bs.length cf, .int .i64 N.p, .int .i64 N.r, .int .i64 N.s, .slice ua N.bs.length uc, .int .i64 P.p, .int .i64 P.r, .int .i64 P.s, .slice a7 n7 k7] 42)) = w8 at *
    generalize w7.heap.size = g8 at *
    go_loopw [18, 19, 46] (fun rv ev iv wr => ∃ j : Nat, j ≤ 3 ∧ iv = .int .i64 j ∧ Below w8.heap.size w8 wr) (fun _ _ iv _ => 3 - (intOf iv).toNat)
    case atStart => exact ⟨0, by omega, rfl, Below.refl _ _⟩
    case round =>
      rename World => ws
      obtain ⟨j, hj, rfl, hBs⟩ := hrel
      by_cases hlt : j < 3
      · have hlt' : (j : Int) < 3 := by omega
        obtain ⟨X, hXI⟩ := HX.out j hlt
        obtain ⟨u, c0, c1, c2, c3, hu, hr⟩ := hXI.below hBs
        obtain ⟨ub, cb, rfl⟩ := hu.slice
        have HR := hide hr
        have HU := hide hu
        have HBs := hide hBs
        have HBN := fun W (h : Below ws.heap.size ws W) => (hBs.trans (h.mono hBs.size) : Below w8.heap.size w8 W)
        have HBN := hide HBN
        have hBy := bel1' ws (.cells #[.int .i64 X.p, .int .i64 X.r, .int .i64 X.s, .slice ub X.bs.length cb] 42)
        have HBy := hide hBy
        have HUy := hide (hu.below hBy)
        clear hXI hu hr hBs hBy
        by_cases hc : (mchk X).1 = 0
        · have hW := hide (wcode_ok X _ _ ⟨_, rfl, HUy.out⟩ hc HR.out)
          have HC := hide hc
          clear hc
          go_wp2_with fail
          refine hW.out.mono ?_
          rintro r wa ⟨va, rfl, hOa, hBa⟩
          have HRa := hide (rCode_any X (.agg #[.int .i64 X.p, .int .i64 X.r, .int .i64 X.s, .slice ub X.bs.length cb]) wa ⟨_, rfl, HUy.out.below hBa⟩)
          obtain ⟨c0, c1, c2, c3⟩ := box4 (box_b hBa)
          have hcf : Hid ((faultV (mchk X)) = .agg #[.int .i64 0, .int .i64 (mchk X).2.1, .int .i64 (mchk X).2.2]) := by show _ = _; unfold faultV; rw [HC.out]
          have HBa := hide (HBy.out.trans (hBa.mono (by simp)))
          have HUa := hide (HUy.out.below hBa)
          obtain ⟨aa, na, ka, rfl⟩ := bysnd _ _ _ hOa.byt
          have HOa := hide hOa.byt
          have HY := hide (box_b hBa)
          generalize hgy : ws.heap.size = gy at c0 c1 c2 c3 HY ⊢
          clear hBa hW HUy HBy hOa hgy
          go_wp2_with fail
          refine HRa.out.mono ?_
          rintro r wb ⟨rfl, hBb⟩
          rw [hcf.out]
          have hf := run_field37 (.int .i64 0) (.int .i64 (mchk X).2.1) (.int .i64 (mchk X).2.2)
          have HBb := hide (HBa.out.trans (hBb.mono HBa.out.size))
          have HUb := hide (HUa.out.below hBb)
          have HOb := hide (HOa.out.below hBb)
          have hry := (hBb.block _ (Array.getElem?_eq_some_iff.1 HY.out).1).trans HY.out
          obtain ⟨z1, z2, z5, z3, z4⟩ := cod_size HC.out HR.out
          have HG := hide (fun W (h : Below wb.heap.size wb W) => codeBytes_any X (.agg #[.int .i64 X.p, .int .i64 X.r, .int .i64 X.s, .slice ub X.bs.length cb]) W ⟨_, rfl, HUb.out.below h⟩ z1 z2 z5 z3 z4)
          generalize codB X = ys at *
          clear hBb HRa hcf HUa HOa HBa z1 z2 z3 z4 z5 HY
          have Hry := hide hry
          clear hry
          go_wp2_with fail
          refine sc_ok (gy := gy) (ys := ys) (X := X) (ub := .slice ub X.bs.length cb) rfl rfl rfl rfl Hry.out HOb.out HG.out ?_
          intro s14 wc hs75 hBc
          simp [overlay, dstsOf, ops_sc_ok, hs75]
          have HBc := hide (HBb.out.trans (hBc.mono HBb.out.size))
          clear hBc hs75
          go_wp2_with fail
          go_roundw
          case rel => exact ⟨j + 1, by omega, by first | go_num | (simp; omega), HBN.out _ HBc.out⟩
          case measure => simp [intOf]; omega
        · have hW := hide (wcode_bad X _ _ ⟨_, rfl, HUy.out⟩ hc)
          have HC := hide hc
          clear hc
          go_wp2_with fail
          refine hW.out.mono ?_
          rintro r wa ⟨rfl, hBa⟩
          have HRa := hide (rCode_any X (.agg #[.int .i64 X.p, .int .i64 X.r, .int .i64 X.s, .slice ub X.bs.length cb]) wa ⟨_, rfl, HUy.out.below hBa⟩)
          obtain ⟨c0, c1, c2, c3⟩ := box4 (box_b hBa)
          have hcf : Hid ((faultV (mchk X)) = .agg #[.int .i64 (mchk X).1, .int .i64 (mchk X).2.1, .int .i64 (mchk X).2.2]) := rfl
          have HBa := hide (HBy.out.trans (hBa.mono (by simp)))
          clear hBa hW HUy HBy
          go_wp2_with fail
          refine HRa.out.mono ?_
          rintro r wb ⟨rfl, hBb⟩
          rw [hcf.out]
          have hb : ((mchk X).1 == 0) = false := by simp [HC.out]
          have hf := run_field37 (.int .i64 (mchk X).1) (.int .i64 (mchk X).2.1) (.int .i64 (mchk X).2.2)
          have HBb := hide (HBa.out.trans (hBb.mono HBa.out.size))
          generalize (mchk X).1 = e0 at *
          clear hBb HRa hcf
          go_wp2_with fail
          go_roundw
          case rel => exact ⟨j + 1, by omega, by first | go_num | (simp; omega), HBN.out _ HBb.out⟩
          case measure => simp [intOf]; omega
      · obtain rfl : j = 3 := by omega
        go_wp2_with fail
        go_ret
        exact ⟨rfl, HB8.out.trans (hBs.mono HB8.out.size)⟩
end Go.Proofs.Ytbjnhicikkjadaa
