/- IrOnly: P4.2: a function that is taken names only vregs and blocks that there are. -/
import Derived.Test.YteidejcaoboejaaRows
import Derived.WalkKit
import Derived.ProofKit
import Derived.OpenShut
import Derived.ShutString
import Derived.ChangeOld
import Derived.Below
import Derived.Test.YteidejcaoboejaaFault
import Derived.Test.YteidejcaoboejaaRefFunc
import Derived.Test.YteidejcaoboejaaStore
namespace Go.Proofs.Yteidejcaoboejaa.irOnly
open Go.ChangeShapes Go.WideShapes Go.ChangeAt Go.RowKit Ir
open Go.ChangeMaps (open_string shut_string)
set_option linter.unusedVariables false

theorem own : ownKnob Try.prog.godebug = none := by kernel_rfl
theorem laidOut : laidOutB Try.prog = true := by kernel_rfl

theorem getD_mem {l : List Int} (m : Nat) (h : m < l.length) : l.getD m 0 ∈ l := by simp [h]
theorem getD_memI {l : List Ins} (m : Nat) (h : m < l.length) : l.getD m Ins.zero ∈ l := by simp [h]
theorem getD_memB {l : List Blk} (m : Nat) (h : m < l.length) : l.getD m Blk.zero ∈ l := by simp [h]
theorem args_one' (w : World) (x : Int) : IntsV (w.alloc (.cells #[.int .i64 x] 3)) (.slice (some ⟨w.heap.size, 0, none⟩) 1 1) [x] := by
  refine ⟨some ⟨w.heap.size, 0, none⟩, 1, rfl, by simp, by simp [maxLen], ?_, ?_⟩
  · intro h
    simp at h
  · intro _
    refine ⟨_, _, rfl, fun j hj => ?_⟩
    obtain rfl : j = 0 := by simp at hj; omega
    exact box_cell (Below.refl _ _) 0 rfl
def FunAt (w : World) (g off : Nat) (X : Fun) : Prop := ∃ u, w.cell? ⟨g, off, none⟩ = some (.int .i64 X.p) ∧ w.cell? ⟨g, off + 1, none⟩ = some (.int .i64 X.v) ∧ w.cell? ⟨g, off + 2, none⟩ = some u ∧ BlksV w u X.bs
theorem FunAt.below {w w' : World} {g off : Nat} {X : Fun} (h : FunAt w g off X) (hB : Below w.heap.size w w') : FunAt w' g off X := by
  obtain ⟨u, h1, h2, h3, h4⟩ := h
  exact ⟨u, cell_below hB h1, cell_below hB h2, cell_below hB h3, h4.below hB⟩

set_option maxHeartbeats 8000000 in
set_option maxRecDepth 100000 in
theorem only_walk (F : Fun) (uf : Option Addr) (cf : Nat) (sp : Value) (sa sb sc : Int) (sbs : List Int) (b k f n : Int) (w : World) (hF0 : BlksV w (.slice uf F.bs.length cf) F.bs) (hs : SpecV w sp sa sb sc sbs) (hb : 0 ≤ b ∧ b < 256) (hk : 0 ≤ k ∧ k < 256) (hf : 0 ≤ f ∧ f < 256) :
    Calls Try.prog 7 #[.agg #[.int .i64 F.p, .int .i64 F.v, .slice uf F.bs.length cf], sp, .int .u8 b, .int .u8 k, .int .u8 f, .int .i64 n] w fun r w' => r = .returned (.bool true) ∧ Below w.heap.size w w' := by
  have hs' := hs
  obtain ⟨us, rfl, hs1, hs2, hs3, hs4⟩ := hs'
  obtain ⟨ax, cx, rfl⟩ := hs4.slice
  have hBa := bel1 w (.cells #[.int .i64 F.p, .int .i64 F.v, .slice uf F.bs.length cf] 24)
  have hza : (w.alloc (.cells #[.int .i64 F.p, .int .i64 F.v, .slice uf F.bs.length cf] 24)).heap.size = w.heap.size + 1 := by simp
  have hBb := bel1 (w.alloc (.cells #[.int .i64 F.p, .int .i64 F.v, .slice uf F.bs.length cf] 24)) (.cells #[.int .u8 sa, .int .u8 sb, .int .u8 sc, .slice ax sbs.length cx] 27)
  have HBb := hide hBb
  have HZ := hide hza
  have hBab := hide (bel_of hBa hBb)
  have HF0 := hide ((hF0.below hBa).below hBb)
  have HS0 := hide ((hs.below hBa).below hBb)
  have f33 := run_field33
  clear hF0 hs hBa hBb hza hs1 hs2 hs3 hs4
  go_enter Try.func7, Try.ntmps7
  go_wp2_with fail
  refine (awake_any _).mono ?_
  rintro r w1 ⟨rfl, hB1⟩
  obtain ⟨a0, a1, a2⟩ := boxF (bel_of HBb.out hB1)
  have hsx := boxS hB1
  rw [HZ.out] at hsx
  obtain ⟨s0, s1, s2, s3⟩ := hsx
  have HF1 := hide (HF0.out.below hB1)
  have HS1 := hide (HS0.out.below hB1)
  have hBw1 := hide (bel_of hBab.out hB1)
  have hMd := hide (made_any _ sa sb sc sbs w1 HS1.out)
  have hright := hide (made_right sa sb sc sbs)
  generalize made sa sb sc sbs = M at hMd hright
  have A0 := hide a0
  have A1 := hide a1
  have A2 := hide a2
  clear hB1 HBb HF0 HS0 hBab HZ a0 a1 a2
  go_wp2_with fail
  refine hMd.out.mono ?_
  rintro r w2 ⟨um, rfl, hO2, hB2⟩
  obtain ⟨ua, uc, rfl⟩ := hO2.v.slice
  have hBx := bel1 w2 (.cells #[.int .i64 M.p, .int .i64 M.v, .slice ua M.bs.length uc] 24)
  have hB13 := bel_of hB2 hBx
  have hg2 : (w2.alloc (.cells #[.int .i64 M.p, .int .i64 M.v, .slice ua M.bs.length uc] 24)).heap[w2.heap.size]? = some (Obj.cells (rowF M.p M.v (.slice ua M.bs.length uc)) 24 (0, 0)) := heap_alloc_new w2 _
  have HG2 := hide hg2
  have HO3 := hide (hO2.below hBx)
  have HB13 := hide hB13
  have hT := hide (turn_any w1.heap.size _ M.bs b k f n _ HO3.out hB13.size hb.1 hb.2 hk.1 hk.2 hf.1 (right_small hright.out))
  clear hMd hO2 hB2 hBx hB13 hg2 s0 s1 s2 s3
  go_wp2_with fail
  refine hT.out.mono ?_
  rintro r w4 ⟨rfl, hSf, hB4, hK4⟩
  obtain ⟨bs', hbl, hO4⟩ := HO3.out.soft hSf
  have hg4 := hK4 _ _ _ _ rfl HG2.out
  have hB14 := HB13.out.trans hB4
  have a0 := cell_below hB14 A0.out
  have a1 := cell_below hB14 A1.out
  have a2 := cell_below hB14 A2.out
  have HF4 := hide (HF1.out.below hB14)
  have hBw4 := hide (bel_of hBw1.out hB14)
  have hL := hide (long_any _ F.bs w4 HF4.out)
  obtain ⟨b0, b1, b2⟩ := rowF_cells hg4
  have HM4 := hide hO4.v
  have B0 := hide b0
  have B1 := hide b1
  have B2 := hide b2
  clear hT hSf hB4 hK4 hO4 hg4 HO3 HG2 hright HF1 HS1 HB13 A0 A1 A2 hBw1 b0 b1 b2 hB14
  generalize w2.heap.size = g2 at *
  go_wp2_with fail
  refine hL.out.mono ?_
  rintro r w5 ⟨⟨c, rfl⟩, hB5⟩
  have a0 := cell_below hB5 a0
  have a1 := cell_below hB5 a1
  have a2 := cell_below hB5 a2
  have b0 := cell_below hB5 B0.out
  have b1 := cell_below hB5 B1.out
  have b2 := cell_below hB5 B2.out
  have HF5 := hide (HF4.out.below hB5)
  have HM5 := hide (HM4.out.below hB5)
  have hBw5 := hide (bel_of hBw4.out hB5)
  clear hL hB5 HF4 hBw4 HM4 B0 B1 B2
  cases c with
  | true =>
    go_wp2_with fail
    go_ret
    exact ⟨rfl, hBw5.out⟩
  | false =>
    rw [← hbl] at b2 HM5
    obtain ⟨M2, e1, e2, e3⟩ : ∃ M2 : Fun, M2.p = M.p ∧ M2.v = M.v ∧ M2.bs = bs' := ⟨⟨M.p, M.v, bs'⟩, rfl, rfl, rfl⟩
    rw [← e3] at b2 HM5
    rw [← e1] at b0
    rw [← e2] at b1
    clear e1 e2 e3 hbl
    have hBx := bel1 w5 (.cells #[.int .i64 F.p, .int .i64 F.v, .slice uf F.bs.length cf, .int .i64 M2.p, .int .i64 M2.v, .slice ua M2.bs.length uc] 24)
    have hBw6 := hide (bel_of hBw5.out hBx)
    have HAT : Hid (∃ gb off, (⟨w5.heap.size, 0, none⟩ : Addr) = ⟨gb, off, none⟩ ∧ ∀ j, j < 2 → ∃ X, FunAt (w5.alloc (.cells #[.int .i64 F.p, .int .i64 F.v, .slice uf F.bs.length cf, .int .i64 M2.p, .int .i64 M2.v, .slice ua M2.bs.length uc] 24)) gb (off + j * 3) X) := by
      refine ⟨w5.heap.size, 0, rfl, fun j hj => ?_⟩
      rcases (by omega : j = 0 ∨ j = 1) with rfl | rfl
      · exact ⟨F, _, box_cell (Below.refl _ _) 0 rfl, box_cell (Below.refl _ _) 1 rfl, box_cell (Below.refl _ _) 2 rfl, HF5.out.below hBx⟩
      · exact ⟨M2, _, box_cell (Below.refl _ _) 3 rfl, box_cell (Below.refl _ _) 4 rfl, box_cell (Below.refl _ _) 5 rfl, HM5.out.below hBx⟩
    clear hBw5 hBx HF5 HM5
    go_wp2_with fail
    clear a0 a1 a2 b0 b1 b2
    generalize (w5.alloc (.cells #[.int .i64 F.p, .int .i64 F.v, .slice uf F.bs.length cf, .int .i64 M2.p, .int .i64 M2.v, .slice ua M2.bs.length uc] 24)) = w6 at *
    generalize (⟨w5.heap.size, 0, none⟩ : Addr) = ad at *
    obtain ⟨gb, off, rfl, hat0⟩ := HAT.out
    have HAT : Hid (∀ j, j < 2 → ∃ X, ∀ W, Below w6.heap.size w6 W → FunAt W gb (off + j * 3) X) := fun j hj => by
      obtain ⟨X, hX⟩ := hat0 j hj
      exact ⟨X, fun W hW => hX.below hW⟩
    clear hat0
    go_loopw [16, 21, 22, 23, 25, 26, 27, 46] (fun _ _ _ _ _ _ _ iv wr => ∃ j : Nat, j ≤ 2 ∧ iv = .int .i64 j ∧ Below w6.heap.size w6 wr) (fun _ _ _ _ _ _ _ iv _ => 2 - (intOf iv).toNat)
    case atStart => exact ⟨0, by omega, rfl, Below.refl _ _⟩
    case round =>
      rename World => wo
      obtain ⟨j, hj, rfl, hBr⟩ := hrel
      by_cases hlt : j < 2
      · obtain ⟨X, hXw⟩ := HAT.out j hlt
        obtain ⟨u1, c0, c1, c2, hXu⟩ := hXw wo hBr
        obtain ⟨ux, cx2, rfl⟩ := hXu.slice
        have hmx := SlV.len_le hXu
        have hmx' : X.bs.length ≤ 9223372036854775807 := by simp [maxLen] at hmx; omega
        have hBx := bel1 wo (.cells #[.int .i64 X.p, .int .i64 X.v, .slice ux X.bs.length cx2] 24)
        have hC := hide (check_any X _ _ ⟨_, rfl, hXu.below hBx⟩)
        have HXu := hide (hXu.below hBx)
        have hBr7 := hide (bel_of hBr hBx)
        have hlt' : (j : Int) < 2 := by omega
        unfold faultV at hC
        clear hXu hmx hBx hXw
        go_wp2_with fail
        refine hC.out.mono ?_
        rintro r w8 ⟨rfl, hB8⟩
        obtain ⟨y0, y1, y2⟩ := boxF hB8
        have HX8 := hide (HXu.out.below hB8)
        have hBr8 := hide (bel_of hBr7.out hB8)
        have hall0 := @chk_all X
        generalize chk X = cc at *
        obtain ⟨cc1, cc2, cc3⟩ := cc
        simp only at hall0 ⊢
        clear hC hB8 HXu hBr7 c0 c1 c2 hBr
        by_cases hz : cc1 = 0
        · subst hz
          obtain ⟨hsd, hall⟩ := hall0 rfl
          have hnb : 1 ≤ X.bs.length := by simp [sized] at hsd; omega
          have HALL := hide hall
          have X0 := hide y0
          have X1 := hide y1
          have X2 := hide y2
          clear hall hall0 hsd
          go_wp2_with fail
          generalize wo.heap.size = gx at *
          clear y0 y1 y2
          go_loopw [21, 22, 23, 25, 26, 27, 57] (fun _ _ _ _ _ _ iv wr => ∃ q : Nat, q ≤ X.bs.length ∧ iv = .int .i64 q ∧ Below w8.heap.size w8 wr) (fun _ _ _ _ _ _ iv _ => X.bs.length - (intOf iv).toNat)
          case atStart => exact ⟨0, by omega, rfl, Below.refl _ _⟩
          case round =>
            rename World => wb
            obtain ⟨q, hq, rfl, hBq⟩ := hrel
            by_cases hltq : q < X.bs.length
            · obtain ⟨gk, offk, rfl, ui, ⟨c0, c1, c2, c3, c4⟩, hui⟩ := SlV.at (HX8.out.below hBq) q hltq
              have hbF := HALL.out _ (getD_memB q hltq)
              generalize X.bs.getD q Blk.zero = b' at *
              obtain ⟨is, e⟩ := b'
              simp only at c1 c2 c3 c4 hui
              obtain ⟨_, hins, hend⟩ := blkF_all hbF
              simp only at hins hend
              obtain ⟨_, hta, _⟩ := endF_all hend
              obtain ⟨hto0, hto1, hel0, hel1⟩ := endF_to hend (by omega)
              have HE0 : Hid (takes e.k = true → inr e.a X.v = true) := fun h => by have := hta h; simp [inr]; omega
              have HE1 : Hid (inr e.to (X.bs.length : Int) = true) := by show _ = _; simp [inr]; omega
              have HE2 : Hid (inr e.el (X.bs.length : Int) = true) := by show _ = _; simp [inr]; omega
              have HIN := hide hins
              have hmi := SlV.len_le hui
              have hmi' : is.length ≤ 9223372036854775807 := by simp [maxLen] at hmi; omega
              obtain ⟨ai, ci, rfl⟩ := hui.slice
              have hBx := bel1 wb (.cells #[.slice ai is.length ci, .int .u8 e.k, .int .i64 e.a, .int .i64 e.to, .int .i64 e.el] 41)
              have HI := hide (hui.below hBx)
              have HBC := hide (boxB (Below.refl _ (wb.alloc (.cells #[.slice ai is.length ci, .int .u8 e.k, .int .i64 e.a, .int .i64 e.to, .int .i64 e.el] 41))))
              have hBb9 := hide (bel_of hBq hBx)
              have hltq' : (q : Int) < (X.bs.length : Int) := by omega
              have hx2 := cell_below hBq X2.out
              clear hui hmi hBx hBq hbF hins hend hta hto0 hto1 hel0 hel1
              go_wp2_with fail
              generalize (wb.alloc (.cells #[.slice ai is.length ci, .int .u8 e.k, .int .i64 e.a, .int .i64 e.to, .int .i64 e.el] 41)) = w9 at *
              generalize wb.heap.size = g9 at *
              go_loopw [21, 22, 23, 25, 64] (fun _ _ _ _ kv wr => ∃ k : Nat, k ≤ is.length ∧ kv = .int .i64 k ∧ Below w9.heap.size w9 wr) (fun _ _ _ _ kv _ => is.length - (intOf kv).toNat)
              case atStart => exact ⟨0, by omega, rfl, Below.refl _ _⟩
              case round =>
                rename World => wi
                obtain ⟨k, hk, rfl, hBs⟩ := hrel
                by_cases hltk : k < is.length
                · obtain ⟨gi, offi, rfl, uu, ⟨a0, a1, a2, a3, a4, a5, a6⟩, huu⟩ := SlV.at (HI.out.below hBs) k hltk
                  have hin := HIN.out _ (getD_memI k hltk)
                  generalize is.getD k Ins.zero = i at *
                  obtain ⟨au, cu, rfl⟩ := huu.slice
                  obtain ⟨_, hal, hnm⟩ := inF_all hin
                  have hBy := bel1 wi (.cells #[.int .u8 i.k, .int .u8 i.op, .int .i64 i.d, .int .i64 i.a, .int .i64 i.b, .int .i64 i.n, .slice au i.args.length cu] 46)
                  have hUs := hide (uses_any i _ _ (huu.below hBy) (by omega))
                  have HUU := hide (huu.below hBy)
                  have hBs9 := hide (bel_of hBs hBy)
                  have hltk' : (k : Int) < (is.length : Int) := by omega
                  have HAL := hide hal
                  have HNM := hide hnm
                  unfold insV at hUs
                  clear huu hin hnm hal hBy
                  go_wp2_with fail
                  refine hUs.out.mono ?_
                  rintro r w11 ⟨ur, rfl, hOu, hB11⟩
                  have HIC := hide (boxI hB11)
                  obtain ⟨i0, i1, i2, i3, i4, i5, i6⟩ := HIC.out.zero
                  obtain ⟨ar, cr, rfl⟩ := hOu.v.slice
                  have HOu := hide hOu
                  have hGv := hide (gives_any i _ w11 (HUU.out.below hB11))
                  have hB911 := hide (bel_of hBs9.out hB11)
                  unfold insV at hGv
                  have hszU := hide (bel1 wi (.cells #[.int .u8 i.k, .int .u8 i.op, .int .i64 i.d, .int .i64 i.a, .int .i64 i.b, .int .i64 i.n, .slice au i.args.length cu] 46)).size
                  have HB11 := hide hB11
                  clear hUs a0 a1 a2 a3 a4 a5 a6 hOu hB11
                  go_wp2_with fail
                  refine hGv.out.mono ?_
                  rintro r w12 ⟨rfl, hB12⟩
                  have hB912 := hide (bel_of hB911.out hB12)
                  have HO12 := hide (HOu.out.keeps (Keeps.below hB12))
                  have x0 := cell_below (bel_of hBb9.out hB912.out) X0.out
                  have x1 := cell_below (bel_of hBb9.out hB912.out) X1.out
                  have x2 := cell_below (bel_of hBb9.out hB912.out) X2.out
                  have HSZ := hide (Nat.le_trans HB11.out.size hB12.size)
                  clear hGv i0 i1 i2 i3 i4 i5 i6 HIC hB12 HOu
                  by_cases hg : gives i.k = true
                  · have hgv : gv i = i.d := by unfold gv; rw [if_pos hg]
                    have hL3 : (uses i).length ≤ 3 := uses_len HAL.out
                    have HNMd : Hid (∀ x ∈ uses i ++ [i.d], inr x X.v = true) := by
                      intro x hx
                      have := HNM.out x (by unfold named; rw [if_pos hg]; exact hx)
                      simp [inr]; omega
                    rw [hg, hgv]
                    clear hgv hg
                    generalize uses i = us at *
                    have hBd := bel1 w12 (.cells #[.int .i64 i.d] 3)
                    have hO13 := HO12.out.keeps (Keeps.below hBd)
                    have hV13 : IntsV (w12.alloc (.cells #[.int .i64 i.d] 3)) (.slice (some ⟨w12.heap.size, 0, none⟩) 1 1) [i.d] := args_one' w12 i.d
                    have hsz13 : (wi.alloc (.cells #[.int .u8 i.k, .int .u8 i.op, .int .i64 i.d, .int .i64 i.a, .int .i64 i.b, .int .i64 i.n, .slice au i.args.length cu] 46)).heap.size ≤ (w12.alloc (.cells #[.int .i64 i.d] 3)).heap.size := Nat.le_trans HSZ.out hBd.size
                    go_wp2_with (at_builtin; go_must (refine wpList_append_ints _ rfl (.tmp 76) (.tmp 78) rfl _ _ _ rfl hO13 _ _ rfl hV13 (by simp; omega) hsz13 ?_))
                    intro v' w14 hO14 hg14
                    have hB14 : Below (wi.alloc (.cells #[.int .u8 i.k, .int .u8 i.op, .int .i64 i.d, .int .i64 i.a, .int .i64 i.b, .int .i64 i.n, .slice au i.args.length cu] 46)).heap.size w12 w14 := (hBd.mono HSZ.out).grown hg14 hsz13 (fun k hk => (hO13.lt k hk).1)
                    have hB914 : Below w9.heap.size w9 w14 := hB912.out.trans (hB14.mono (by simpa using Nat.le_trans hBs9.out.size (Nat.le_refl _)))
                    have x0 := cell_below (bel_of hBb9.out hB914) X0.out
                    have x1 := cell_below (bel_of hBb9.out hB914) X1.out
                    have x2 := cell_below (bel_of hBb9.out hB914) X2.out
                    have HB914 := hide hB914
                    have HL := hide hO14.v
                    have HLin : Hid (∀ x ∈ us ++ [i.d], inr x X.v = true) := HNMd
                    have hL4 : (us ++ [i.d]).length ≤ 4 := by simp; omega
                    clear hO14 hg14 hO13 hV13 hBd hB14 hB914 hsz13 HO12
                    generalize us ++ [i.d] = L at *
                    obtain ⟨al, cl, rfl⟩ := IntsV.slice HL.out
                    go_wp2_with fail
                    go_loop [25, 82] (fun _ mv => ∃ m : Nat, m ≤ L.length ∧ mv = .int .i64 m) (fun _ mv => L.length - (intOf mv).toNat)
                    case atStart => exact ⟨0, by omega, rfl⟩
                    case round =>
                      obtain ⟨m, hm, rfl⟩ := hrel
                      by_cases hltm : m < L.length
                      · obtain ⟨bb, oo, rfl, hcm⟩ := IntsV.at HL.out m hltm
                        have hxin := HLin.out _ (getD_mem m hltm)
                        generalize L.getD m 0 = x at *
                        have hltm' : (m : Int) < (L.length : Int) := by omega
                        go_wp2_with fail
                        refine (in_any x X.v _).mono ?_
                        rintro r wq ⟨rfl, rfl⟩
                        rw [hxin]
                        go_wp2_with fail
                        go_round
                        case rel => exact ⟨m + 1, by omega, by go_num⟩
                        case measure => simp [intOf]; omega
                      · obtain rfl : m = L.length := by omega
                        go_wp2_with fail
                        go_roundw
                        case rel => exact ⟨k + 1, by omega, by go_num, HB914.out⟩
                        case measure => simp [intOf]; omega
                  · have hg' : gives i.k = false := by simpa using hg
                    have hL3 : (uses i).length ≤ 3 := uses_len HAL.out
                    have HLin : Hid (∀ x ∈ uses i, inr x X.v = true) := by
                      intro x hx
                      have := HNM.out x (by unfold named; exact List.mem_append_left _ hx)
                      simp [inr]; omega
                    rw [hg']
                    clear hg hg'
                    have HL := hide HO12.out.v
                    clear HO12 HNM
                    generalize uses i = L at *
                    go_wp2_with fail
                    go_loop [25, 82] (fun _ mv => ∃ m : Nat, m ≤ L.length ∧ mv = .int .i64 m) (fun _ mv => L.length - (intOf mv).toNat)
                    case atStart => exact ⟨0, by omega, rfl⟩
                    case round =>
                      obtain ⟨m, hm, rfl⟩ := hrel
                      by_cases hltm : m < L.length
                      · obtain ⟨bb, oo, rfl, hcm⟩ := IntsV.at HL.out m hltm
                        have hxin := HLin.out _ (getD_mem m hltm)
                        generalize L.getD m 0 = x at *
                        have hltm' : (m : Int) < (L.length : Int) := by omega
                        go_wp2_with fail
                        refine (in_any x X.v _).mono ?_
                        rintro r wq ⟨rfl, rfl⟩
                        rw [hxin]
                        go_wp2_with fail
                        go_round
                        case rel => exact ⟨m + 1, by omega, by go_num⟩
                        case measure => simp [intOf]; omega
                      · obtain rfl : m = L.length := by omega
                        go_wp2_with fail
                        go_roundw
                        case rel => exact ⟨k + 1, by omega, by go_num, hB912.out⟩
                        case measure => simp [intOf]; omega
                · obtain rfl : k = is.length := by omega
                  obtain ⟨z0, z1, z2, z3, z4⟩ := (HBC.out.below hBs).zero
                  have hLa := hide (last_any e wi)
                  unfold endV at hLa
                  go_wp2_with fail
                  refine hLa.out.mono ?_
                  rintro r w15 ⟨rfl, hB15⟩
                  have hB915 := bel_of hBs hB15
                  obtain ⟨z0, z1, z2, z3, z4⟩ := (HBC.out.below hB915).zero
                  have hBb15 := hide (bel_of hBb9.out hB915)
                  have x0 := cell_below hBb15.out X0.out
                  have x1 := cell_below hBb15.out X1.out
                  have x2 := cell_below hBb15.out X2.out
                  have e1 := HE1.out
                  have e2 := HE2.out
                  clear hLa hB15 hB915 hBs
                  by_cases ht : takes e.k = true
                  · have e0 := HE0.out ht
                    rw [ht]
                    clear ht
                    go_wp2_with fail
                    refine (in_any _ _ _).mono ?_
                    rintro r wq ⟨rfl, rfl⟩
                    rw [e0]
                    go_wp2_with fail
                    refine (in_any _ _ _).mono ?_
                    rintro r wq ⟨rfl, rfl⟩
                    rw [e1]
                    go_wp2_with fail
                    refine (in_any _ _ _).mono ?_
                    rintro r wq ⟨rfl, rfl⟩
                    rw [e2]
                    go_wp2_with fail
                    go_roundw
                    case rel => exact ⟨q + 1, by omega, by go_num, hBb15.out⟩
                    case measure => simp [intOf]; omega
                  · have ht' : takes e.k = false := by simpa using ht
                    rw [ht']
                    clear ht ht'
                    go_wp2_with fail
                    refine (in_any _ _ _).mono ?_
                    rintro r wq ⟨rfl, rfl⟩
                    rw [e1]
                    go_wp2_with fail
                    refine (in_any _ _ _).mono ?_
                    rintro r wq ⟨rfl, rfl⟩
                    rw [e2]
                    go_wp2_with fail
                    go_roundw
                    case rel => exact ⟨q + 1, by omega, by go_num, hBb15.out⟩
                    case measure => simp [intOf]; omega
            · obtain rfl : q = X.bs.length := by omega
              have hBf := bel_of hBr8.out hBq
              go_wp2_with fail
              go_roundw
              case rel => exact ⟨j + 1, by omega, by go_num, hBf⟩
              case measure => simp [intOf]; omega
        · have hBf := hBr8.out
          have hz' : (cc1 == 0) = false := by simpa using hz
          clear hall0
          go_wp2_with fail
          go_roundw
          case rel => exact ⟨j + 1, by omega, by go_num, hBf⟩
          case measure => simp [intOf]; omega
      · obtain rfl : j = 2 := by omega
        have hBf := bel_of hBw6.out hBr
        go_wp2_with fail
        go_ret
        exact ⟨rfl, hBf⟩

theorem walk {H : Type} {enc : TypeId × Value → H} (W : World) (base : Nat) (v0 v1 v2 v3 v4 v5 : Value) {d0 d1 d2 d3 d4 d5 : DataW H} {p0 p1 p2 p3 p4 p5 : List MemPlace} (o0 : Value.okWide Try.prog W .any base 24 v0) (k0 : DataW.Trod enc Try.prog W 0 (fun _ => true) true 24 v0 d0 p0) (o1 : Value.okWide Try.prog W .any base 27 v1) (k1 : DataW.Trod enc Try.prog W 0 (fun _ => true) true 27 v1 d1 p1) (o2 : Value.okWide Try.prog W .any base 5 v2) (k2 : DataW.Trod enc Try.prog W 0 (fun _ => true) true 5 v2 d2 p2) (o3 : Value.okWide Try.prog W .any base 5 v3) (k3 : DataW.Trod enc Try.prog W 0 (fun _ => true) true 5 v3 d3 p3) (o4 : Value.okWide Try.prog W .any base 5 v4) (k4 : DataW.Trod enc Try.prog W 0 (fun _ => true) true 5 v4 d4 p4) (o5 : Value.okWide Try.prog W .any base 3 v5) (k5 : DataW.Trod enc Try.prog W 0 (fun _ => true) true 3 v5 d5 p5) :
    Calls Try.prog 7 #[v0, v1, v2, v3, v4, v5] W fun e w' => e = .returned (.bool true) ∧ Below W.heap.size W w' := by
  obtain ⟨F, uf0, rfl, hF⟩ := fun_in o0 k0
  obtain ⟨uf, cf, rfl⟩ := hF.slice
  obtain ⟨sa, sb, sc, sbs, hs⟩ := spec_in o1 k1
  obtain ⟨b, rfl, hb⟩ := byte_in o2 k2
  obtain ⟨k, rfl, hk⟩ := byte_in o3 k3
  obtain ⟨f, rfl, hf⟩ := byte_in o4 k4
  obtain ⟨n, rfl, _⟩ := i64_in o5 k5
  exact only_walk F uf cf v1 sa sb sc sbs b k f n W hF hs hb hk hf

set_option maxRecDepth 100000 in
theorem lifted (os : Os) (started : os.Started) (H : Type) (enc : TypeId × Value → H) :
    ReturnsInHanded {} Try.checked os 7 .any (Rows.irOnlySpec.pre6 enc Try.prog Try.f7 Rows.irOnlyRow.domain false) (Rows.irOnlySpec.post enc Try.prog Try.f7 false true false false) := by
  refine returnsInHanded_of_change (C := Try.checked) own started (by kernel_rfl) Try.func7
    (ChangeSpec.witness6 (enc := enc) (C := Try.checked) false ⟨#[], #[.agg #[.int .i64 0, .int .i64 0, .slice none 0 0], .agg #[.int .u8 0, .int .u8 0, .int .u8 0, .slice none 0 0], .int .u8 0, .int .u8 0, .int .u8 0, .int .i64 0], []⟩ 8 (by kernel_rfl) (by kernel_rfl) (by kernel_rfl) (by kernel_rfl)) ?_
  intro W base args ds gs before hval0 hW hcnd _
  have hval : ∀ (j : Nat) t v, Try.f7.params[j]? = some t → args[j]? = some v → Value.okWide Try.prog W .any base t v := hval0
  have hW' := hW
  obtain ⟨p, q, hA0, hV, rfl, hfz, hnd⟩ := hW
  have hA : DataW.TrodAll enc Try.prog W 0 (fun _ => true) true Try.f7.params.toList args.toList ds p := hA0
  rw [Try.params7] at hA hval
  obtain ⟨v0, vs0, d0, ds0, p0, q0, hargs, rfl, rfl, h0, r0⟩ := trodAll_cons hA
  obtain ⟨v1, vs1, d1, ds1, p1, q1, rfl, rfl, rfl, h1, r1⟩ := trodAll_cons r0
  obtain ⟨v2, vs2, d2, ds2, p2, q2, rfl, rfl, rfl, h2, r2⟩ := trodAll_cons r1
  obtain ⟨v3, vs3, d3, ds3, p3, q3, rfl, rfl, rfl, h3, r3⟩ := trodAll_cons r2
  obtain ⟨v4, vs4, d4, ds4, p4, q4, rfl, rfl, rfl, h4, r4⟩ := trodAll_cons r3
  obtain ⟨v5, vs5, d5, ds5, p5, q5, rfl, rfl, rfl, h5, r5⟩ := trodAll_cons r4
  obtain ⟨rfl, rfl, rfl⟩ := trodAll_nil r5
  obtain rfl : args = #[v0, v1, v2, v3, v4, v5] := by cases args; simp_all
  obtain ⟨rfl, rfl⟩ := trodVars_none hV
  have lt0 : ∀ x ∈ p0, x.block < W.heap.size := by obtain ⟨m, hm⟩ := h0; exact DataW.trod_lt m _ _ _ hm
  have lt1 : ∀ x ∈ p1, x.block < W.heap.size := by obtain ⟨m, hm⟩ := h1; exact DataW.trod_lt m _ _ _ hm
  have lt2 : ∀ x ∈ p2, x.block < W.heap.size := by obtain ⟨m, hm⟩ := h2; exact DataW.trod_lt m _ _ _ hm
  have lt3 : ∀ x ∈ p3, x.block < W.heap.size := by obtain ⟨m, hm⟩ := h3; exact DataW.trod_lt m _ _ _ hm
  have lt4 : ∀ x ∈ p4, x.block < W.heap.size := by obtain ⟨m, hm⟩ := h4; exact DataW.trod_lt m _ _ _ hm
  have lt5 : ∀ x ∈ p5, x.block < W.heap.size := by obtain ⟨m, hm⟩ := h5; exact DataW.trod_lt m _ _ _ hm
  refine (walk W base v0 v1 v2 v3 v4 v5 (hval 0 24 v0 rfl rfl) h0 (hval 1 27 v1 rfl rfl) h1 (hval 2 5 v2 rfl rfl) h2 (hval 3 5 v3 rfl rfl) h3 (hval 4 5 v4 rfl rfl) h4 (hval 5 3 v5 rfl rfl) h5).mono fun e W' ⟨he, bel⟩ => ?_
  subst he
  exact ⟨_, rfl, _, _, _, [], _, [], hW', trodAll_mk1 (shut_bool Try.underlying4 _), (trodAll_cons_mk (Below.trod laidOut (by kernel_rfl) (of_decide_eq_true (by kernel_rfl)) h0 bel lt0) (trodAll_cons_mk (Below.trod laidOut (by kernel_rfl) (of_decide_eq_true (by kernel_rfl)) h1 bel lt1) (trodAll_cons_mk (Below.trod laidOut (by kernel_rfl) (of_decide_eq_true (by kernel_rfl)) h2 bel lt2) (trodAll_cons_mk (Below.trod laidOut (by kernel_rfl) (of_decide_eq_true (by kernel_rfl)) h3 bel lt3) (trodAll_cons_mk (Below.trod laidOut (by kernel_rfl) (of_decide_eq_true (by kernel_rfl)) h4 bel lt4) (trodAll_cons_mk (Below.trod laidOut (by kernel_rfl) (of_decide_eq_true (by kernel_rfl)) h5 bel lt5) trodAll_mk0)))))), rfl, bel.frame _, fun h => by cases h⟩

theorem over : Rows.irOnlyRow.holds Try.pinned (OpenSpec.ofChange Rows.irOnlySpec) :=
  OpenClaim.holds_of_wide 7 Try.f7 rfl rfl rfl rfl rfl rfl rfl ⟨rfl, rfl, rfl, rfl, rfl⟩ rfl rfl rfl rfl rfl (by kernel_rfl) Try.func7 (by kernel_rfl)
    (of_decide_eq_true (by kernel_rfl)) (by unfold Func.isWrapper; first | (rw [if_pos (by decide +kernel)]; kernel_rfl) | (rw [if_neg (by decide +kernel)]; exact ⟨rfl, rfl⟩))
    (fun os started H enc _ => lifted os started H enc)

end Go.Proofs.Yteidejcaoboejaa.irOnly
namespace Go.Proofs.Yteidejcaoboejaa
theorem irOnly_holds : Rows.IrOnlySaid := irOnly.over
#print axioms irOnly_holds
end Go.Proofs.Yteidejcaoboejaa
