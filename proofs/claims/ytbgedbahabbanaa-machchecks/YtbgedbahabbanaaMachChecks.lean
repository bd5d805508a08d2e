/- MachChecks: P5.1: any code; right code with something turned: mach.Check answers as the document. -/
import Derived.Test.YtbgedbahabbanaaRows
import Derived.WalkKit
import Derived.ProofKit
import Derived.OpenShut
import Derived.ShutString
import Derived.ChangeOld
import Derived.Below
import Derived.Test.YtbgedbahabbanaaAwake
import Derived.Test.YtbgedbahabbanaaOpen5
import Derived.Test.YtbgedbahabbanaaMd5
import Derived.Test.YtbgedbahabbanaaCk3
namespace Go.Proofs.Ytbgedbahabbanaa.machChecks
open Go.ChangeShapes Go.WideShapes Go.ChangeAt Go.RowKit Ir
open Go.ChangeMaps (open_string shut_string)
set_option linter.unusedVariables false

theorem own : ownKnob Try.prog.godebug = none := by kernel_rfl
theorem laidOut : laidOutB Try.prog = true := by kernel_rfl

theorem getD0 {l : List Blk} (h : 0 < l.length) : l.getD 0 Blk.zero ∈ l := by simp [h]
theorem T41keeps {w : World} {g : Nat} {cs : Array Value} (h : w.heap[g]? = some (Obj.cells cs 24 (0, 0))) (off : Nat) (u : Value) : Keeps T41 w (w.setCell ⟨g, off, none⟩ u) := Keeps.set h rfl u
/-- Four cells of code in a box of the call's own, in a later world. -/
theorem boxC {w w1 : World} {p r s : Int} {u : Value} (hB : Below (w.alloc (.cells #[.int .i64 p, .int .i64 r, .int .i64 s, u] 24)).heap.size (w.alloc (.cells #[.int .i64 p, .int .i64 r, .int .i64 s, u] 24)) w1) :
    w1.cell? ⟨w.heap.size, 0, none⟩ = some (.int .i64 p) ∧ w1.cell? ⟨w.heap.size, 1, none⟩ = some (.int .i64 r) ∧ w1.cell? ⟨w.heap.size, 2, none⟩ = some (.int .i64 s) ∧ w1.cell? ⟨w.heap.size, 3, none⟩ = some u :=
  ⟨box_cell hB 0 rfl, box_cell hB 1 rfl, box_cell hB 2 rfl, box_cell hB 3 rfl⟩
theorem mF_args {i : Ins} {r s : Int} (h : mF i r s = 0) : i.args.length ≤ 3 := by
  unfold mF at h
  by_cases k7 : i.k = 7
  · rw [if_pos k7] at h
    have := (slF_all h).1.2.2.2
    omega
  · rw [if_neg k7] at h
    by_cases k8 : i.k = 8
    · rw [if_pos k8] at h
      have := (slF_all h).1.2.2.2
      omega
    · rw [if_neg k8] at h
      exact (inF_all (ofR_zero.1 h)).2.1
theorem code_small {D : Cod} (h : mchk D = (0, 0, 0)) : ∀ x ∈ D.bs, x.ins.length < 100000 ∧ ∀ i ∈ x.ins, i.args.length ≤ 1000000 := by
  intro x hx
  obtain ⟨_, h2⟩ := mchk_all (C := D) (by rw [h])
  obtain ⟨h3, h4, _⟩ := mbF_all (h2 x hx)
  exact ⟨by omega, fun i hi => by have := mF_args (h4 i hi); omega⟩
/-- The first block's slice of instructions is still what it was. -/
theorem first_len {B g gc nb : Nat} {w w' : World} {bs bs' : List Blk} (h : BlksO B w (.slice (some ⟨g, 0, none⟩) nb gc) bs) (h' : BlksO B w' (.slice (some ⟨g, 0, none⟩) nb gc) bs') (hk : K41 w w') (h0 : 0 < bs.length) (h0' : 0 < bs'.length) : (bs'.getD 0 Blk.zero).ins.length = (bs.getD 0 Blk.zero).ins.length := by
  obtain ⟨g1, _, cur, u0, e1, _, hg, hc, hI⟩ := blks_first h h0
  obtain ⟨g2, _, cur', u0', e2, _, hg', hc', hI'⟩ := blks_first h' h0'
  simp only [Value.slice.injEq, Option.some.injEq, Addr.mk.injEq, and_true] at e1 e2
  obtain ⟨rfl, _⟩ := e1
  obtain ⟨rfl, _⟩ := e2
  obtain ⟨cs', q1, q2⟩ := hk g cur hg
  rw [hg'] at q1
  simp only [Option.some.injEq, Obj.cells.injEq] at q1
  obtain ⟨rfl, _⟩ := q1
  rw [cell_of_row _ _ _ _ _ _ hg] at hc
  rw [cell_of_row _ _ _ _ _ _ hg', q2 0 rfl, hc] at hc'
  have e := Option.some.inj hc'
  subst e
  obtain ⟨x1, y1, s1⟩ := hI.v.slice
  obtain ⟨x2, y2, s2⟩ := hI'.v.slice
  rw [s1] at s2
  simp only [Value.slice.injEq] at s2
  exact s2.2.1.symm

set_option maxHeartbeats 8000000 in
set_option maxRecDepth 100000 in
theorem checks_walk (C : Cod) (uf : Option Addr) (cf : Nat) (sp : Value) (sa sb sc : Int) (sbs : List Int) (rg sl : Int) (mv : Value) (ms : List Int) (b k f n : Int) (w : World) (hC0 : BlksV w (.slice uf C.bs.length cf) C.bs) (hs : SpecV w sp sa sb sc sbs) (hrg : 0 ≤ rg ∧ rg < 256) (hsl : 0 ≤ sl ∧ sl < 256) (hm : Byt w mv ms) (hb : 0 ≤ b ∧ b < 256) (hk : 0 ≤ k ∧ k < 256) (hf : 0 ≤ f ∧ f < 256) :
    Calls Try.prog 3 #[.agg #[.int .i64 C.p, .int .i64 C.r, .int .i64 C.s, .slice uf C.bs.length cf], sp, .int .u8 rg, .int .u8 sl, mv, .int .u8 b, .int .u8 k, .int .u8 f, .int .i64 n] w fun r w' => r = .returned (.bool true) ∧ Below w.heap.size w w' := by
  have hs' := hs
  obtain ⟨us, rfl, hs1, hs2, hs3, hs4⟩ := hs'
  obtain ⟨ax, cx, rfl⟩ := hs4.slice
  obtain ⟨ma, mc, rfl⟩ := hm.slice
  have hBa := bel1 w (.cells #[.int .i64 C.p, .int .i64 C.r, .int .i64 C.s, .slice uf C.bs.length cf] 24)
  have hza : (w.alloc (.cells #[.int .i64 C.p, .int .i64 C.r, .int .i64 C.s, .slice uf C.bs.length cf] 24)).heap.size = w.heap.size + 1 := by simp
  have hBb := bel1 (w.alloc (.cells #[.int .i64 C.p, .int .i64 C.r, .int .i64 C.s, .slice uf C.bs.length cf] 24)) (.cells #[.int .u8 sa, .int .u8 sb, .int .u8 sc, .slice ax sbs.length cx] 27)
  have HBb := hide hBb
  have HZ := hide hza
  have hBab := hide (bel_of hBa hBb)
  have HC0 := hide ((hC0.below hBa).below hBb)
  have HS0 := hide ((hs.below hBa).below hBb)
  have HM0 := hide ((hm.below hBa).below hBb)
  clear hC0 hs hm hBa hBb hza hs1 hs2 hs3 hs4
  go_enter Try.func3, Try.ntmps3
  go_wp2_with fail
  refine (awake_any _).mono ?_
  rintro r w1 ⟨rfl, hB1⟩
  obtain ⟨a0, a1, a2, a3⟩ := boxC (bel_of HBb.out hB1)
  have hsx := boxS hB1
  rw [HZ.out] at hsx
  have HSX := hide hsx
  have HC1 := hide (HC0.out.below hB1)
  have HS1 := hide (HS0.out.below hB1)
  have HM1 := hide (HM0.out.below hB1)
  have hBw1 := hide (bel_of hBab.out hB1)
  have hL := hide (long_any _ C.bs w1 HC1.out)
  have A := hide (And.intro a0 (And.intro a1 (And.intro a2 a3)))
  clear hB1 HBb HC0 HS0 HM0 hBab HZ a0 a1 a2 hsx
  go_wp2_with fail
  refine hL.out.mono ?_
  rintro r w2 ⟨⟨c, rfl⟩, hB2⟩
  have HC2 := hide (HC1.out.below hB2)
  have hBw2 := hide (bel_of hBw1.out hB2)
  have HB2 := hide hB2
  have s0 := cell_below hB2 HSX.out.1
  have s1 := cell_below hB2 HSX.out.2.1
  have s2 := cell_below hB2 HSX.out.2.2.1
  have s3 := cell_below hB2 HSX.out.2.2.2
  have hMd := hide (made5_any _ sa sb sc sbs rg sl _ ms w2 (HS1.out.below hB2) hrg hsl (HM1.out.below hB2))
  clear hL hB2 HC1 HS1 HM1 hBw1 a3 HSX
  cases c with
  | true =>
    go_wp2_with fail
    go_ret
    exact ⟨rfl, hBw2.out⟩
  | false =>
    go_wp2_with fail
    refine hMd.out.mono ?_
    rintro r w3 ⟨D, u, rfl, hO3, hck, hsm, hB3⟩
    clear hMd s0 s1 s2 s3
    have hlen : 1 ≤ D.bs.length ∧ D.bs.length ≤ 16 := by
      have hsz := (mchk_all (C := D) (by rw [hck])).1
      simp only [msz, decide_eq_true_eq] at hsz
      omega
    obtain ⟨g, gc, rfl⟩ : ∃ g gc, u = .slice (some ⟨g, 0, none⟩) D.bs.length gc := by
      obtain ⟨ps, hps, hown, _⟩ := hO3
      have hpl : ps.length = D.bs.length := by rw [← hps, List.length_map]
      obtain ⟨g, c, cs, h1, _⟩ := row_get hown (by omega)
      exact ⟨g, c, by rw [h1, hpl]⟩
    have hBx := bel1 w3 (.cells #[.int .i64 D.p, .int .i64 D.r, .int .i64 D.s, .slice (some ⟨g, 0, none⟩) D.bs.length gc] 24)
    have hr4 : (w3.alloc (.cells #[.int .i64 D.p, .int .i64 D.r, .int .i64 D.s, .slice (some ⟨g, 0, none⟩) D.bs.length gc] 24)).heap[w3.heap.size]? = some (Obj.cells (rowC D.p D.r D.s (.slice (some ⟨g, 0, none⟩) D.bs.length gc)) 24 (0, 0)) := heap_alloc_new w3 _
    have hB24 := bel_of hB3 hBx
    have HB24 := hide hB24
    have HO4 := hide (hO3.below hBx)
    have HR4 := hide hr4
    have HCK := hide hck
    have HSM : Hid ((D.bs.getD 0 Blk.zero).ins.length ≤ 100) := hsm _ (getD0 (by omega))
    have hBw4 := hide (bel_of hBw2.out hB24)
    have hg2B : w.heap.size ≤ w3.heap.size := Nat.le_trans hBw2.out.size hB3.size
    have hBgw : w2.heap.size ≤ g := (hO3.row).1
    clear hO3 hck hsm hB3 hBx hr4 hB24
    go_wp2_with fail
    refine r36_ok (wd := w3.alloc (.cells #[.int .i64 D.p, .int .i64 D.r, .int .i64 D.s, .slice (some ⟨g, 0, none⟩) D.bs.length gc] 24)) (g1 := w.heap.size) (g2 := w3.heap.size) (C := C) (D := D) (uc := .slice uf C.bs.length cf) (ud := .slice (some ⟨g, 0, none⟩) D.bs.length gc) rfl rfl rfl (HC2.out.below HB24.out) (cell_below (bel_of HB2.out HB24.out) A.out.1) (cell_below (bel_of HB2.out HB24.out) A.out.2.1) (cell_below (bel_of HB2.out HB24.out) A.out.2.2.1) (cell_below (bel_of HB2.out HB24.out) A.out.2.2.2) HO4.out.v (rowC_cells HR4.out).1 (rowC_cells HR4.out).2.1 (rowC_cells HR4.out).2.2.1 (rowC_cells HR4.out).2.2.2 HCK.out ?_
    intro q6 W5 hq6 hb5
    have HO5 := hide (HO4.out.below hb5)
    have HR5 : Hid (W5.heap[w3.heap.size]? = some (Obj.cells (rowC D.p D.r D.s (.slice (some ⟨g, 0, none⟩) D.bs.length gc)) 24 (0, 0))) := Keeps.below (T := fun _ => true) hb5 _ _ _ _ rfl HR4.out
    have hBw5 := hide (bel_of hBw4.out hb5)
    have hsz5 : w2.heap.size ≤ W5.heap.size := Nat.le_trans HB24.out.size hb5.size
    have hT := hide (turn_any w2.heap.size _ D.bs b k f n W5 HO5.out hsz5 hb.1 hb.2 hk.1 hk.2 hf.1 (code_small HCK.out))
    have n3 := (rowC_cells HR5.out).2.2.2
    clear hb5 HO4 HR4 hBw4 HC2 A HB2 HB24
    simp [overlay, dstsOf, ops36, hq6]
    go_wp2_with fail
    refine hT.out.mono ?_
    rintro r w6 ⟨rfl, hSf, hB6, hK6, hK41⟩
    obtain ⟨bs', hbl, hO6⟩ := HO5.out.soft hSf
    have hfl := first_len HO5.out hO6 hK41 (by omega) (by omega)
    have HR6 : Hid (w6.heap[w3.heap.size]? = some (Obj.cells (rowC D.p D.r D.s (.slice (some ⟨g, 0, none⟩) D.bs.length gc)) 24 (0, 0))) := hK6 _ _ _ _ rfl HR5.out
    have hBw6 := hide (hBw5.out.trans (hB6.mono hBw2.out.size))
    have HO6 := hide hO6
    have HFL : Hid ((bs'.getD 0 Blk.zero).ins.length ≤ 100) := by show _ ≤ _; rw [hfl]; exact HSM.out
    have hsz6 : w2.heap.size ≤ w6.heap.size := Nat.le_trans hsz5 hB6.size
    clear hT hSf hB6 hK6 hK41 hO6 hfl HO5 HR5 hBw5 n3 HSM
    go_wp2_with fail
    refine r39_ok (wd := w6) (g2 := w3.heap.size) (D := ⟨D.p, D.r, D.s, bs'⟩) (ud := .slice (some ⟨g, 0, none⟩) D.bs.length gc) rfl rfl HO6.out.v (rowC_cells HR6.out).1 (rowC_cells HR6.out).2.1 (rowC_cells HR6.out).2.2.1 (rowC_cells HR6.out).2.2.2 ?_
    intro q9 W9 hq9 hb9
    have HO9 := hide (HO6.out.below hb9)
    have HR9 : Hid (W9.heap[w3.heap.size]? = some (Obj.cells (rowC D.p D.r D.s (.slice (some ⟨g, 0, none⟩) D.bs.length gc)) 24 (0, 0))) := Keeps.below (T := fun _ => true) hb9 _ _ _ _ rfl HR6.out
    have hBw9 := hide (bel_of hBw6.out hb9)
    have hsz9 : w2.heap.size ≤ W9.heap.size := Nat.le_trans hsz6 hb9.size
    clear hb9 HO6 HR6 hBw6 hsz6 hsz5
    simp [overlay, dstsOf, ops39, hq9]
    generalize w3.heap.size = g2 at *
    have hf4 : f.tmod 4 = f % 4 := Int.tmod_eq_emod_of_nonneg hf.1
    have hfr : f % 4 = 0 ∨ f % 4 = 1 ∨ f % 4 = 2 ∨ f % 4 = 3 := by omega
    rcases hfr with h0 | h0 | h0 | h0
    · rw [h0] at hf4
      have hcell : W9.cell? ⟨g2, 1, none⟩ = some (.int .i64 D.r) := (rowC_cells HR9.out).2.1
      have hfz := frozen_of_row _ _ 1 _ _ HR9.out
      have hset : (W9.setCell ⟨g2, 1, none⟩ (.int .i64 n)).heap[g2]? = some (Obj.cells (rowC D.p n D.s (.slice (some ⟨g, 0, none⟩) D.bs.length gc)) 24 (0, 0)) := heap_setCell_same W9 g2 1 _ _ _ HR9.out
      have HV := hide (HO9.out.keeps (T41keeps HR9.out 1 (.int .i64 n))).v
      have HBW := hide (hBw9.out.setCell (p := ⟨g2, 1, none⟩) hg2B (.int .i64 n))
      obtain ⟨c0, c1, c2, c3⟩ := rowC_cells hset
      clear hset
      go_wp2_with fail
      refine r322_ok (wd := W9.setCell ⟨g2, 1, none⟩ (.int .i64 n)) (g2 := g2) (D := ⟨D.p, n, D.s, bs'⟩) (ud := .slice (some ⟨g, 0, none⟩) D.bs.length gc) rfl rfl HV.out c0 c1 c2 c3 ?_
      intro q22 W22 hq22 hb22
      have hBf := bel_of HBW.out hb22
      clear hb22
      simp [overlay, dstsOf, ops322, hq22]
      go_wp2
      go_ret
      exact ⟨rfl, hBf⟩
    · rw [h0] at hf4
      have hcell : W9.cell? ⟨g2, 2, none⟩ = some (.int .i64 D.s) := (rowC_cells HR9.out).2.2.1
      have hfz := frozen_of_row _ _ 2 _ _ HR9.out
      have hset : (W9.setCell ⟨g2, 2, none⟩ (.int .i64 n)).heap[g2]? = some (Obj.cells (rowC D.p D.r n (.slice (some ⟨g, 0, none⟩) D.bs.length gc)) 24 (0, 0)) := heap_setCell_same W9 g2 2 _ _ _ HR9.out
      have HV := hide (HO9.out.keeps (T41keeps HR9.out 2 (.int .i64 n))).v
      have HBW := hide (hBw9.out.setCell (p := ⟨g2, 2, none⟩) hg2B (.int .i64 n))
      obtain ⟨c0, c1, c2, c3⟩ := rowC_cells hset
      clear hset
      go_wp2_with fail
      refine r322_ok (wd := W9.setCell ⟨g2, 2, none⟩ (.int .i64 n)) (g2 := g2) (D := ⟨D.p, D.r, n, bs'⟩) (ud := .slice (some ⟨g, 0, none⟩) D.bs.length gc) rfl rfl HV.out c0 c1 c2 c3 ?_
      intro q22 W22 hq22 hb22
      have hBf := bel_of HBW.out hb22
      clear hb22
      simp [overlay, dstsOf, ops322, hq22]
      go_wp2
      go_ret
      exact ⟨rfl, hBf⟩
    · rw [h0] at hf4
      have hcell : W9.cell? ⟨g2, 0, none⟩ = some (.int .i64 D.p) := (rowC_cells HR9.out).1
      have hfz := frozen_of_row _ _ 0 _ _ HR9.out
      have hset : (W9.setCell ⟨g2, 0, none⟩ (.int .i64 n)).heap[g2]? = some (Obj.cells (rowC n D.r D.s (.slice (some ⟨g, 0, none⟩) D.bs.length gc)) 24 (0, 0)) := heap_setCell_same W9 g2 0 _ _ _ HR9.out
      have HV := hide (HO9.out.keeps (T41keeps HR9.out 0 (.int .i64 n))).v
      have HBW := hide (hBw9.out.setCell (p := ⟨g2, 0, none⟩) hg2B (.int .i64 n))
      obtain ⟨c0, c1, c2, c3⟩ := rowC_cells hset
      clear hset
      go_wp2_with fail
      refine r322_ok (wd := W9.setCell ⟨g2, 0, none⟩ (.int .i64 n)) (g2 := g2) (D := ⟨n, D.r, D.s, bs'⟩) (ud := .slice (some ⟨g, 0, none⟩) D.bs.length gc) rfl rfl HV.out c0 c1 c2 c3 ?_
      intro q22 W22 hq22 hb22
      have hBf := bel_of HBW.out hb22
      clear hb22
      simp [overlay, dstsOf, ops322, hq22]
      go_wp2
      go_ret
      exact ⟨rfl, hBf⟩
    · rw [h0] at hf4
      obtain ⟨bn, hbn⟩ : ∃ bn : Nat, (bn : Int) = b := ⟨b.toNat, by omega⟩
      subst hbn
      obtain ⟨g', cap', cur, u0, hxe, _, hgr, hcell0, hI0⟩ := blks_first HO9.out (by omega)
      simp only [Value.slice.injEq, Option.some.injEq, Addr.mk.injEq, and_true] at hxe
      obtain ⟨rfl, _, rfl⟩ := hxe
      have HREL : Hid (∃ (i : Nat) (u0 : Value) (is : List Ins), i ≤ bn ∧ (.int .u8 0 : Value) = .int .u8 i ∧ S14 w2.heap.size g2 g D.bs.length gc D.p D.r D.s u0 is W9 (fun _ => false) W9 ∧ is.length ≤ 100 + 2 * i) :=
        ⟨0, u0, _, by omega, rfl, ⟨HR9.out, ⟨_, hgr⟩, fun _ => hcell0, fun _ => hI0, fun h => by simp at h, fun k e => (hI0.ownlt k e).2.1, Soft.refl _ _, Below.refl _ _, hsz9⟩, by have := HFL.out; omega⟩
      have hbn' : (bn : Int) < 256 := hb.2
      clear hgr hcell0 hI0 HFL
      go_wp2_with fail
      go_loopw [56] (fun iv wr => ∃ (i : Nat) (u0 : Value) (is : List Ins), i ≤ bn ∧ iv = .int .u8 i ∧ S14 w2.heap.size g2 g D.bs.length gc D.p D.r D.s u0 is W9 (fun _ => false) wr ∧ is.length ≤ 100 + 2 * i) (fun iv _ => bn - (intOf iv).toNat)
      case atStart => exact HREL.out
      case round =>
        rename World => ws
        obtain ⟨i, u0, is, hi, rfl, hS14, hisl⟩ := hrel
        by_cases hlt : i < bn
        · have hlt' : (i : Int) < (bn : Int) := by omega
          have HS14 := hide hS14
          clear hS14
          go_wp2_with fail
          refine r314_ok (wd := ws) (w0 := W9) (B := w2.heap.size) (ph := g2) (g := g) (nb := D.bs.length) (cap := gc) (p := D.p) (r := D.r) (s := D.s) (u0 := u0) (is := is) rfl rfl HS14.out (by omega) (by omega) hBgw ?_
          intro q14 W14 u14 hS14
          have hl14 : (is ++ [iF, iC]).length ≤ 100 + 2 * (i + 1) := by simp; omega
          simp [overlay, dstsOf, ops314]
          have HS15 := hide hS14
          clear hS14 HS14
          go_wp2_with fail
          go_roundw
          case rel => exact ⟨i + 1, u14, _, by omega, by go_num, HS15.out, hl14⟩
          case measure => simp [intOf]; omega
        · obtain rfl : i = bn := by omega
          obtain ⟨bs2, hbl2, hO14⟩ := HO9.out.soft hS14.soft
          have HV := hide hO14.v
          obtain ⟨c0, c1, c2, c3⟩ := rowC_cells hS14.fld
          have HBW := hide (hBw9.out.trans (hS14.below.mono hBw2.out.size))
          clear hS14 hO14
          go_wp2_with fail
          refine r322_ok (wd := ws) (g2 := g2) (D := ⟨D.p, D.r, D.s, bs2⟩) (ud := .slice (some ⟨g, 0, none⟩) D.bs.length gc) rfl rfl HV.out c0 c1 c2 c3 ?_
          intro q22 W22 hq22 hb22
          have hBf := bel_of HBW.out hb22
          clear hb22
          simp [overlay, dstsOf, ops322, hq22]
          go_wp2
          go_ret
          exact ⟨rfl, hBf⟩

theorem walk {H : Type} {enc : TypeId × Value → H} (W : World) (base : Nat) (v0 v1 v2 v3 v4 v5 v6 v7 v8 : Value) {d0 d1 d2 d3 d4 d5 d6 d7 d8 : DataW H} {p0 p1 p2 p3 p4 p5 p6 p7 p8 : List MemPlace} (o0 : Value.okWide Try.prog W .any base 24 v0) (k0 : DataW.Trod enc Try.prog W 0 (fun _ => true) true 24 v0 d0 p0) (o1 : Value.okWide Try.prog W .any base 27 v1) (k1 : DataW.Trod enc Try.prog W 0 (fun _ => true) true 27 v1 d1 p1) (o2 : Value.okWide Try.prog W .any base 5 v2) (k2 : DataW.Trod enc Try.prog W 0 (fun _ => true) true 5 v2 d2 p2) (o3 : Value.okWide Try.prog W .any base 5 v3) (k3 : DataW.Trod enc Try.prog W 0 (fun _ => true) true 5 v3 d3 p3) (o4 : Value.okWide Try.prog W .any base 25 v4) (k4 : DataW.Trod enc Try.prog W 0 (fun _ => true) true 25 v4 d4 p4) (o5 : Value.okWide Try.prog W .any base 5 v5) (k5 : DataW.Trod enc Try.prog W 0 (fun _ => true) true 5 v5 d5 p5) (o6 : Value.okWide Try.prog W .any base 5 v6) (k6 : DataW.Trod enc Try.prog W 0 (fun _ => true) true 5 v6 d6 p6) (o7 : Value.okWide Try.prog W .any base 5 v7) (k7 : DataW.Trod enc Try.prog W 0 (fun _ => true) true 5 v7 d7 p7) (o8 : Value.okWide Try.prog W .any base 3 v8) (k8 : DataW.Trod enc Try.prog W 0 (fun _ => true) true 3 v8 d8 p8) :
    Calls Try.prog 3 #[v0, v1, v2, v3, v4, v5, v6, v7, v8] W fun e w' => e = .returned (.bool true) ∧ Below W.heap.size W w' := by
  obtain ⟨C, uf0, rfl, hC⟩ := cod_in o0 k0
  obtain ⟨uf, cf, rfl⟩ := hC.slice
  obtain ⟨sa, sb, sc, sbs, hs⟩ := spec_in o1 k1
  obtain ⟨rg, rfl, hr0, hr1⟩ := byte_in o2 k2
  obtain ⟨sl, rfl, hl0, hl1⟩ := byte_in o3 k3
  obtain ⟨ms, hm⟩ := byts_in o4 k4
  obtain ⟨b, rfl, hb⟩ := byte_in o5 k5
  obtain ⟨k, rfl, hk⟩ := byte_in o6 k6
  obtain ⟨f, rfl, hf⟩ := byte_in o7 k7
  obtain ⟨n, rfl, _⟩ := i64_in o8 k8
  exact checks_walk C uf cf v1 sa sb sc sbs rg sl v4 ms b k f n W hC hs ⟨hr0, hr1⟩ ⟨hl0, hl1⟩ hm hb hk hf

set_option maxRecDepth 100000 in
theorem lifted (os : Os) (started : os.Started) (H : Type) (enc : TypeId × Value → H) :
    ReturnsInHanded {} Try.checked os 3 .any (Rows.machChecksSpec.pre6 enc Try.prog Try.f3 Rows.machChecksRow.domain false) (Rows.machChecksSpec.post enc Try.prog Try.f3 false true false false) := by
  refine returnsInHanded_of_change (C := Try.checked) own started (by kernel_rfl) Try.func3
    (ChangeSpec.witness6 (enc := enc) (C := Try.checked) false ⟨#[], #[.agg #[.int .i64 0, .int .i64 0, .int .i64 0, .slice none 0 0], .agg #[.int .u8 0, .int .u8 0, .int .u8 0, .slice none 0 0], .int .u8 0, .int .u8 0, .slice none 0 0, .int .u8 0, .int .u8 0, .int .u8 0, .int .i64 0], []⟩ 8 (by kernel_rfl) (by kernel_rfl) (by kernel_rfl) (by kernel_rfl)) ?_
  intro W base args ds gs before hval0 hW hcnd _
  have hval : ∀ (j : Nat) t v, Try.f3.params[j]? = some t → args[j]? = some v → Value.okWide Try.prog W .any base t v := hval0
  have hW' := hW
  obtain ⟨p, q, hA0, hV, rfl, hfz, hnd⟩ := hW
  have hA : DataW.TrodAll enc Try.prog W 0 (fun _ => true) true Try.f3.params.toList args.toList ds p := hA0
  rw [Try.params3] at hA hval
  obtain ⟨v0, vs0, d0, ds0, p0, q0, hargs, rfl, rfl, h0, r0⟩ := trodAll_cons hA
  obtain ⟨v1, vs1, d1, ds1, p1, q1, rfl, rfl, rfl, h1, r1⟩ := trodAll_cons r0
  obtain ⟨v2, vs2, d2, ds2, p2, q2, rfl, rfl, rfl, h2, r2⟩ := trodAll_cons r1
  obtain ⟨v3, vs3, d3, ds3, p3, q3, rfl, rfl, rfl, h3, r3⟩ := trodAll_cons r2
  obtain ⟨v4, vs4, d4, ds4, p4, q4, rfl, rfl, rfl, h4, r4⟩ := trodAll_cons r3
  obtain ⟨v5, vs5, d5, ds5, p5, q5, rfl, rfl, rfl, h5, r5⟩ := trodAll_cons r4
  obtain ⟨v6, vs6, d6, ds6, p6, q6, rfl, rfl, rfl, h6, r6⟩ := trodAll_cons r5
  obtain ⟨v7, vs7, d7, ds7, p7, q7, rfl, rfl, rfl, h7, r7⟩ := trodAll_cons r6
  obtain ⟨v8, vs8, d8, ds8, p8, q8, rfl, rfl, rfl, h8, r8⟩ := trodAll_cons r7
  obtain ⟨rfl, rfl, rfl⟩ := trodAll_nil r8
  obtain rfl : args = #[v0, v1, v2, v3, v4, v5, v6, v7, v8] := by cases args; simp_all
  obtain ⟨rfl, rfl⟩ := trodVars_none hV
  have lt0 : ∀ x ∈ p0, x.block < W.heap.size := by obtain ⟨m, hm⟩ := h0; exact DataW.trod_lt m _ _ _ hm
  have lt1 : ∀ x ∈ p1, x.block < W.heap.size := by obtain ⟨m, hm⟩ := h1; exact DataW.trod_lt m _ _ _ hm
  have lt2 : ∀ x ∈ p2, x.block < W.heap.size := by obtain ⟨m, hm⟩ := h2; exact DataW.trod_lt m _ _ _ hm
  have lt3 : ∀ x ∈ p3, x.block < W.heap.size := by obtain ⟨m, hm⟩ := h3; exact DataW.trod_lt m _ _ _ hm
  have lt4 : ∀ x ∈ p4, x.block < W.heap.size := by obtain ⟨m, hm⟩ := h4; exact DataW.trod_lt m _ _ _ hm
  have lt5 : ∀ x ∈ p5, x.block < W.heap.size := by obtain ⟨m, hm⟩ := h5; exact DataW.trod_lt m _ _ _ hm
  have lt6 : ∀ x ∈ p6, x.block < W.heap.size := by obtain ⟨m, hm⟩ := h6; exact DataW.trod_lt m _ _ _ hm
  have lt7 : ∀ x ∈ p7, x.block < W.heap.size := by obtain ⟨m, hm⟩ := h7; exact DataW.trod_lt m _ _ _ hm
  have lt8 : ∀ x ∈ p8, x.block < W.heap.size := by obtain ⟨m, hm⟩ := h8; exact DataW.trod_lt m _ _ _ hm
  refine (walk W base v0 v1 v2 v3 v4 v5 v6 v7 v8 (hval 0 24 v0 rfl rfl) h0 (hval 1 27 v1 rfl rfl) h1 (hval 2 5 v2 rfl rfl) h2 (hval 3 5 v3 rfl rfl) h3 (hval 4 25 v4 rfl rfl) h4 (hval 5 5 v5 rfl rfl) h5 (hval 6 5 v6 rfl rfl) h6 (hval 7 5 v7 rfl rfl) h7 (hval 8 3 v8 rfl rfl) h8).mono fun e W' ⟨he, bel⟩ => ?_
  subst he
  exact ⟨_, rfl, _, _, _, [], _, [], hW', trodAll_mk1 (shut_bool Try.underlying4 _), (trodAll_cons_mk (Below.trod laidOut (by kernel_rfl) (of_decide_eq_true (by kernel_rfl)) h0 bel lt0) (trodAll_cons_mk (Below.trod laidOut (by kernel_rfl) (of_decide_eq_true (by kernel_rfl)) h1 bel lt1) (trodAll_cons_mk (Below.trod laidOut (by kernel_rfl) (of_decide_eq_true (by kernel_rfl)) h2 bel lt2) (trodAll_cons_mk (Below.trod laidOut (by kernel_rfl) (of_decide_eq_true (by kernel_rfl)) h3 bel lt3) (trodAll_cons_mk (Below.trod laidOut (by kernel_rfl) (of_decide_eq_true (by kernel_rfl)) h4 bel lt4) (trodAll_cons_mk (Below.trod laidOut (by kernel_rfl) (of_decide_eq_true (by kernel_rfl)) h5 bel lt5) (trodAll_cons_mk (Below.trod laidOut (by kernel_rfl) (of_decide_eq_true (by kernel_rfl)) h6 bel lt6) (trodAll_cons_mk (Below.trod laidOut (by kernel_rfl) (of_decide_eq_true (by kernel_rfl)) h7 bel lt7) (trodAll_cons_mk (Below.trod laidOut (by kernel_rfl) (of_decide_eq_true (by kernel_rfl)) h8 bel lt8) trodAll_mk0))))))))), rfl, bel.frame _, fun h => by cases h⟩

theorem over : Rows.machChecksRow.holds Try.pinned (OpenSpec.ofChange Rows.machChecksSpec) :=
  OpenClaim.holds_of_wide 3 Try.f3 rfl rfl rfl rfl rfl rfl rfl ⟨rfl, rfl, rfl, rfl, rfl⟩ rfl rfl rfl rfl rfl (by kernel_rfl) Try.func3 (by kernel_rfl)
    (of_decide_eq_true (by kernel_rfl)) (by unfold Func.isWrapper; first | (rw [if_pos (by decide +kernel)]; kernel_rfl) | (rw [if_neg (by decide +kernel)]; exact ⟨rfl, rfl⟩))
    (fun os started H enc _ => lifted os started H enc)

end Go.Proofs.Ytbgedbahabbanaa.machChecks
namespace Go.Proofs.Ytbgedbahabbanaa
theorem machChecks_holds : Rows.MachChecksSaid := machChecks.over
#print axioms machChecks_holds
end Go.Proofs.Ytbgedbahabbanaa
