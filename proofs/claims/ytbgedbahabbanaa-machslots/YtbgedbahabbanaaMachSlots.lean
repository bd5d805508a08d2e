/- MachSlots: P5.1: a spill and a fill are taken just of a register and a slot that there are. -/
import Derived.Test.YtbgedbahabbanaaRows
import Derived.WalkKit
import Derived.ProofKit
import Derived.OpenShut
import Derived.ShutString
import Derived.ChangeOld
import Derived.Below
import Derived.Test.YtbgedbahabbanaaAwake
import Derived.Test.YtbgedbahabbanaaOpen
import Derived.Test.YtbgedbahabbanaaMd5
import Derived.Test.YtbgedbahabbanaaSl6
namespace Go.Proofs.Ytbgedbahabbanaa.machSlots
open Go.ChangeShapes Go.WideShapes Go.ChangeAt Go.RowKit Ir
open Go.ChangeMaps (open_string shut_string)
set_option linter.unusedVariables false

theorem own : ownKnob Try.prog.godebug = none := by kernel_rfl
theorem laidOut : laidOutB Try.prog = true := by kernel_rfl

theorem bool_in {H : Type} {enc : TypeId × Value → H} {W : World} {base : Nat} {v : Value} {d : DataW H} {p : List MemPlace} (o : Value.okWide Try.prog W .any base 4 v) (k : DataW.Trod enc Try.prog W 0 (fun _ => true) true 4 v d p) : ∃ b : Bool, v = .bool b := okWide_bool Try.underlying4 o
theorem slots_fin {B B0 g gc : Nat} {C : Cod} {w w2 w4 W1 : World} {is : List Ins} {e : En} {bl : List Blk} {ps : List (Ins × Value)} {X : Ins} {v : Value} (hO : BlksO B w2 (.slice (some ⟨g, 0, none⟩) C.bs.length gc) C.bs) (hbs : C.bs = ⟨is, e⟩ :: bl) (hb4 : Below w2.heap.size w2 w4) (hr3 : w4.heap[w2.heap.size]? = some (Obj.cells (rowC C.p C.r C.s (.slice (some ⟨g, 0, none⟩) C.bs.length gc)) 24 (0, 0))) (hlen0 : B0 ≤ B ∧ B ≤ w2.heap.size) (hps : ps.map (·.1) = is) (hargs : ∀ q ∈ ps, ArgsO B w2 q.2 q.1.args) (hXa : X.args = []) (hb : Below w4.heap.size w4 W1)
    (hv : W1.ownsRow w4.heap.size 46 7 v ([(X, Value.slice none 0 0)] ++ ps).length (cellsI ([(X, Value.slice none 0 0)] ++ ps))) (hw : Below B0 w w2) :
    BlksV (W1.setCell ⟨g, 0, none⟩ v) (.slice (some ⟨g, 0, none⟩) C.bs.length gc) (⟨X :: is, e⟩ :: bl) ∧ (W1.setCell ⟨g, 0, none⟩ v).heap[w2.heap.size]? = some (Obj.cells (rowC C.p C.r C.s (.slice (some ⟨g, 0, none⟩) C.bs.length gc)) 24 (0, 0)) ∧ Below B0 w (W1.setCell ⟨g, 0, none⟩ v) := by
  have hb2 := bel_of hb4 hb
  have hO1 := hO.below hb2
  have hI : InssO B W1 v (X :: is) := by
    refine ⟨[(X, Value.slice none 0 0)] ++ ps, by simp [hps], owns_mono hv (Nat.le_trans hlen0.2 hb4.size), fun q hq => ?_⟩
    rcases List.mem_append.1 hq with hq | hq
    · simp at hq
      subst hq
      simp only [hXa]
      exact ArgsO.nil _ _
    · exact (hargs q hq).keeps (Keeps.below hb2)
  obtain ⟨hBg, cs, hcs⟩ := hO1.row
  have hk : Keeps (fun t => t == 24) W1 (W1.setCell ⟨g, 0, none⟩ v) := Keeps.set hcs rfl v
  have hP := hO1.put 0 (by rw [hbs]; simp) hI
  refine ⟨?_, hk _ _ _ _ rfl (Keeps.below (T := fun _ => true) hb _ _ _ _ rfl hr3), (hw.trans (hb2.mono (Nat.le_trans hlen0.1 hlen0.2))).setCell (p := ⟨g, 0, none⟩) (Nat.le_trans hlen0.1 hBg) v⟩
  have hset : C.bs.set 0 ⟨X :: is, (C.bs[0]'(by rw [hbs]; simp)).e⟩ = ⟨X :: is, e⟩ :: bl := by simp [hbs]
  have hPv := hP.v
  rw [hset] at hPv
  exact hPv

set_option maxHeartbeats 8000000 in
set_option maxRecDepth 100000 in
theorem slots_walk (sp : Value) (sa sb sc : Int) (sbs : List Int) (rg sl reg slot : Int) (fill : Bool) (w : World) (hs : SpecV w sp sa sb sc sbs) (hrg : 0 ≤ rg ∧ rg < 256) (hsl : 0 ≤ sl ∧ sl < 256) :
    Calls Try.prog 6 #[sp, .int .u8 rg, .int .u8 sl, .int .i64 reg, .int .i64 slot, .bool fill] w fun r w' => r = .returned (.bool true) ∧ Below w.heap.size w w' := by
  have hs' := hs
  obtain ⟨us, rfl, hs1, hs2, hs3, hs4⟩ := hs'
  obtain ⟨ax, cx, rfl⟩ := hs4.slice
  have hBa := bel1 w (.cells #[.int .u8 sa, .int .u8 sb, .int .u8 sc, .slice ax sbs.length cx] 27)
  have HBa := hide hBa
  have HS0 := hide (hs.below hBa)
  clear hs hBa hs1 hs2 hs3 hs4
  go_enter Try.func6, Try.ntmps6
  go_wp2_with fail
  refine (awake_any _).mono ?_
  rintro r w1 ⟨rfl, hB1⟩
  obtain ⟨s0, s1, s2, s3⟩ := boxS hB1
  have hM := hide (made5_any _ sa sb sc sbs rg sl (.slice none 0 0) [] w1 (HS0.out.below hB1) hrg hsl SlV.nil)
  have hBw1 := bel_of HBa.out hB1
  clear HS0 hB1 HBa
  go_wp2_with fail
  refine hM.out.mono ?_
  rintro r w2 ⟨C, u, rfl, hO2, hck, hsm, hB2⟩
  clear hM s0 s1 s2 s3
  obtain ⟨hsz, hall⟩ := mchk_all (C := C) (by rw [hck])
  have hlen : 1 ≤ C.bs.length ∧ C.bs.length ≤ 16 := by simp only [msz, decide_eq_true_eq] at hsz; omega
  obtain ⟨is, e, bl, hbs⟩ : ∃ is e bl, C.bs = ⟨is, e⟩ :: bl := by
    cases hb : C.bs with
    | nil => rw [hb] at hlen; simp at hlen
    | cons b bl => exact ⟨b.ins, b.e, bl, rfl⟩
  have hisl : is.length ≤ 100 := by
    have := hsm ⟨is, e⟩ (by rw [hbs]; simp)
    exact this
  obtain ⟨g, gc, rfl⟩ : ∃ g gc, u = .slice (some ⟨g, 0, none⟩) C.bs.length gc := by
    obtain ⟨ps, hps, hown, _⟩ := hO2
    have hpl : ps.length = C.bs.length := by rw [← hps, List.length_map]
    obtain ⟨g, c, cs, h1, _⟩ := row_get hown (by omega)
    exact ⟨g, c, by rw [h1, hpl]⟩
  obtain ⟨ui, hbc, hio⟩ := hO2.at 0 (by omega)
  have hb0 : C.bs[0]'(by omega) = ⟨is, e⟩ := by simp [hbs]
  rw [hb0] at hbc hio
  obtain ⟨ps, hps, hown, hargs⟩ := hio
  have hpl : ps.length ≤ 100 := by
    have h1 := congrArg List.length hps
    rw [List.length_map] at h1
    simp only at h1
    omega
  obtain ⟨ua, ci, hui, hsrc⟩ : ∃ ua ci, ui = .slice ua ps.length ci ∧ SrcI w2 (.slice ua ps.length ci) ps := by
    rcases hown.2 with ⟨rfl, h0⟩ | ⟨g', cap', cur', rfl, _⟩
    · exact ⟨none, 0, by rw [h0], .inl ⟨by rw [h0], List.eq_nil_of_length_eq_zero h0⟩⟩
    · exact ⟨_, _, rfl, .inr ⟨_, _, rfl, fun k u hk => hown.cells (g := g') rfl k u hk⟩⟩
  subst hui
  have hc0 : w2.cell? ⟨g, 0, none⟩ = some (.slice ua ps.length ci) := hbc.c0
  have HSRC := hide hsrc
  have HSL : Hid (∀ p ∈ ps, ∃ a n c, p.2 = .slice a n c) := fun p hp => by
    obtain ⟨q1, q2, q3⟩ := (hargs p hp).v.slice
    exact ⟨_, _, _, q3⟩
  have HARGS := hide hargs
  have HPS := hide hps
  have HBS := hide hbs
  have HCK : Hid ((mchk C).1 = 0) := by show _ = _; rw [hck]
  have HB2 := hide (bel_of hBw1 hB2)
  have hB2s := hB2.size
  have hBw1s := hBw1.size
  clear hsz hall hown hargs hps hbs hck hsm hbc hsrc hB2 hb0 hBw1 hrg hsl
  cases fill with
  | false =>
    have hbx := bel2 w2 (.cells #[.int .i64 C.p, .int .i64 C.r, .int .i64 C.s, .slice (some ⟨g, 0, none⟩) C.bs.length gc] 24) (.cells #[.int .u8 7, .int .u8 0, .int .i64 slot, .int .i64 reg, .int .i64 0, .int .i64 0, .slice none 0 0] 46)
    have hr3 : ((w2.alloc (.cells #[.int .i64 C.p, .int .i64 C.r, .int .i64 C.s, .slice (some ⟨g, 0, none⟩) C.bs.length gc] 24)).alloc (.cells #[.int .u8 7, .int .u8 0, .int .i64 slot, .int .i64 reg, .int .i64 0, .int .i64 0, .slice none 0 0] 46)).heap[w2.heap.size]? = some (Obj.cells (rowC C.p C.r C.s (.slice (some ⟨g, 0, none⟩) C.bs.length gc)) 24 (0, 0)) := by
      rw [(bel1 (w2.alloc (.cells #[.int .i64 C.p, .int .i64 C.r, .int .i64 C.s, .slice (some ⟨g, 0, none⟩) C.bs.length gc] 24)) (.cells #[.int .u8 7, .int .u8 0, .int .i64 slot, .int .i64 reg, .int .i64 0, .int .i64 0, .slice none 0 0] 46)).block _ (by simp)]
      exact heap_alloc_new w2 _
    have hr4 : ((w2.alloc (.cells #[.int .i64 C.p, .int .i64 C.r, .int .i64 C.s, .slice (some ⟨g, 0, none⟩) C.bs.length gc] 24)).alloc (.cells #[.int .u8 7, .int .u8 0, .int .i64 slot, .int .i64 reg, .int .i64 0, .int .i64 0, .slice none 0 0] 46)).heap[w2.heap.size + 1]? = some (Obj.cells (rowI ⟨7, 0, slot, reg, 0, 0, []⟩ (.slice none 0 0)) 46 (0, 0)) := by
      have h := heap_alloc_new (w2.alloc (.cells #[.int .i64 C.p, .int .i64 C.r, .int .i64 C.s, .slice (some ⟨g, 0, none⟩) C.bs.length gc] 24)) (.cells #[.int .u8 7, .int .u8 0, .int .i64 slot, .int .i64 reg, .int .i64 0, .int .i64 0, .slice none 0 0] 46)
      rw [World.size_alloc] at h
      exact h
    have HX : Hid (mF ⟨7, 0, slot, reg, 0, 0, []⟩ C.r C.s = if inr reg C.r = false then 23 else if inr slot C.s = false then 24 else 0) := by
      show _ = _
      simp [mF, slF]
    have hc3 := hide (rowC_cells hr3)
    have HR3 := hide hr3
    have HR4 := hide hr4
    have HBX := hide hbx
    clear hbx hr3 hr4
    go_wp2_with fail
    refine r67_ok (wd := (w2.alloc (.cells #[.int .i64 C.p, .int .i64 C.r, .int .i64 C.s, .slice (some ⟨g, 0, none⟩) C.bs.length gc] 24)).alloc (.cells #[.int .u8 7, .int .u8 0, .int .i64 slot, .int .i64 reg, .int .i64 0, .int .i64 0, .slice none 0 0] 46)) (pc := w2.heap.size) (pn := w2.heap.size + 1) (X := ⟨7, 0, slot, reg, 0, 0, []⟩) (ps := ps) (ua := ua) (n := ps.length) (ci := ci) rfl rfl rfl (by omega) hc3.out.2.2.2 (cell_below HBX.out hc0) (hO2.below HBX.out).row.2 (row_cells HR4.out) (HSRC.out.below HBX.out) hpl HSL.out ?_
    intro q7 W1 v7 hb7 hv7
    have hXa : (⟨7, 0, slot, reg, 0, 0, []⟩ : Ins).args = [] := rfl
    have hfin := slots_fin hO2 HBS.out HBX.out HR3.out (hlen0 := by omega) (hps := HPS.out) (hargs := HARGS.out) hXa hb7 hv7 HB2.out
    obtain ⟨f1, f2, f3⟩ := hfin
    have HV5 := hide f1
    obtain ⟨m0, m1, m2, m3⟩ := rowC_cells f2
    have HB5 := hide f3
    clear f1 f2 f3 hb7 hv7 HBX HR3 HR4 hc3 hXa
    have HMF := HX
    have HMC := hide (mchk_first (i := ⟨7, 0, slot, reg, 0, 0, []⟩) HBS.out HCK.out (by omega))
    simp [overlay, dstsOf, ops67]
    generalize W1.setCell ⟨g, 0, none⟩ v7 = W5 at *
    have a1 := cell_below (bel1 W5 (.cells #[.int .i64 0, .int .i64 0, .int .i64 0] 33)) m1
    have a2 := cell_below (bel1 W5 (.cells #[.int .i64 0, .int .i64 0, .int .i64 0] 33)) m2
    by_cases c1 : reg < 0
    · clear a1 a2
      have hcode : Hid (mchk ⟨C.p, C.r, C.s, ⟨⟨7, 0, slot, reg, 0, 0, []⟩ :: is, e⟩ :: bl⟩ = (23, 0, 0)) := by
        show _ = _
        rw [HMC.out, HMF.out]
        have hi : inr reg C.r = false := by simp [inr]; omega
        rw [if_pos hi]
      go_wp2_with fail
      have hbx := bel1 W5 (.cells #[.int .i64 23, .int .i64 0, .int .i64 0] 33)
      refine r613_ok (wd := (W5.alloc (.cells #[.int .i64 23, .int .i64 0, .int .i64 0] 33))) (pc := w2.heap.size) (pw := W5.heap.size) (C := ⟨C.p, C.r, C.s, ⟨⟨7, 0, slot, reg, 0, 0, []⟩ :: is, e⟩ :: bl⟩) (c := (23, 0, 0)) rfl rfl rfl hcode.out (HV5.out.below hbx) (cell_below hbx m0) (cell_below hbx m1) (cell_below hbx m2) (cell_below hbx m3) (box_cell (Below.refl _ _) 0 rfl) (box_cell (Below.refl _ _) 1 rfl) (box_cell (Below.refl _ _) 2 rfl) ?_
      intro q6 W6 hq6 hb6
      have hBf := bel_of (bel_of HB5.out hbx) hb6
      clear hbx hb6
      simp [overlay, dstsOf, ops613, hq6]
      go_wp2
      go_ret
      exact ⟨rfl, hBf⟩
    have c1' : 0 ≤ reg := by omega
    by_cases c2 : C.r ≤ reg
    · clear a2
      have hcode : Hid (mchk ⟨C.p, C.r, C.s, ⟨⟨7, 0, slot, reg, 0, 0, []⟩ :: is, e⟩ :: bl⟩ = (23, 0, 0)) := by
        show _ = _
        rw [HMC.out, HMF.out]
        have hi : inr reg C.r = false := by simp [inr]; omega
        rw [if_pos hi]
      go_wp2_with fail
      have hbx := bel1 W5 (.cells #[.int .i64 23, .int .i64 0, .int .i64 0] 33)
      refine r613_ok (wd := (W5.alloc (.cells #[.int .i64 23, .int .i64 0, .int .i64 0] 33))) (pc := w2.heap.size) (pw := W5.heap.size) (C := ⟨C.p, C.r, C.s, ⟨⟨7, 0, slot, reg, 0, 0, []⟩ :: is, e⟩ :: bl⟩) (c := (23, 0, 0)) rfl rfl rfl hcode.out (HV5.out.below hbx) (cell_below hbx m0) (cell_below hbx m1) (cell_below hbx m2) (cell_below hbx m3) (box_cell (Below.refl _ _) 0 rfl) (box_cell (Below.refl _ _) 1 rfl) (box_cell (Below.refl _ _) 2 rfl) ?_
      intro q6 W6 hq6 hb6
      have hBf := bel_of (bel_of HB5.out hbx) hb6
      clear hbx hb6
      simp [overlay, dstsOf, ops613, hq6]
      go_wp2
      go_ret
      exact ⟨rfl, hBf⟩
    have c2' : reg < C.r := by omega
    by_cases c3 : slot < 0
    · clear a2
      have hcode : Hid (mchk ⟨C.p, C.r, C.s, ⟨⟨7, 0, slot, reg, 0, 0, []⟩ :: is, e⟩ :: bl⟩ = (24, 0, 0)) := by
        show _ = _
        rw [HMC.out, HMF.out]
        have hi : inr reg C.r = true := by simp [inr]; omega
        have hj : inr slot C.s = false := by simp [inr]; omega
        rw [if_neg (by simp [hi]), if_pos hj]
      go_wp2_with fail
      have hbx := bel1 W5 (.cells #[.int .i64 24, .int .i64 0, .int .i64 0] 33)
      refine r613_ok (wd := (W5.alloc (.cells #[.int .i64 24, .int .i64 0, .int .i64 0] 33))) (pc := w2.heap.size) (pw := W5.heap.size) (C := ⟨C.p, C.r, C.s, ⟨⟨7, 0, slot, reg, 0, 0, []⟩ :: is, e⟩ :: bl⟩) (c := (24, 0, 0)) rfl rfl rfl hcode.out (HV5.out.below hbx) (cell_below hbx m0) (cell_below hbx m1) (cell_below hbx m2) (cell_below hbx m3) (box_cell (Below.refl _ _) 0 rfl) (box_cell (Below.refl _ _) 1 rfl) (box_cell (Below.refl _ _) 2 rfl) ?_
      intro q6 W6 hq6 hb6
      have hBf := bel_of (bel_of HB5.out hbx) hb6
      clear hbx hb6
      simp [overlay, dstsOf, ops613, hq6]
      go_wp2
      go_ret
      exact ⟨rfl, hBf⟩
    have c3' : 0 ≤ slot := by omega
    by_cases c4 : C.s ≤ slot
    · skip
      have hcode : Hid (mchk ⟨C.p, C.r, C.s, ⟨⟨7, 0, slot, reg, 0, 0, []⟩ :: is, e⟩ :: bl⟩ = (24, 0, 0)) := by
        show _ = _
        rw [HMC.out, HMF.out]
        have hi : inr reg C.r = true := by simp [inr]; omega
        have hj : inr slot C.s = false := by simp [inr]; omega
        rw [if_neg (by simp [hi]), if_pos hj]
      go_wp2_with fail
      have hbx := bel1 W5 (.cells #[.int .i64 24, .int .i64 0, .int .i64 0] 33)
      refine r613_ok (wd := (W5.alloc (.cells #[.int .i64 24, .int .i64 0, .int .i64 0] 33))) (pc := w2.heap.size) (pw := W5.heap.size) (C := ⟨C.p, C.r, C.s, ⟨⟨7, 0, slot, reg, 0, 0, []⟩ :: is, e⟩ :: bl⟩) (c := (24, 0, 0)) rfl rfl rfl hcode.out (HV5.out.below hbx) (cell_below hbx m0) (cell_below hbx m1) (cell_below hbx m2) (cell_below hbx m3) (box_cell (Below.refl _ _) 0 rfl) (box_cell (Below.refl _ _) 1 rfl) (box_cell (Below.refl _ _) 2 rfl) ?_
      intro q6 W6 hq6 hb6
      have hBf := bel_of (bel_of HB5.out hbx) hb6
      clear hbx hb6
      simp [overlay, dstsOf, ops613, hq6]
      go_wp2
      go_ret
      exact ⟨rfl, hBf⟩
    have c4' : slot < C.s := by omega
    skip
    have hcode : Hid (mchk ⟨C.p, C.r, C.s, ⟨⟨7, 0, slot, reg, 0, 0, []⟩ :: is, e⟩ :: bl⟩ = (0, 0, 0)) := by
      show _ = _
      rw [HMC.out, HMF.out]
      have hi : inr reg C.r = true := by simp [inr]; omega
      have hj : inr slot C.s = true := by simp [inr]; omega
      rw [if_neg (by simp [hi]), if_neg (by simp [hj])]
    go_wp2_with fail
    have hbx := bel1 W5 (.cells #[.int .i64 0, .int .i64 0, .int .i64 0] 33)
    refine r613_ok (wd := (W5.alloc (.cells #[.int .i64 0, .int .i64 0, .int .i64 0] 33))) (pc := w2.heap.size) (pw := W5.heap.size) (C := ⟨C.p, C.r, C.s, ⟨⟨7, 0, slot, reg, 0, 0, []⟩ :: is, e⟩ :: bl⟩) (c := (0, 0, 0)) rfl rfl rfl hcode.out (HV5.out.below hbx) (cell_below hbx m0) (cell_below hbx m1) (cell_below hbx m2) (cell_below hbx m3) (box_cell (Below.refl _ _) 0 rfl) (box_cell (Below.refl _ _) 1 rfl) (box_cell (Below.refl _ _) 2 rfl) ?_
    intro q6 W6 hq6 hb6
    have hBf := bel_of (bel_of HB5.out hbx) hb6
    clear hbx hb6
    simp [overlay, dstsOf, ops613, hq6]
    go_wp2
    go_ret
    exact ⟨rfl, hBf⟩
  | true =>
    have hbx := bel2 w2 (.cells #[.int .i64 C.p, .int .i64 C.r, .int .i64 C.s, .slice (some ⟨g, 0, none⟩) C.bs.length gc] 24) (.cells #[.int .u8 8, .int .u8 0, .int .i64 reg, .int .i64 slot, .int .i64 0, .int .i64 0, .slice none 0 0] 46)
    have hr3 : ((w2.alloc (.cells #[.int .i64 C.p, .int .i64 C.r, .int .i64 C.s, .slice (some ⟨g, 0, none⟩) C.bs.length gc] 24)).alloc (.cells #[.int .u8 8, .int .u8 0, .int .i64 reg, .int .i64 slot, .int .i64 0, .int .i64 0, .slice none 0 0] 46)).heap[w2.heap.size]? = some (Obj.cells (rowC C.p C.r C.s (.slice (some ⟨g, 0, none⟩) C.bs.length gc)) 24 (0, 0)) := by
      rw [(bel1 (w2.alloc (.cells #[.int .i64 C.p, .int .i64 C.r, .int .i64 C.s, .slice (some ⟨g, 0, none⟩) C.bs.length gc] 24)) (.cells #[.int .u8 8, .int .u8 0, .int .i64 reg, .int .i64 slot, .int .i64 0, .int .i64 0, .slice none 0 0] 46)).block _ (by simp)]
      exact heap_alloc_new w2 _
    have hr4 : ((w2.alloc (.cells #[.int .i64 C.p, .int .i64 C.r, .int .i64 C.s, .slice (some ⟨g, 0, none⟩) C.bs.length gc] 24)).alloc (.cells #[.int .u8 8, .int .u8 0, .int .i64 reg, .int .i64 slot, .int .i64 0, .int .i64 0, .slice none 0 0] 46)).heap[w2.heap.size + 1]? = some (Obj.cells (rowI ⟨8, 0, reg, slot, 0, 0, []⟩ (.slice none 0 0)) 46 (0, 0)) := by
      have h := heap_alloc_new (w2.alloc (.cells #[.int .i64 C.p, .int .i64 C.r, .int .i64 C.s, .slice (some ⟨g, 0, none⟩) C.bs.length gc] 24)) (.cells #[.int .u8 8, .int .u8 0, .int .i64 reg, .int .i64 slot, .int .i64 0, .int .i64 0, .slice none 0 0] 46)
      rw [World.size_alloc] at h
      exact h
    have HX : Hid (mF ⟨8, 0, reg, slot, 0, 0, []⟩ C.r C.s = if inr reg C.r = false then 23 else if inr slot C.s = false then 24 else 0) := by
      show _ = _
      simp [mF, slF]
    have hc3 := hide (rowC_cells hr3)
    have HR3 := hide hr3
    have HR4 := hide hr4
    have HBX := hide hbx
    clear hbx hr3 hr4
    go_wp2_with fail
    refine r67_ok (wd := (w2.alloc (.cells #[.int .i64 C.p, .int .i64 C.r, .int .i64 C.s, .slice (some ⟨g, 0, none⟩) C.bs.length gc] 24)).alloc (.cells #[.int .u8 8, .int .u8 0, .int .i64 reg, .int .i64 slot, .int .i64 0, .int .i64 0, .slice none 0 0] 46)) (pc := w2.heap.size) (pn := w2.heap.size + 1) (X := ⟨8, 0, reg, slot, 0, 0, []⟩) (ps := ps) (ua := ua) (n := ps.length) (ci := ci) rfl rfl rfl (by omega) hc3.out.2.2.2 (cell_below HBX.out hc0) (hO2.below HBX.out).row.2 (row_cells HR4.out) (HSRC.out.below HBX.out) hpl HSL.out ?_
    intro q7 W1 v7 hb7 hv7
    have hXa : (⟨8, 0, reg, slot, 0, 0, []⟩ : Ins).args = [] := rfl
    have hfin := slots_fin hO2 HBS.out HBX.out HR3.out (hlen0 := by omega) (hps := HPS.out) (hargs := HARGS.out) hXa hb7 hv7 HB2.out
    obtain ⟨f1, f2, f3⟩ := hfin
    have HV5 := hide f1
    obtain ⟨m0, m1, m2, m3⟩ := rowC_cells f2
    have HB5 := hide f3
    clear f1 f2 f3 hb7 hv7 HBX HR3 HR4 hc3 hXa
    have HMF := HX
    have HMC := hide (mchk_first (i := ⟨8, 0, reg, slot, 0, 0, []⟩) HBS.out HCK.out (by omega))
    simp [overlay, dstsOf, ops67]
    generalize W1.setCell ⟨g, 0, none⟩ v7 = W5 at *
    have a1 := cell_below (bel1 W5 (.cells #[.int .i64 0, .int .i64 0, .int .i64 0] 33)) m1
    have a2 := cell_below (bel1 W5 (.cells #[.int .i64 0, .int .i64 0, .int .i64 0] 33)) m2
    by_cases c1 : reg < 0
    · clear a1 a2
      have hcode : Hid (mchk ⟨C.p, C.r, C.s, ⟨⟨8, 0, reg, slot, 0, 0, []⟩ :: is, e⟩ :: bl⟩ = (23, 0, 0)) := by
        show _ = _
        rw [HMC.out, HMF.out]
        have hi : inr reg C.r = false := by simp [inr]; omega
        rw [if_pos hi]
      go_wp2_with fail
      have hbx := bel1 W5 (.cells #[.int .i64 23, .int .i64 0, .int .i64 0] 33)
      refine r613_ok (wd := (W5.alloc (.cells #[.int .i64 23, .int .i64 0, .int .i64 0] 33))) (pc := w2.heap.size) (pw := W5.heap.size) (C := ⟨C.p, C.r, C.s, ⟨⟨8, 0, reg, slot, 0, 0, []⟩ :: is, e⟩ :: bl⟩) (c := (23, 0, 0)) rfl rfl rfl hcode.out (HV5.out.below hbx) (cell_below hbx m0) (cell_below hbx m1) (cell_below hbx m2) (cell_below hbx m3) (box_cell (Below.refl _ _) 0 rfl) (box_cell (Below.refl _ _) 1 rfl) (box_cell (Below.refl _ _) 2 rfl) ?_
      intro q6 W6 hq6 hb6
      have hBf := bel_of (bel_of HB5.out hbx) hb6
      clear hbx hb6
      simp [overlay, dstsOf, ops613, hq6]
      go_wp2
      go_ret
      exact ⟨rfl, hBf⟩
    have c1' : 0 ≤ reg := by omega
    by_cases c2 : C.r ≤ reg
    · clear a2
      have hcode : Hid (mchk ⟨C.p, C.r, C.s, ⟨⟨8, 0, reg, slot, 0, 0, []⟩ :: is, e⟩ :: bl⟩ = (23, 0, 0)) := by
        show _ = _
        rw [HMC.out, HMF.out]
        have hi : inr reg C.r = false := by simp [inr]; omega
        rw [if_pos hi]
      go_wp2_with fail
      have hbx := bel1 W5 (.cells #[.int .i64 23, .int .i64 0, .int .i64 0] 33)
      refine r613_ok (wd := (W5.alloc (.cells #[.int .i64 23, .int .i64 0, .int .i64 0] 33))) (pc := w2.heap.size) (pw := W5.heap.size) (C := ⟨C.p, C.r, C.s, ⟨⟨8, 0, reg, slot, 0, 0, []⟩ :: is, e⟩ :: bl⟩) (c := (23, 0, 0)) rfl rfl rfl hcode.out (HV5.out.below hbx) (cell_below hbx m0) (cell_below hbx m1) (cell_below hbx m2) (cell_below hbx m3) (box_cell (Below.refl _ _) 0 rfl) (box_cell (Below.refl _ _) 1 rfl) (box_cell (Below.refl _ _) 2 rfl) ?_
      intro q6 W6 hq6 hb6
      have hBf := bel_of (bel_of HB5.out hbx) hb6
      clear hbx hb6
      simp [overlay, dstsOf, ops613, hq6]
      go_wp2
      go_ret
      exact ⟨rfl, hBf⟩
    have c2' : reg < C.r := by omega
    by_cases c3 : slot < 0
    · clear a2
      have hcode : Hid (mchk ⟨C.p, C.r, C.s, ⟨⟨8, 0, reg, slot, 0, 0, []⟩ :: is, e⟩ :: bl⟩ = (24, 0, 0)) := by
        show _ = _
        rw [HMC.out, HMF.out]
        have hi : inr reg C.r = true := by simp [inr]; omega
        have hj : inr slot C.s = false := by simp [inr]; omega
        rw [if_neg (by simp [hi]), if_pos hj]
      go_wp2_with fail
      have hbx := bel1 W5 (.cells #[.int .i64 24, .int .i64 0, .int .i64 0] 33)
      refine r613_ok (wd := (W5.alloc (.cells #[.int .i64 24, .int .i64 0, .int .i64 0] 33))) (pc := w2.heap.size) (pw := W5.heap.size) (C := ⟨C.p, C.r, C.s, ⟨⟨8, 0, reg, slot, 0, 0, []⟩ :: is, e⟩ :: bl⟩) (c := (24, 0, 0)) rfl rfl rfl hcode.out (HV5.out.below hbx) (cell_below hbx m0) (cell_below hbx m1) (cell_below hbx m2) (cell_below hbx m3) (box_cell (Below.refl _ _) 0 rfl) (box_cell (Below.refl _ _) 1 rfl) (box_cell (Below.refl _ _) 2 rfl) ?_
      intro q6 W6 hq6 hb6
      have hBf := bel_of (bel_of HB5.out hbx) hb6
      clear hbx hb6
      simp [overlay, dstsOf, ops613, hq6]
      go_wp2
      go_ret
      exact ⟨rfl, hBf⟩
    have c3' : 0 ≤ slot := by omega
    by_cases c4 : C.s ≤ slot
    · skip
      have hcode : Hid (mchk ⟨C.p, C.r, C.s, ⟨⟨8, 0, reg, slot, 0, 0, []⟩ :: is, e⟩ :: bl⟩ = (24, 0, 0)) := by
        show _ = _
        rw [HMC.out, HMF.out]
        have hi : inr reg C.r = true := by simp [inr]; omega
        have hj : inr slot C.s = false := by simp [inr]; omega
        rw [if_neg (by simp [hi]), if_pos hj]
      go_wp2_with fail
      have hbx := bel1 W5 (.cells #[.int .i64 24, .int .i64 0, .int .i64 0] 33)
      refine r613_ok (wd := (W5.alloc (.cells #[.int .i64 24, .int .i64 0, .int .i64 0] 33))) (pc := w2.heap.size) (pw := W5.heap.size) (C := ⟨C.p, C.r, C.s, ⟨⟨8, 0, reg, slot, 0, 0, []⟩ :: is, e⟩ :: bl⟩) (c := (24, 0, 0)) rfl rfl rfl hcode.out (HV5.out.below hbx) (cell_below hbx m0) (cell_below hbx m1) (cell_below hbx m2) (cell_below hbx m3) (box_cell (Below.refl _ _) 0 rfl) (box_cell (Below.refl _ _) 1 rfl) (box_cell (Below.refl _ _) 2 rfl) ?_
      intro q6 W6 hq6 hb6
      have hBf := bel_of (bel_of HB5.out hbx) hb6
      clear hbx hb6
      simp [overlay, dstsOf, ops613, hq6]
      go_wp2
      go_ret
      exact ⟨rfl, hBf⟩
    have c4' : slot < C.s := by omega
    skip
    have hcode : Hid (mchk ⟨C.p, C.r, C.s, ⟨⟨8, 0, reg, slot, 0, 0, []⟩ :: is, e⟩ :: bl⟩ = (0, 0, 0)) := by
      show _ = _
      rw [HMC.out, HMF.out]
      have hi : inr reg C.r = true := by simp [inr]; omega
      have hj : inr slot C.s = true := by simp [inr]; omega
      rw [if_neg (by simp [hi]), if_neg (by simp [hj])]
    go_wp2_with fail
    have hbx := bel1 W5 (.cells #[.int .i64 0, .int .i64 0, .int .i64 0] 33)
    refine r613_ok (wd := (W5.alloc (.cells #[.int .i64 0, .int .i64 0, .int .i64 0] 33))) (pc := w2.heap.size) (pw := W5.heap.size) (C := ⟨C.p, C.r, C.s, ⟨⟨8, 0, reg, slot, 0, 0, []⟩ :: is, e⟩ :: bl⟩) (c := (0, 0, 0)) rfl rfl rfl hcode.out (HV5.out.below hbx) (cell_below hbx m0) (cell_below hbx m1) (cell_below hbx m2) (cell_below hbx m3) (box_cell (Below.refl _ _) 0 rfl) (box_cell (Below.refl _ _) 1 rfl) (box_cell (Below.refl _ _) 2 rfl) ?_
    intro q6 W6 hq6 hb6
    have hBf := bel_of (bel_of HB5.out hbx) hb6
    clear hbx hb6
    simp [overlay, dstsOf, ops613, hq6]
    go_wp2
    go_ret
    exact ⟨rfl, hBf⟩

theorem walk {H : Type} {enc : TypeId × Value → H} (W : World) (base : Nat) (v0 v1 v2 v3 v4 v5 : Value) {d0 d1 d2 d3 d4 d5 : DataW H} {p0 p1 p2 p3 p4 p5 : List MemPlace} (o0 : Value.okWide Try.prog W .any base 27 v0) (k0 : DataW.Trod enc Try.prog W 0 (fun _ => true) true 27 v0 d0 p0) (o1 : Value.okWide Try.prog W .any base 5 v1) (k1 : DataW.Trod enc Try.prog W 0 (fun _ => true) true 5 v1 d1 p1) (o2 : Value.okWide Try.prog W .any base 5 v2) (k2 : DataW.Trod enc Try.prog W 0 (fun _ => true) true 5 v2 d2 p2) (o3 : Value.okWide Try.prog W .any base 3 v3) (k3 : DataW.Trod enc Try.prog W 0 (fun _ => true) true 3 v3 d3 p3) (o4 : Value.okWide Try.prog W .any base 3 v4) (k4 : DataW.Trod enc Try.prog W 0 (fun _ => true) true 3 v4 d4 p4) (o5 : Value.okWide Try.prog W .any base 4 v5) (k5 : DataW.Trod enc Try.prog W 0 (fun _ => true) true 4 v5 d5 p5) :
    Calls Try.prog 6 #[v0, v1, v2, v3, v4, v5] W fun e w' => e = .returned (.bool true) ∧ Below W.heap.size W w' := by
  obtain ⟨sa, sb, sc, sbs, hs⟩ := spec_in o0 k0
  obtain ⟨rg, rfl, hr0, hr1⟩ := byte_in o1 k1
  obtain ⟨sl, rfl, hl0, hl1⟩ := byte_in o2 k2
  obtain ⟨reg, rfl, _⟩ := i64_in o3 k3
  obtain ⟨slot, rfl, _⟩ := i64_in o4 k4
  obtain ⟨fill, rfl⟩ := bool_in o5 k5
  exact slots_walk v0 sa sb sc sbs rg sl reg slot fill W hs ⟨hr0, hr1⟩ ⟨hl0, hl1⟩

set_option maxRecDepth 100000 in
theorem lifted (os : Os) (started : os.Started) (H : Type) (enc : TypeId × Value → H) :
    ReturnsInHanded {} Try.checked os 6 .any (Rows.machSlotsSpec.pre6 enc Try.prog Try.f6 Rows.machSlotsRow.domain false) (Rows.machSlotsSpec.post enc Try.prog Try.f6 false true false false) := by
  refine returnsInHanded_of_change (C := Try.checked) own started (by kernel_rfl) Try.func6
    (ChangeSpec.witness6 (enc := enc) (C := Try.checked) false ⟨#[], #[.agg #[.int .u8 0, .int .u8 0, .int .u8 0, .slice none 0 0], .int .u8 0, .int .u8 0, .int .i64 0, .int .i64 0, .bool false], []⟩ 8 (by kernel_rfl) (by kernel_rfl) (by kernel_rfl) (by kernel_rfl)) ?_
  intro W base args ds gs before hval0 hW hcnd _
  have hval : ∀ (j : Nat) t v, Try.f6.params[j]? = some t → args[j]? = some v → Value.okWide Try.prog W .any base t v := hval0
  have hW' := hW
  obtain ⟨p, q, hA0, hV, rfl, hfz, hnd⟩ := hW
  have hA : DataW.TrodAll enc Try.prog W 0 (fun _ => true) true Try.f6.params.toList args.toList ds p := hA0
  rw [Try.params6] at hA hval
  obtain ⟨v0, vs0, d0, ds0, p0, q0, hargs, rfl, rfl, h0, r0⟩ := trodAll_cons hA
  obtain ⟨v1, vs1, d1, ds1, p1, q1, rfl, rfl, rfl, h1, r1⟩ := trodAll_cons r0
  obtain ⟨v2, vs2, d2, ds2, p2, q2, rfl, rfl, rfl, h2, r2⟩ := trodAll_cons r1
  obtain ⟨v3, vs3, d3, ds3, p3, q3, rfl, rfl, rfl, h3, r3⟩ := trodAll_cons r2
  obtain ⟨v4, vs4, d4, ds4, p4, q4, rfl, rfl, rfl, h4, r4⟩ := trodAll_cons r3
  obtain ⟨v5, vs5, d5, ds5, p5, q5, rfl, rfl, rfl, h5, r5⟩ := trodAll_cons r4
  obtain ⟨rfl, rfl, rfl⟩ := trodAll_nil r5
  obtain rfl : args = #[v0, v1, v2, v3, v4, v5] := by cases args; simp_all
  obtain ⟨rfl, rfl⟩ := trodVars_none hV
  have lt0 : ∀ x ∈ p0, x.block < W.heap.size := by obtain ⟨m, hm⟩ := h0; exact DataW.trod_lt m _ _ _ hm
  have lt1 : ∀ x ∈ p1, x.block < W.heap.size := by obtain ⟨m, hm⟩ := h1; exact DataW.trod_lt m _ _ _ hm
  have lt2 : ∀ x ∈ p2, x.block < W.heap.size := by obtain ⟨m, hm⟩ := h2; exact DataW.trod_lt m _ _ _ hm
  have lt3 : ∀ x ∈ p3, x.block < W.heap.size := by obtain ⟨m, hm⟩ := h3; exact DataW.trod_lt m _ _ _ hm
  have lt4 : ∀ x ∈ p4, x.block < W.heap.size := by obtain ⟨m, hm⟩ := h4; exact DataW.trod_lt m _ _ _ hm
  have lt5 : ∀ x ∈ p5, x.block < W.heap.size := by obtain ⟨m, hm⟩ := h5; exact DataW.trod_lt m _ _ _ hm
  refine (walk W base v0 v1 v2 v3 v4 v5 (hval 0 27 v0 rfl rfl) h0 (hval 1 5 v1 rfl rfl) h1 (hval 2 5 v2 rfl rfl) h2 (hval 3 3 v3 rfl rfl) h3 (hval 4 3 v4 rfl rfl) h4 (hval 5 4 v5 rfl rfl) h5).mono fun e W' ⟨he, bel⟩ => ?_
  subst he
  exact ⟨_, rfl, _, _, _, [], _, [], hW', trodAll_mk1 (shut_bool Try.underlying4 _), (trodAll_cons_mk (Below.trod laidOut (by kernel_rfl) (of_decide_eq_true (by kernel_rfl)) h0 bel lt0) (trodAll_cons_mk (Below.trod laidOut (by kernel_rfl) (of_decide_eq_true (by kernel_rfl)) h1 bel lt1) (trodAll_cons_mk (Below.trod laidOut (by kernel_rfl) (of_decide_eq_true (by kernel_rfl)) h2 bel lt2) (trodAll_cons_mk (Below.trod laidOut (by kernel_rfl) (of_decide_eq_true (by kernel_rfl)) h3 bel lt3) (trodAll_cons_mk (Below.trod laidOut (by kernel_rfl) (of_decide_eq_true (by kernel_rfl)) h4 bel lt4) (trodAll_cons_mk (Below.trod laidOut (by kernel_rfl) (of_decide_eq_true (by kernel_rfl)) h5 bel lt5) trodAll_mk0)))))), rfl, bel.frame _, fun h => by cases h⟩

theorem over : Rows.machSlotsRow.holds Try.pinned (OpenSpec.ofChange Rows.machSlotsSpec) :=
  OpenClaim.holds_of_wide 6 Try.f6 rfl rfl rfl rfl rfl rfl rfl ⟨rfl, rfl, rfl, rfl, rfl⟩ rfl rfl rfl rfl rfl (by kernel_rfl) Try.func6 (by kernel_rfl)
    (of_decide_eq_true (by kernel_rfl)) (by unfold Func.isWrapper; first | (rw [if_pos (by decide +kernel)]; kernel_rfl) | (rw [if_neg (by decide +kernel)]; exact ⟨rfl, rfl⟩))
    (fun os started H enc _ => lifted os started H enc)

end Go.Proofs.Ytbgedbahabbanaa.machSlots
namespace Go.Proofs.Ytbgedbahabbanaa
theorem machSlots_holds : Rows.MachSlotsSaid := machSlots.over
#print axioms machSlots_holds
end Go.Proofs.Ytbgedbahabbanaa
