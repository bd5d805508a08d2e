/- MachOnly: P5.1: code that is taken stays taken with more registers and slots; and names no more of them than it has. -/
import Derived.Test.YtbgedbahabbanaaRows
import Derived.WalkKit
import Derived.ProofKit
import Derived.OpenShut
import Derived.ShutString
import Derived.ChangeOld
import Derived.Below
import Derived.Test.YtbgedbahabbanaaAwake
import Derived.Test.YtbgedbahabbanaaOpen5
import Derived.Test.YtbgedbahabbanaaRCode
import Derived.Test.YtbgedbahabbanaaOn5
import Derived.BigRegion
namespace Go.Proofs.Ytbgedbahabbanaa.machOnly
open Go.ChangeShapes Go.WideShapes Go.ChangeAt Go.RowKit Ir
open Go.ChangeMaps (open_string shut_string)
set_option linter.unusedVariables false

theorem own : ownKnob Try.prog.godebug = none := by kernel_rfl
theorem laidOut : laidOutB Try.prog = true := by kernel_rfl

theorem getD_memI {l : List Ins} (m : Nat) (h : m < l.length) : l.getD m Ins.zero ∈ l := by simp [h]
theorem getD_memB {l : List Blk} (m : Nat) (h : m < l.length) : l.getD m Blk.zero ∈ l := by simp [h]
/-- Four cells of code in a box of the call's own, in a later world. -/
theorem boxC {w w1 : World} {p r s : Int} {u : Value} (hB : Below (w.alloc (.cells #[.int .i64 p, .int .i64 r, .int .i64 s, u] 24)).heap.size (w.alloc (.cells #[.int .i64 p, .int .i64 r, .int .i64 s, u] 24)) w1) :
    w1.cell? ⟨w.heap.size, 0, none⟩ = some (.int .i64 p) ∧ w1.cell? ⟨w.heap.size, 1, none⟩ = some (.int .i64 r) ∧ w1.cell? ⟨w.heap.size, 2, none⟩ = some (.int .i64 s) ∧ w1.cell? ⟨w.heap.size, 3, none⟩ = some u :=
  ⟨box_cell hB 0 rfl, box_cell hB 1 rfl, box_cell hB 2 rfl, box_cell hB 3 rfl⟩

set_option maxHeartbeats 8000000 in
set_option maxRecDepth 100000 in
theorem only_walk (C : Cod) (uf : Option Addr) (cf : Nat) (sp : Value) (sa sb sc : Int) (sbs : List Int) (rg sl : Int) (mv : Value) (ms : List Int) (w : World) (hC0 : BlksV w (.slice uf C.bs.length cf) C.bs) (hs : SpecV w sp sa sb sc sbs) (hrg : 0 ≤ rg ∧ rg < 256) (hsl : 0 ≤ sl ∧ sl < 256) (hm : Byt w mv ms) :
    Calls Try.prog 5 #[.agg #[.int .i64 C.p, .int .i64 C.r, .int .i64 C.s, .slice uf C.bs.length cf], sp, .int .u8 rg, .int .u8 sl, mv] w fun r w' => r = .returned (.bool true) ∧ Below w.heap.size w w' := by
  have hs' := hs
  obtain ⟨us, rfl, hs1, hs2, hs3, hs4⟩ := hs'
  obtain ⟨ax, cx, rfl⟩ := hs4.slice
  obtain ⟨ma, mc, rfl⟩ := hm.slice
  have hBa := bel1 w (.cells #[.int .i64 C.p, .int .i64 C.r, .int .i64 C.s, .slice uf C.bs.length cf] 24)
  have hza : (w.alloc (.cells #[.int .i64 C.p, .int .i64 C.r, .int .i64 C.s, .slice uf C.bs.length cf] 24)).heap.size = w.heap.size + 1 := by simp
  have hBb := bel1 (w.alloc (.cells #[.int .i64 C.p, .int .i64 C.r, .int .i64 C.s, .slice uf C.bs.length cf] 24)) (.cells #[.int .u8 sa, .int .u8 sb, .int .u8 sc, .slice ax sbs.length cx] 27)
  have HBb := hide hBb
  have HZ := hide hza
  have hBab := hide (bel_of hBa hBb)
  have HC0 := hide ((hC0.below hBa).below hBb)
  have HS0 := hide ((hs.below hBa).below hBb)
  have HM0 := hide ((hm.below hBa).below hBb)
  have f33 := run_field33
  clear hC0 hs hm hBa hBb hza hs1 hs2 hs3 hs4
  go_enter Try.func5, Try.ntmps5
  go_wp2_with fail
  refine (awake_any _).mono ?_
  rintro r w1 ⟨rfl, hB1⟩
  obtain ⟨a0, a1, a2, a3⟩ := boxC (bel_of HBb.out hB1)
  have hsx := boxS hB1
  rw [HZ.out] at hsx
  have HSX := hide hsx
  have HC1 := hide (HC0.out.below hB1)
  have HS1 := hide (HS0.out.below hB1)
  have HM1 := hide (HM0.out.below hB1)
  have hBw1 := hide (bel_of hBab.out hB1)
  have hL := hide (long_any _ C.bs w1 HC1.out)
  have A := hide (And.intro a0 (And.intro a1 (And.intro a2 a3)))
  clear hB1 HBb HC0 HS0 HM0 hBab HZ a0 a1 a2 hsx
  go_wp2_with fail
  refine hL.out.mono ?_
  rintro r w5 ⟨⟨c, rfl⟩, hB5⟩
  have HC5 := hide (HC1.out.below hB5)
  have HS5 := hide (HS1.out.below hB5)
  have HM5 := hide (HM1.out.below hB5)
  have hBw5 := hide (bel_of hBw1.out hB5)
  have HB5 := hide hB5
  clear hL hB5 HC1 HS1 HM1 hBw1 a3
  cases c with
  | true =>
    go_wp2_with fail
    go_ret
    exact ⟨rfl, hBw5.out⟩
  | false =>
    go_wp2_with fail
    refine r55_ok (wd := w5) (pc := w.heap.size) (ps := w.heap.size + 1) (C := C) (sbs := sbs) rfl rfl rfl rfl rfl rfl HC5.out (cell_below HB5.out A.out.1) (cell_below HB5.out A.out.2.1) (cell_below HB5.out A.out.2.2.1) (cell_below HB5.out A.out.2.2.2) HS5.out (cell_below HB5.out HSX.out.1) (cell_below HB5.out HSX.out.2.1) (cell_below HB5.out HSX.out.2.2.1) (cell_below HB5.out HSX.out.2.2.2) HM5.out hrg hsl ?_
    intro q5 w6 gb D hq31 hq32 hq33 hAC hAD hb6
    have hBw6 := hide (bel_of hBw5.out hb6)
    have HAT : Hid (∀ j, j < 2 → ∃ X, CodAt w6 gb (j * 4) X) := fun j hj => by
      rcases (by omega : j = 0 ∨ j = 1) with rfl | rfl
      · exact ⟨C, hAC⟩
      · exact ⟨D, hAD⟩
    clear hAC hAD hb6 HC5 HS5 HM5 hBw5 HB5 A HSX
    simp [overlay, dstsOf, ops55, hq31, hq32, hq33]
    clear hq31 hq32 hq33
    go_wp2_with fail
    go_loopw [12, 14, 16, 17, 18, 19, 33] (fun _ _ _ _ _ _ iv wr => ∃ j : Nat, j ≤ 2 ∧ iv = .int .i64 j ∧ Below w6.heap.size w6 wr) (fun _ _ _ _ _ _ iv _ => 2 - (intOf iv).toNat)
    case atStart => exact ⟨0, by omega, rfl, Below.refl _ _⟩
    case round =>
      rename World => wo
      obtain ⟨j, hj, rfl, hBr⟩ := hrel
      by_cases hlt : j < 2
      · obtain ⟨X, hXw⟩ := HAT.out j hlt
        obtain ⟨u1, c0, c1, c2, c3, hXu⟩ := hXw.below hBr
        obtain ⟨ux, cx2, rfl⟩ := hXu.slice
        have hmx := SlV.len_le hXu
        have hmx' : X.bs.length ≤ 9223372036854775807 := by simp [maxLen] at hmx; omega
        have hBx := bel1 wo (.cells #[.int .i64 X.p, .int .i64 X.r, .int .i64 X.s, .slice ux X.bs.length cx2] 24)
        have hC := hide (mCheck_any X _ _ ⟨_, rfl, hXu.below hBx⟩)
        have HXu := hide (hXu.below hBx)
        have hBr7 := hide (bel_of hBr hBx)
        have hlt' : (j : Int) < 2 := by omega
        unfold faultV at hC
        clear hXu hmx hBx hXw
        go_wp2_with fail
        refine hC.out.mono ?_
        rintro r w8 ⟨rfl, hB8⟩
        obtain ⟨y0, y1, y2, y3⟩ := boxC hB8
        have HX8 := hide (HXu.out.below hB8)
        have hBr8 := hide (bel_of hBr7.out hB8)
        by_cases hz : (mchk X).1 = 0
        · obtain ⟨hsd, _⟩ := mchk_all hz
          have hsd' : 0 ≤ X.p ∧ X.p ≤ 4 ∧ 3 ≤ X.r ∧ X.r ≤ 8 ∧ X.p ≤ X.s ∧ X.s ≤ 64 ∧ 1 ≤ X.bs.length ∧ X.bs.length ≤ 16 := by simp only [msz, decide_eq_true_eq] at hsd; exact hsd
          have HALL : Hid (∀ b ∈ X.bs, ∀ i ∈ b.ins, (i.k = 8 → (0 ≤ i.d ∧ i.d < X.r) ∧ (0 ≤ i.a ∧ i.a < X.s)) ∧ (i.k = 7 → (0 ≤ i.a ∧ i.a < X.r) ∧ (0 ≤ i.d ∧ i.d < X.s))) := fun b hb i hi => mchk_slot hz hb hi
          have HZC := hide hz
          have X0 := hide y0
          have X1 := hide y1
          have X2 := hide y2
          have X3 := hide y3
          rw [hz]
          clear hsd hC hB8 HXu hBr7 c0 c1 c2 c3 hBr hz
          go_wp2_with fail
          generalize wo.heap.size = gx at *
          clear y0 y1 y2 y3
          go_loopw [14, 16, 17, 18, 44] (fun _ _ _ _ iv wr => ∃ q : Nat, q ≤ X.bs.length ∧ iv = .int .i64 q ∧ Below w8.heap.size w8 wr) (fun _ _ _ _ iv _ => X.bs.length - (intOf iv).toNat)
          case atStart => exact ⟨0, by omega, rfl, Below.refl _ _⟩
          case round =>
            rename World => wb
            obtain ⟨q, hq, rfl, hBq⟩ := hrel
            by_cases hltq : q < X.bs.length
            · obtain ⟨gk, offk, rfl, ui, ⟨c0, c1, c2, c3, c4⟩, hui⟩ := SlV.at (HX8.out.below hBq) q hltq
              have hins := fun i (hi : i ∈ (X.bs.getD q Blk.zero).ins) => HALL.out _ (getD_memB q hltq) i hi
              generalize X.bs.getD q Blk.zero = b' at *
              obtain ⟨is, e⟩ := b'
              simp only at c1 c2 c3 c4 hui hins
              have HIN := hide hins
              have hmi := SlV.len_le hui
              have hmi' : is.length ≤ 9223372036854775807 := by simp [maxLen] at hmi; omega
              obtain ⟨ai, ci, rfl⟩ := hui.slice
              have hBx := bel1 wb (.cells #[.slice ai is.length ci, .int .u8 e.k, .int .i64 e.a, .int .i64 e.to, .int .i64 e.el] 41)
              have HI := hide (hui.below hBx)
              have HBC := hide (boxB (Below.refl _ (wb.alloc (.cells #[.slice ai is.length ci, .int .u8 e.k, .int .i64 e.a, .int .i64 e.to, .int .i64 e.el] 41))))
              have hBb9 := hide (bel_of hBq hBx)
              have hltq' : (q : Int) < (X.bs.length : Int) := by omega
              have hx2 := cell_below hBq X3.out
              clear hui hmi hBx hBq hins
              go_wp2_with fail
              generalize (wb.alloc (.cells #[.slice ai is.length ci, .int .u8 e.k, .int .i64 e.a, .int .i64 e.to, .int .i64 e.el] 41)) = w9 at *
              generalize wb.heap.size = g9 at *
              go_loopw [16, 17, 18, 51] (fun _ _ _ kv wr => ∃ k : Nat, k ≤ is.length ∧ kv = .int .i64 k ∧ Below w9.heap.size w9 wr) (fun _ _ _ kv _ => is.length - (intOf kv).toNat)
              case atStart => exact ⟨0, by omega, rfl, Below.refl _ _⟩
              case round =>
                rename World => wi
                obtain ⟨k, hk, rfl, hBs⟩ := hrel
                by_cases hltk : k < is.length
                · obtain ⟨gi, offi, rfl, uu, ⟨a0, a1, a2, a3, a4, a5, a6⟩, huu⟩ := SlV.at (HI.out.below hBs) k hltk
                  have hin := HIN.out _ (getD_memI k hltk)
                  generalize is.getD k Ins.zero = i at *
                  obtain ⟨au, cu, rfl⟩ := huu.slice
                  have hBy := bel1 wi (.cells #[.int .u8 i.k, .int .u8 i.op, .int .i64 i.d, .int .i64 i.a, .int .i64 i.b, .int .i64 i.n, .slice au i.args.length cu] 46)
                  have hBs9 := bel_of hBs hBy
                  obtain ⟨i0, i1, i2, i3, i4, i5, i6⟩ := (boxI (Below.refl _ (wi.alloc (.cells #[.int .u8 i.k, .int .u8 i.op, .int .i64 i.d, .int .i64 i.a, .int .i64 i.b, .int .i64 i.n, .slice au i.args.length cu] 46)))).zero
                  have x1 := cell_below (bel_of hBb9.out hBs9) X1.out
                  have x2 := cell_below (bel_of hBb9.out hBs9) X2.out
                  have hltk' : (k : Int) < (is.length : Int) := by omega
                  clear huu hBy hBs
                  by_cases k8 : i.k = 8
                  · obtain ⟨⟨p1, p2⟩, p3, p4⟩ := hin.1 k8
                    have b8 : (i.k == 8) = true := by simp [k8]
                    clear hin k8
                    go_wp2_with fail
                    go_region
                    go_wp2_with fail
                    go_region
                    go_wp2_with fail
                    go_roundw
                    case rel => exact ⟨k + 1, by omega, by go_num, hBs9.trans ⟨rfl, rfl, rfl, Nat.le_refl _, fun _ _ => rfl⟩⟩
                    case measure => simp [intOf]; omega
                  · have b8 : (i.k == 8) = false := by simp [k8]
                    by_cases k7 : i.k = 7
                    · obtain ⟨⟨p1, p2⟩, p3, p4⟩ := hin.2 k7
                      have b7 : (i.k == 7) = true := by simp [k7]
                      clear hin k7 k8
                      go_wp2_with fail
                      go_region
                      go_wp2_with fail
                      go_roundw
                      case rel => exact ⟨k + 1, by omega, by go_num, hBs9.trans ⟨rfl, rfl, rfl, Nat.le_refl _, fun _ _ => rfl⟩⟩
                      case measure => simp [intOf]; omega
                    · have b7 : (i.k == 7) = false := by simp [k7]
                      clear hin k7 k8
                      go_wp2_with fail
                      go_region
                      go_wp2_with fail
                      go_roundw
                      case rel => exact ⟨k + 1, by omega, by go_num, hBs9.trans ⟨rfl, rfl, rfl, Nat.le_refl _, fun _ _ => rfl⟩⟩
                      case measure => simp [intOf]; omega
                · obtain rfl : k = is.length := by omega
                  have hBb15 := bel_of hBb9.out hBs
                  clear hBs HBC
                  go_wp2_with fail
                  go_roundw
                  case rel => exact ⟨q + 1, by omega, by go_num, hBb15⟩
                  case measure => simp [intOf]; omega
            · obtain rfl : q = X.bs.length := by omega
              have x0 := cell_below hBq X0.out
              have x1 := cell_below hBq X1.out
              have x2 := cell_below hBq X2.out
              have x3 := cell_below hBq X3.out
              have hBy := bel1 wb (.cells #[.int .i64 X.p, .int .i64 X.r, .int .i64 X.s, .slice ux X.bs.length cx2] 24)
              have y1 := cell_below hBy x1
              have y2 := cell_below hBy x2
              obtain ⟨m1, hm1⟩ : ∃ m1, m1 = min (X.r + 1) 8 := ⟨_, rfl⟩
              obtain ⟨m2, hm2⟩ : ∃ m2, m2 = min (X.s + 3) 64 := ⟨_, rfl⟩
              have hmin1 : ∀ (ts : Array TypeId) (t : TypeId) (W : World), (Builtin.min_ ts t #[.int .i64 (X.r + 1), .int .i64 8]).run Try.prog W = .ok (.int .i64 m1) W := by
                intro ts t W
                rw [run_min_int2, hm1]
                congr 2
                split <;> omega
              have hmin2 : ∀ (ts : Array TypeId) (t : TypeId) (W : World), (Builtin.min_ ts t #[.int .i64 (X.s + 3), .int .i64 64]).run Try.prog W = .ok (.int .i64 m2) W := by
                intro ts t W
                rw [run_min_int2, hm2]
                congr 2
                split <;> omega
              have HMO : Hid (mchk ⟨X.p, m1, m2, X.bs⟩ = (0, 0, 0)) := by
                show _ = _
                rw [hm1, hm2]
                exact mchk_more HZC.out
              have y3 := cell_below (bel1 wb (.cells #[.int .i64 X.p, .int .i64 m1, .int .i64 X.s, .slice ux X.bs.length cx2] 24)) x2
              have y4 := cell_below (bel1 wb (.cells #[.int .i64 X.p, .int .i64 X.r, .int .i64 m2, .slice ux X.bs.length cx2] 24)) x1
              have hBy2 := bel1 wb (.cells #[.int .i64 X.p, .int .i64 m1, .int .i64 m2, .slice ux X.bs.length cx2] 24)
              have HVy := hide ((HX8.out.below hBq).below hBy2)
              have HBy := hide (bel_of (bel_of hBr8.out hBq) hBy2)
              clear hm1 hm2 hBy hBy2 hBq
              go_wp2_with fail
              go_region
              have hVd : BlksV (wb.alloc (.cells #[.int .i64 X.p, .int .i64 m1, .int .i64 m2, .slice ux X.bs.length cx2] 24)).drew (.slice ux X.bs.length cx2) X.bs := HVy.out.below (Below.refl _ _).drew
              have hCy := hide (mCheck_any ⟨X.p, m1, m2, X.bs⟩ _ _ ⟨_, rfl, hVd⟩)
              rw [HMO.out] at hCy
              unfold faultV at hCy
              have HBd : Hid (Below w6.heap.size w6 (wb.alloc (.cells #[.int .i64 X.p, .int .i64 m1, .int .i64 m2, .slice ux X.bs.length cx2] 24)).drew) := bel_of HBy.out (Below.refl _ _).drew
              clear hVd HVy HBy HMO hmin1 hmin2 y1 y2 y3 y4
              go_wp2_with fail
              refine hCy.out.mono ?_
              rintro r w20 ⟨rfl, hB20⟩
              have hBf := bel_of HBd.out hB20
              clear hCy HBd hB20
              go_wp2_with fail
              go_roundw
              case rel => exact ⟨j + 1, by omega, by go_num, hBf⟩
              case measure => simp [intOf]; omega
        · have hBf := hBr8.out
          generalize (mchk X).1 = cc1 at *
          have hz' : (cc1 == 0) = false := by simpa using hz
          clear hC hB8 HXu hBr7 c0 c1 c2 c3 hBr
          go_wp2_with fail
          go_roundw
          case rel => exact ⟨j + 1, by omega, by go_num, hBf⟩
          case measure => simp [intOf]; omega
      · obtain rfl : j = 2 := by omega
        have hBf := bel_of hBw6.out hBr
        go_wp2_with fail
        go_ret
        exact ⟨rfl, hBf⟩

theorem walk {H : Type} {enc : TypeId × Value → H} (W : World) (base : Nat) (v0 v1 v2 v3 v4 : Value) {d0 d1 d2 d3 d4 : DataW H} {p0 p1 p2 p3 p4 : List MemPlace} (o0 : Value.okWide Try.prog W .any base 24 v0) (k0 : DataW.Trod enc Try.prog W 0 (fun _ => true) true 24 v0 d0 p0) (o1 : Value.okWide Try.prog W .any base 27 v1) (k1 : DataW.Trod enc Try.prog W 0 (fun _ => true) true 27 v1 d1 p1) (o2 : Value.okWide Try.prog W .any base 5 v2) (k2 : DataW.Trod enc Try.prog W 0 (fun _ => true) true 5 v2 d2 p2) (o3 : Value.okWide Try.prog W .any base 5 v3) (k3 : DataW.Trod enc Try.prog W 0 (fun _ => true) true 5 v3 d3 p3) (o4 : Value.okWide Try.prog W .any base 25 v4) (k4 : DataW.Trod enc Try.prog W 0 (fun _ => true) true 25 v4 d4 p4) :
    Calls Try.prog 5 #[v0, v1, v2, v3, v4] W fun e w' => e = .returned (.bool true) ∧ Below W.heap.size W w' := by
  obtain ⟨C, uf0, rfl, hC⟩ := cod_in o0 k0
  obtain ⟨uf, cf, rfl⟩ := hC.slice
  obtain ⟨sa, sb, sc, sbs, hs⟩ := spec_in o1 k1
  obtain ⟨rg, rfl, hr0, hr1⟩ := byte_in o2 k2
  obtain ⟨sl, rfl, hl0, hl1⟩ := byte_in o3 k3
  obtain ⟨ms, hm⟩ := byts_in o4 k4
  exact only_walk C uf cf v1 sa sb sc sbs rg sl v4 ms W hC hs ⟨hr0, hr1⟩ ⟨hl0, hl1⟩ hm

set_option maxRecDepth 100000 in
theorem lifted (os : Os) (started : os.Started) (H : Type) (enc : TypeId × Value → H) :
    ReturnsInHanded {} Try.checked os 5 .any (Rows.machOnlySpec.pre6 enc Try.prog Try.f5 Rows.machOnlyRow.domain false) (Rows.machOnlySpec.post enc Try.prog Try.f5 false true false false) := by
  refine returnsInHanded_of_change (C := Try.checked) own started (by kernel_rfl) Try.func5
    (ChangeSpec.witness6 (enc := enc) (C := Try.checked) false ⟨#[], #[.agg #[.int .i64 0, .int .i64 0, .int .i64 0, .slice none 0 0], .agg #[.int .u8 0, .int .u8 0, .int .u8 0, .slice none 0 0], .int .u8 0, .int .u8 0, .slice none 0 0], []⟩ 8 (by kernel_rfl) (by kernel_rfl) (by kernel_rfl) (by kernel_rfl)) ?_
  intro W base args ds gs before hval0 hW hcnd _
  have hval : ∀ (j : Nat) t v, Try.f5.params[j]? = some t → args[j]? = some v → Value.okWide Try.prog W .any base t v := hval0
  have hW' := hW
  obtain ⟨p, q, hA0, hV, rfl, hfz, hnd⟩ := hW
  have hA : DataW.TrodAll enc Try.prog W 0 (fun _ => true) true Try.f5.params.toList args.toList ds p := hA0
  rw [Try.params5] at hA hval
  obtain ⟨v0, vs0, d0, ds0, p0, q0, hargs, rfl, rfl, h0, r0⟩ := trodAll_cons hA
  obtain ⟨v1, vs1, d1, ds1, p1, q1, rfl, rfl, rfl, h1, r1⟩ := trodAll_cons r0
  obtain ⟨v2, vs2, d2, ds2, p2, q2, rfl, rfl, rfl, h2, r2⟩ := trodAll_cons r1
  obtain ⟨v3, vs3, d3, ds3, p3, q3, rfl, rfl, rfl, h3, r3⟩ := trodAll_cons r2
  obtain ⟨v4, vs4, d4, ds4, p4, q4, rfl, rfl, rfl, h4, r4⟩ := trodAll_cons r3
  obtain ⟨rfl, rfl, rfl⟩ := trodAll_nil r4
  obtain rfl : args = #[v0, v1, v2, v3, v4] := by cases args; simp_all
  obtain ⟨rfl, rfl⟩ := trodVars_none hV
  have lt0 : ∀ x ∈ p0, x.block < W.heap.size := by obtain ⟨m, hm⟩ := h0; exact DataW.trod_lt m _ _ _ hm
  have lt1 : ∀ x ∈ p1, x.block < W.heap.size := by obtain ⟨m, hm⟩ := h1; exact DataW.trod_lt m _ _ _ hm
  have lt2 : ∀ x ∈ p2, x.block < W.heap.size := by obtain ⟨m, hm⟩ := h2; exact DataW.trod_lt m _ _ _ hm
  have lt3 : ∀ x ∈ p3, x.block < W.heap.size := by obtain ⟨m, hm⟩ := h3; exact DataW.trod_lt m _ _ _ hm
  have lt4 : ∀ x ∈ p4, x.block < W.heap.size := by obtain ⟨m, hm⟩ := h4; exact DataW.trod_lt m _ _ _ hm
  refine (walk W base v0 v1 v2 v3 v4 (hval 0 24 v0 rfl rfl) h0 (hval 1 27 v1 rfl rfl) h1 (hval 2 5 v2 rfl rfl) h2 (hval 3 5 v3 rfl rfl) h3 (hval 4 25 v4 rfl rfl) h4).mono fun e W' ⟨he, bel⟩ => ?_
  subst he
  exact ⟨_, rfl, _, _, _, [], _, [], hW', trodAll_mk1 (shut_bool Try.underlying4 _), (trodAll_cons_mk (Below.trod laidOut (by kernel_rfl) (of_decide_eq_true (by kernel_rfl)) h0 bel lt0) (trodAll_cons_mk (Below.trod laidOut (by kernel_rfl) (of_decide_eq_true (by kernel_rfl)) h1 bel lt1) (trodAll_cons_mk (Below.trod laidOut (by kernel_rfl) (of_decide_eq_true (by kernel_rfl)) h2 bel lt2) (trodAll_cons_mk (Below.trod laidOut (by kernel_rfl) (of_decide_eq_true (by kernel_rfl)) h3 bel lt3) (trodAll_cons_mk (Below.trod laidOut (by kernel_rfl) (of_decide_eq_true (by kernel_rfl)) h4 bel lt4) trodAll_mk0))))), rfl, bel.frame _, fun h => by cases h⟩

theorem over : Rows.machOnlyRow.holds Try.pinned (OpenSpec.ofChange Rows.machOnlySpec) :=
  OpenClaim.holds_of_wide 5 Try.f5 rfl rfl rfl rfl rfl rfl rfl ⟨rfl, rfl, rfl, rfl, rfl⟩ rfl rfl rfl rfl rfl (by kernel_rfl) Try.func5 (by kernel_rfl)
    (of_decide_eq_true (by kernel_rfl)) (by unfold Func.isWrapper; first | (rw [if_pos (by decide +kernel)]; kernel_rfl) | (rw [if_neg (by decide +kernel)]; exact ⟨rfl, rfl⟩))
    (fun os started H enc _ => lifted os started H enc)

end Go.Proofs.Ytbgedbahabbanaa.machOnly
namespace Go.Proofs.Ytbgedbahabbanaa
theorem machOnly_holds : Rows.MachOnlySaid := machOnly.over
#print axioms machOnly_holds
end Go.Proofs.Ytbgedbahabbanaa
