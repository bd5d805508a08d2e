/- IrChecks: P4.2: any function, and a right one with something turned: ir.Check answers as the document. -/
import Derived.Test.YteidejcaoboejaaRows
import Derived.WalkKit
import Derived.ProofKit
import Derived.OpenShut
import Derived.ShutString
import Derived.ChangeOld
import Derived.Below
import Derived.Test.YteidejcaoboejaaFault
import Derived.Test.YteidejcaoboejaaRefFunc
import Derived.Test.YteidejcaoboejaaStore
namespace Go.Proofs.Yteidejcaoboejaa.irChecks
open Go.ChangeShapes Go.WideShapes Go.ChangeAt Go.RowKit Ir
open Go.ChangeMaps (open_string shut_string)
set_option linter.unusedVariables false

theorem own : ownKnob Try.prog.godebug = none := by kernel_rfl
theorem laidOut : laidOutB Try.prog = true := by kernel_rfl

/-- What is known of each temporary of the comparisons. -/
def G6 (g1 g2 : Nat) (F M : Fun) (uf um : Value) : Tmp → Value → World → Prop
  | 22, xx, _ => xx = .agg #[.int .i64 F.p, .int .i64 F.v, uf]
  | 23, xx, _ => xx = faultV (chk F)
  | 24, xx, _ => xx = .agg #[.int .i64 F.p, .int .i64 F.v, uf]
  | 25, xx, _ => xx = faultV (chk F)
  | 26, xx, _ => xx = .bool (false)
  | 27, xx, _ => xx = .bool (false)
  | 28, xx, _ => xx = if (!(false)) = true then .agg #[.int .i64 M.p, .int .i64 M.v, um] else undef
  | 29, xx, _ => xx = if (!(false)) = true then faultV (0, 0, 0) else undef
  | 30, xx, _ => xx = if (!(false)) = true then faultV (0, 0, 0) else undef
  | 31, xx, _ => xx = if (!(false)) = true then .bool (false) else undef
  | 32, xx, _ => xx = .bool (false || false)
  | _, _, _ => True

def G9 (g2 : Nat) (M : Fun) (um : Value) : Tmp → Value → World → Prop
  | 40, xx, _ => xx = .agg #[.int .i64 M.p, .int .i64 M.v, um]
  | 41, xx, _ => xx = faultV (chk M)
  | 42, xx, _ => xx = .agg #[.int .i64 M.p, .int .i64 M.v, um]
  | 43, xx, _ => xx = faultV (chk M)
  | 44, xx, _ => xx = .bool (false)
  | _, _, _ => True

def G21 (g2 : Nat) (M : Fun) (um : Value) : Tmp → Value → World → Prop
  | 74, xx, _ => xx = .agg #[.int .i64 M.p, .int .i64 M.v, um]
  | 75, xx, _ => xx = faultV (chk M)
  | 76, xx, _ => xx = .agg #[.int .i64 M.p, .int .i64 M.v, um]
  | 77, xx, _ => xx = faultV (chk M)
  | 78, xx, _ => xx = .bool (true)
  | 12, xx, _ => xx = .bool (true)
  | _, _, _ => True

def insC : Ins := ⟨1, 0, 0, 0, 0, 0, []⟩
/-- What is known of each temporary of 'h.Blocks[0].Ins = append(..)'. -/
def G15 (B ph g nb cap : Nat) (u0 : Value) (is : List Ins) : Tmp → Value → World → Prop
  | 53, xx, _ => xx = .pointer (some ⟨ph, 2, none⟩)
  | 54, xx, _ => xx = .slice (some ⟨g, 0, none⟩) nb cap
  | 55, xx, _ => xx = .pointer (some ⟨ph, 2, none⟩)
  | 56, xx, _ => xx = .slice (some ⟨g, 0, none⟩) nb cap
  | 57, xx, _ => xx = .pointer (some ⟨g, 0, none⟩)
  | 58, xx, _ => xx = .pointer (some ⟨g, 0, none⟩)
  | 59, xx, _ => xx = u0
  | 60, xx, _ => xx = insV insC (.slice none 0 0)
  | 61, xx, ww => (∃ h, xx = .slice (some ⟨h, 0, none⟩) 1 1 ∧ ww.heap[h]? = some (Obj.cells (rowI insC (.slice none 0 0)) 46 (0, 0)) ∧ u0.ownBlock ≠ some h)
  | 62, xx, ww => InssO B ww xx (is ++ [insC])
  | 63, xx, _ => xx = .pointer (some ⟨g, 0, none⟩)
  | 64, xx, _ => xx = .pointer (some ⟨g, 0, none⟩)
  | _, _, _ => True

/-- What stands in the world while that is done. -/
structure S15 (B ph g nb cap : Nat) (p v : Int) (u0 : Value) (is : List Ins) (wr : World) (l : Nat → Bool) (W : World) : Prop where
  fld : W.heap[ph]? = some (Obj.cells (rowF p v (.slice (some ⟨g, 0, none⟩) nb cap)) 24 (0, 0))
  row : ∃ cs, W.heap[g]? = some (Obj.cells cs 41 (0, 0))
  cell : l 12 = false → W.cell? ⟨g, 0, none⟩ = some u0
  inss : l 9 = false → InssO B W u0 is
  done : l 12 = true → ∃ u, W.cell? ⟨g, 0, none⟩ = some u ∧ InssO B W u (is ++ [insC])
  own : ∀ k, u0.ownBlock = some k → k < W.heap.size
  soft : Soft B wr W
  below : Below B wr W
  sz : B ≤ W.heap.size
section
variable {B ph g nb cap : Nat} {p v : Int} {u0 : Value} {is : List Ins} {wr : World} {l : Nat → Bool} {W W' : World}
theorem G15_keeps {t : Tmp} {y : Value} {T : TypeId → Bool} (h : G15 B ph g nb cap u0 is t y W) (hk : Keeps T W W') (h3 : T 3 = true := by rfl) (h46 : T 46 = true := by rfl) : G15 B ph g nb cap u0 is t y W' := by
  have hk46 : Keeps T46 W W' := hk.weak fun t ht => by simp [T46] at ht; rcases ht with rfl | rfl <;> assumption
  unfold G15 at h ⊢
  split
  all_goals
    first
      | exact h
      | exact InssO.keeps h hk46
      | (obtain ⟨k, e1, e2, e3⟩ := h; exact ⟨k, e1, hk _ _ _ _ h46 e2, e3⟩)
      | trivial
theorem G15_app {t : Tmp} {y : Value} (h : G15 B ph g nb cap u0 is t y W) (ht : some t ≠ some 62) (hO : InssO B W u0 is) (hg : W.grownBy W' u0.ownBlock) : G15 B ph g nb cap u0 is t y W' := by
  unfold G15 at h ⊢
  split
  all_goals
    first
      | exact h
      | exact absurd rfl ht
      | (obtain ⟨k, e1, e2, e3⟩ := h; exact ⟨k, e1, by rw [hg.block k (Array.getElem?_eq_some_iff.1 e2).1 (fun e => e3 e.symm)]; exact e2, e3⟩)
      | trivial
theorem S15.skip (h : S15 B ph g nb cap p v u0 is wr l W) {j : Nat} (h9 : j ≠ 9) (h12 : j ≠ 12) : S15 B ph g nb cap p v u0 is wr (upd l j) W := by
  have u9 : upd l j 9 = l 9 := if_neg (fun e => h9 e.symm)
  have u12 : upd l j 12 = l 12 := if_neg (fun e => h12 e.symm)
  exact ⟨h.fld, h.row, by rw [u12]; exact h.cell, by rw [u9]; exact h.inss, by rw [u12]; exact h.done, h.own, h.soft, h.below, h.sz⟩
theorem S15.alloc (h : S15 B ph g nb cap p v u0 is wr l W) (hB : Below W.heap.size W W') : S15 B ph g nb cap p v u0 is wr (upd l 8) W' := by
  have hk : Keeps (fun _ => true) W W' := Keeps.below hB
  have hk46 : Keeps T46 W W' := Keeps.below hB
  refine ⟨hk _ _ _ _ rfl h.fld, ?_, fun h12 => cell_below hB (h.cell h12), fun h9 => (h.inss h9).keeps hk46, fun h12 => ?_, fun k e => Nat.lt_of_lt_of_le (h.own k e) hB.size, h.soft.trans (Soft.below hB), h.below.trans (hB.mono h.sz), Nat.le_trans h.sz hB.size⟩
  · obtain ⟨cs, hcs⟩ := h.row
    exact ⟨cs, hk _ _ _ _ rfl hcs⟩
  · obtain ⟨u, q1, q2⟩ := h.done h12
    exact ⟨u, cell_below hB q1, q2.keeps hk46⟩
theorem S15.app (h : S15 B ph g nb cap p v u0 is wr l W) (hO : InssO B W u0 is) (hg : W.grownBy W' u0.ownBlock) (hs : Soft B W W') (hl12 : l 12 = false) : S15 B ph g nb cap p v u0 is wr (upd l 9) W' := by
  have hk := hO.grown3 hg
  refine ⟨hk _ _ _ _ rfl h.fld, ?_, fun h12 => ?_, fun h9 => by simp [upd] at h9, fun h12 => ?_, fun k e => Nat.lt_of_lt_of_le (h.own k e) hg.size, h.soft.trans hs, h.below.grown hg h.sz (fun k e => (hO.ownlt k e).1), Nat.le_trans h.sz hg.size⟩
  · obtain ⟨cs, hcs⟩ := h.row
    exact ⟨cs, hk _ _ _ _ rfl hcs⟩
  · obtain ⟨cs, hcs⟩ := h.row
    have h1 := h.cell hl12
    rw [cell_of_row _ _ _ _ _ _ hcs] at h1
    rw [cell_of_row _ _ _ _ _ _ (hk _ _ _ _ rfl hcs)]
    exact h1
  · have h12' : l 12 = true := h12
    rw [hl12] at h12'
    cases h12'
theorem S15.store (h : S15 B ph g nb cap p v u0 is wr l W) {u : Value} {cs : Array Value} (hcc : W.cell? ⟨g, 0, none⟩ = some u0) (hcs : W.heap[g]? = some (Obj.cells cs 41 (0, 0))) (hO : InssO B W u (is ++ [insC])) (hBg : B ≤ g) : S15 B ph g nb cap p v u0 is wr (upd l 12) (W.setCell ⟨g, 0, none⟩ u) := by
  have hk : Keeps (fun t => t != 41) W (W.setCell ⟨g, 0, none⟩ u) := Keeps.set hcs rfl u
  have hk46 : Keeps T46 W (W.setCell ⟨g, 0, none⟩ u) := Keeps.set hcs rfl u
  have hOf := hO.keeps hk46
  refine ⟨hk _ _ _ _ rfl h.fld, ⟨_, heap_setCell_same W g 0 _ _ u hcs⟩, fun h12 => by simp [upd] at h12, fun h9 => (h.inss h9).keeps hk46, fun _ => ⟨u, World.cell?_setCell_same (w := W) (a := ⟨g, 0, none⟩) (v := u) hcc, hOf⟩, fun k e => by simpa using h.own k e,
    h.soft.trans (Soft.set hcs ⟨fun h => by simp at h, fun h => by simp at h, fun _ => ⟨fun _ => ⟨_, hOf⟩, fun h => by simp at h, fun h => by simp at h⟩⟩), h.below.setCell (p := ⟨g, 0, none⟩) hBg u, by simpa using h.sz⟩
end
theorem blks_first {B : Nat} {w : World} {u : Value} {bs : List Blk} (h : BlksO B w u bs) (h0 : 0 < bs.length) : ∃ g cap cur u0, u = .slice (some ⟨g, 0, none⟩) bs.length cap ∧ B ≤ g ∧ w.heap[g]? = some (Obj.cells cur 41 (0, 0)) ∧ w.cell? ⟨g, 0, none⟩ = some u0 ∧ InssO B w u0 (bs.getD 0 Blk.zero).ins := by
  obtain ⟨ps, rfl, h2, h3⟩ := h
  rw [List.length_map] at h0 ⊢
  rcases h2.2 with ⟨rfl, h00⟩ | ⟨g, cap, cur, rfl, hb, hg, _⟩
  · omega
  · have hp : ps[0]? = some ps[0] := List.getElem?_eq_getElem h0
    obtain ⟨g0, _⟩ := cellsB_get ps 0 _ hp
    have hc := h2.cells (g := g) rfl _ _ g0
    rw [Addr.add_lit] at hc
    refine ⟨g, cap, cur, ps[0].2, rfl, hb, hg, by simpa using hc, ?_⟩
    have hd : (ps.map (·.1)).getD 0 Blk.zero = ps[0].1 := by simp [h0]
    rw [hd]
    exact h3 _ (List.getElem_mem h0)
theorem app46_ok {B0 : Nat} {a : Act} {w : World} {o : Oper} {s y : Operand} {ui : Value} {is : List Ins} {h : Nat} {Q : Value → World → Prop} (hop : o.op = .call { callee := .builtin .append, args := #[s, y], argTypes := #[36, 36] }) (es : a.eval s = ui) (ey : a.eval y = .slice (some ⟨h, 0, none⟩) 1 1)
    (hO : InssO B0 w ui is) (hh : w.heap[h]? = some (Obj.cells (rowI insC (.slice none 0 0)) 46 (0, 0))) (hl : is.length ≤ 1000000) (hB : B0 ≤ w.heap.size) (hQ : ∀ v' w', InssO B0 w' v' (is ++ [insC]) → w.grownBy w' ui.ownBlock → Soft B0 w w' → Q v' w') :
    ∃ v' w', (execOp a.eval o).run Try.prog w = .ok (.value v') w' ∧ Q v' w' := by
  obtain ⟨v', w', hr, h2, h3, h4⟩ := run_app46 w o.type hO (x := insC) rfl hh hl hB
  refine ⟨v', w', ?_, hQ v' w' h2 h3 h4⟩
  unfold execOp
  simp only [hop, resolve, invoke, builtin, Sem.run_bind, Sem.run_pure, Result.andThen_ok, List.map_toArray, List.map_cons, List.map_nil, es, ey, hr]
theorem run_build46 {a : Act} {w : World} {o : Oper} (hop : o.op = .build 46 #[(0, .const (.int .u8 1))]) : (execOp a.eval o).run Try.prog w = .ok (.value (insV insC (.slice none 0 0))) w := by
  have e1 : a.eval (.const (.int .u8 1)) = .int .u8 1 := rfl
  generalize a.eval = ρ at e1 ⊢
  unfold execOp
  rw [hop]
  simp only [List.map_toArray, List.map_cons, List.map_nil, e1]
  go_simp
  rfl

set_option maxHeartbeats 8000000 in
set_option maxRecDepth 100000 in
theorem checks_walk (F : Fun) (uf : Option Addr) (cf : Nat) (sp : Value) (sa sb sc : Int) (sbs : List Int) (b k f n : Int) (w : World) (hF0 : BlksV w (.slice uf F.bs.length cf) F.bs) (hs : SpecV w sp sa sb sc sbs) (hb : 0 ≤ b ∧ b < 256) (hk : 0 ≤ k ∧ k < 256) (hf : 0 ≤ f ∧ f < 256) :
    Calls Try.prog 3 #[.agg #[.int .i64 F.p, .int .i64 F.v, .slice uf F.bs.length cf], sp, .int .u8 b, .int .u8 k, .int .u8 f, .int .i64 n] w fun r w' => r = .returned (.bool true) ∧ Below w.heap.size w w' := by
  have hs' := hs
  obtain ⟨us, rfl, hs1, hs2, hs3, hs4⟩ := hs'
  obtain ⟨ax, cx, rfl⟩ := hs4.slice
  have hBa := bel1 w (.cells #[.int .i64 F.p, .int .i64 F.v, .slice uf F.bs.length cf] 24)
  have hza : (w.alloc (.cells #[.int .i64 F.p, .int .i64 F.v, .slice uf F.bs.length cf] 24)).heap.size = w.heap.size + 1 := by simp
  have hBb := bel1 (w.alloc (.cells #[.int .i64 F.p, .int .i64 F.v, .slice uf F.bs.length cf] 24)) (.cells #[.int .u8 sa, .int .u8 sb, .int .u8 sc, .slice ax sbs.length cx] 27)
  have HBb := hide hBb
  have HZ := hide hza
  have hBab := hide (bel_of hBa hBb)
  have HF0 := hide ((hF0.below hBa).below hBb)
  have HS0 := hide ((hs.below hBa).below hBb)
  clear hF0 hs hBa hBb hza hs1 hs2 hs3 hs4
  go_enter Try.func3, Try.ntmps3
  go_wp2_with fail
  refine (awake_any _).mono ?_
  rintro r w1 ⟨rfl, hB1⟩
  obtain ⟨a0, a1, a2⟩ := boxF (bel_of HBb.out hB1)
  have hsx := boxS hB1
  rw [HZ.out] at hsx
  obtain ⟨s0, s1, s2, s3⟩ := hsx
  have HF1 := hide (HF0.out.below hB1)
  have HS1 := hide (HS0.out.below hB1)
  have hBw1 := hide (bel_of hBab.out hB1)
  have hL := hide (long_any _ F.bs w1 HF1.out)
  clear hB1 HBb HF0 HS0 hBab HZ
  go_wp2_with fail
  refine hL.out.mono ?_
  rintro r w2 ⟨⟨c, rfl⟩, hB2⟩
  have a0 := cell_below hB2 a0
  have a1 := cell_below hB2 a1
  have a2 := cell_below hB2 a2
  have s0 := cell_below hB2 s0
  have s1 := cell_below hB2 s1
  have s2 := cell_below hB2 s2
  have s3 := cell_below hB2 s3
  have HF2 := hide (HF1.out.below hB2)
  have HS2 := hide (HS1.out.below hB2)
  have hBw2 := hide (bel_of hBw1.out hB2)
  clear hL hB2 HF1 HS1 hBw1
  cases c with
  | true =>
    go_wp2_with fail
    go_ret
    exact ⟨rfl, hBw2.out⟩
  | false =>
    have hMd := hide (made_any _ sa sb sc sbs w2 HS2.out)
    have T0 := hide s0
    have T1 := hide s1
    have T2 := hide s2
    have T3' := hide s3
    have hright := made_right sa sb sc sbs
    generalize hMM : made sa sb sc sbs = M at hMd hright
    go_wp2_with fail
    refine hMd.out.mono ?_
    rintro r w3 ⟨um, rfl, hO3, hB3⟩
    have hBx := bel1 w3 (.cells #[.int .i64 M.p, .int .i64 M.v, um] 24)
    obtain ⟨ua, uc, rfl⟩ := hO3.v.slice
    have hB24 := bel_of hB3 hBx
    have a0 := cell_below hB24 a0
    have a1 := cell_below hB24 a1
    have a2 := cell_below hB24 a2
    have s0 := cell_below hB24 s0
    have s1 := cell_below hB24 s1
    have s2 := cell_below hB24 s2
    have s3 := cell_below hB24 s3
    obtain ⟨b0, b1, b2⟩ := boxF (Below.refl _ (w3.alloc (.cells #[.int .i64 M.p, .int .i64 M.v, .slice ua M.bs.length uc] 24)))
    have hF := HF2.out.below hB24
    have HS4 := hide (HS2.out.below hB24)
    have HO4 := hide (hO3.below hBx)
    have hg2 : (w3.alloc (.cells #[.int .i64 M.p, .int .i64 M.v, .slice ua M.bs.length uc] 24)).heap[w3.heap.size]? = some (Obj.cells (rowF M.p M.v (.slice ua M.bs.length uc)) 24 (0, 0)) := heap_alloc_new w3 _
    have HG2 := hide hg2
    have hBw4 := hide (bel_of hBw2.out hB24)
    have hsz24 : w2.heap.size ≤ (w3.alloc (.cells #[.int .i64 M.p, .int .i64 M.v, .slice ua M.bs.length uc] 24)).heap.size := hB24.size
    have HB24 := hide hB24
    have HO4l : Hid (0 < M.bs.length) := by
      have := made_len sa sb sc sbs
      rw [hMM] at this
      show 0 < _
      omega
    clear hMd hO3 hB3 hBx HF2 hg2 hB24
    go_wp2_with fail
    generalize (w3.alloc (.cells #[.int .i64 M.p, .int .i64 M.v, .slice ua M.bs.length uc] 24)) = w4 at *
    generalize hgz : w3.heap.size = g2 at b0 b1 b2 HG2 ⊢
    generalize hg1z : w.heap.size = g1 at a0 a1 a2 s0 s1 s2 s3 T0 T1 T2 T3' ⊢
    have hCM : ∀ W, Below w4.heap.size w4 W → Calls Try.prog 12 #[.agg #[.int .i64 M.p, .int .i64 M.v, .slice ua M.bs.length uc]] W fun r w' => r = .returned (faultV (0, 0, 0)) ∧ Below W.heap.size W w' := by
      intro W hW
      have := check_any M _ W ⟨_, rfl, HO4.out.v.below hW⟩
      rwa [hright] at this
    have hright' := hide hright
    generalize hufe : Value.slice uf F.bs.length cf = uff at hF a2
    generalize hume : Value.slice ua M.bs.length uc = um at hCM b2
    refine wp_region_each (by kernel_rfl) (fun d x _ => G6 g1 g2 F M uff um d x w4) (fun _ W => Below w4.heap.size w4 W) (by kernel_rfl) (Below.refl _ _).drew ?_ ?_
    · refine And.intro ?_ (And.intro ?_ (And.intro ?_ (And.intro ?_ (And.intro ?_ (And.intro ?_ (And.intro ?_ (And.intro ?_ (And.intro ?_ (And.intro ?_ (And.intro ?_ trivial))))))))))
      · refine asked_pure rfl rfl (fun _ _ h => h) (fun _ _ _ => rfl) (fun l a W H => ?_)
        have e6 : a.eval (.tmp 6) = .pointer (some ⟨g1, 0, none⟩) := H.base 6 rfl
        exact run_load24 rfl e6 (cell_below H.s a0) (cell_below H.s a1) (cell_below H.s a2)
      · refine asked_call rfl Try.func12 (by kernel_rfl) (by kernel_rfl) rfl rfl (fun l a W H => ?_)
        have e22 : a.eval (.tmp 22) = .agg #[.int .i64 F.p, .int .i64 F.v, uff] := H.facts 22 rfl
        have ea : (#[.tmp 22] : Array Operand).map a.eval = #[.agg #[.int .i64 F.p, .int .i64 F.v, uff]] := by
          simp only [List.map_toArray, List.map_cons, List.map_nil, e22]
        rw [ea]
        refine (check_any F _ W ⟨uff, rfl, hF.below H.s⟩).mono ?_
        rintro x w' ⟨rfl, hB⟩
        exact ⟨_, rfl, rfl, bel_of H.s hB, fun _ _ _ h => h⟩
      · refine asked_pure rfl rfl (fun _ _ h => h) (fun _ _ _ => rfl) (fun l a W H => ?_)
        have e6 : a.eval (.tmp 6) = .pointer (some ⟨g1, 0, none⟩) := H.base 6 rfl
        exact run_load24 rfl e6 (cell_below H.s a0) (cell_below H.s a1) (cell_below H.s a2)
      · refine asked_call rfl Try.func13 (by kernel_rfl) (by kernel_rfl) rfl rfl (fun l a W H => ?_)
        have e24 : a.eval (.tmp 24) = .agg #[.int .i64 F.p, .int .i64 F.v, uff] := H.facts 24 rfl
        have ea : (#[.tmp 24] : Array Operand).map a.eval = #[.agg #[.int .i64 F.p, .int .i64 F.v, uff]] := by
          simp only [List.map_toArray, List.map_cons, List.map_nil, e24]
        rw [ea]
        refine (refFunc_any F _ W ⟨uff, rfl, hF.below H.s⟩).mono ?_
        rintro x w' ⟨rfl, hB⟩
        exact ⟨_, rfl, rfl, bel_of H.s hB, fun _ _ _ h => h⟩
      · refine asked_pure rfl rfl (fun _ _ h => h) (fun _ _ _ => rfl) (fun l a W H => ?_)
        have e23 : a.eval (.tmp 23) = faultV (chk F) := H.facts 23 rfl
        have e25 : a.eval (.tmp 25) = faultV (chk F) := H.facts 25 rfl
        exact run_neq33_same rfl e23 e25
      · refine asked_pure rfl rfl (fun _ _ h => h) (fun _ _ _ => rfl) (fun l a W H => ?_)
        have e26 : a.eval (.tmp 26) = .bool (false) := H.facts 26 rfl
        exact run_move rfl e26
      · refine asked_guard (c := (!(false))) (v := .agg #[.int .i64 M.p, .int .i64 M.v, um]) rfl rfl rfl rfl (fun _ _ h => h) ?_ (fun _ _ _ => rfl) ?_
        · intro l u W _ hu
          have hu : u = .bool (false) := hu
          exact want_f hu
        intro hc l a W H
        have e13 : a.eval (.tmp 13) = .pointer (some ⟨g2, 0, none⟩) := H.base 13 rfl
        exact run_load24 rfl e13 (cell_below H.s b0) (cell_below H.s b1) (cell_below H.s b2)
      · refine asked_gcall (c := (!(false))) rfl rfl rfl Try.func12 (by kernel_rfl) (by kernel_rfl) rfl rfl ?_ ?_ ?_
        · intro l u W _ hu
          have hu : u = .bool (false) := hu
          exact want_f hu
        · intro hc l W hS
          first | exact absurd hc (by decide) | exact ⟨(if_neg (by rw [hc]; simp)).symm, hS⟩
        intro hc l a W H
        have e28 : a.eval (.tmp 28) = .agg #[.int .i64 M.p, .int .i64 M.v, um] := by
          have e : a.eval (.tmp 28) = if (!(false)) = true then .agg #[.int .i64 M.p, .int .i64 M.v, um] else undef := H.facts 28 rfl
          rw [if_pos hc] at e
          exact e
        have ea : (#[.tmp 28] : Array Operand).map a.eval = #[.agg #[.int .i64 M.p, .int .i64 M.v, um]] := by
          simp only [List.map_toArray, List.map_cons, List.map_nil, e28]
        rw [ea]
        refine (hCM W H.s).mono ?_
        rintro x w' ⟨rfl, hB⟩
        exact ⟨_, rfl, (if_pos hc).symm, bel_of H.s hB, fun _ _ _ h => h⟩
      · refine asked_guard (c := (!(false))) (v := faultV (0, 0, 0)) rfl rfl rfl rfl (fun _ _ h => h) ?_ (fun _ _ _ => rfl) ?_
        · intro l u W _ hu
          have hu : u = .bool (false) := hu
          exact want_f hu
        intro hc l a W H
        exact run_build33 rfl
      · refine asked_guard (c := (!(false))) (v := .bool (false)) rfl rfl rfl rfl (fun _ _ h => h) ?_ (fun _ _ _ => rfl) ?_
        · intro l u W _ hu
          have hu : u = .bool (false) := hu
          exact want_f hu
        intro hc l a W H
        have e29 : a.eval (.tmp 29) = faultV (0, 0, 0) := by
          have e : a.eval (.tmp 29) = if (!(false)) = true then faultV (0, 0, 0) else undef := H.facts 29 rfl
          rw [if_pos hc] at e
          exact e
        have e30 : a.eval (.tmp 30) = faultV (0, 0, 0) := by
          have e : a.eval (.tmp 30) = if (!(false)) = true then faultV (0, 0, 0) else undef := H.facts 30 rfl
          rw [if_pos hc] at e
          exact e
        exact run_neq33_same rfl e29 e30
      · refine asked_pure rfl rfl (fun _ _ h => h) (fun _ _ _ => rfl) (fun l a W H => ?_)
        have e27 : a.eval (.tmp 27) = .bool (false) := H.facts 27 rfl
        exact run_pick_or rfl e27 (fun hb => by
          have hc : (!(false)) = true := by simp_all
          have e31 : a.eval (.tmp 31) = .bool (false) := by
            have e : a.eval (.tmp 31) = if (!(false)) = true then .bool (false) else undef := H.facts 31 rfl
            rw [if_pos hc] at e
            exact e
          exact e31)
    · intro l s W _ hS hs
      have h32 : s 32 = .bool false := hs 32 rfl
      subst hufe
      subst hume
      have a0 := cell_below hS a0
      have s0 := cell_below hS s0
      have s1 := cell_below hS s1
      have s2 := cell_below hS s2
      have s3 := cell_below hS s3
      have b0 := cell_below hS b0
      have b1 := cell_below hS b1
      have b2 := cell_below hS b2
      have HG5 : Hid (W.heap[g2]? = some (Obj.cells (rowF M.p M.v (.slice ua M.bs.length uc)) 24 (0, 0))) := by
        show _ = _
        rw [hS.block g2 (Array.getElem?_eq_some_iff.1 HG2.out).1]
        exact HG2.out
      have HS5 := hide (HS4.out.below hS)
      have HO5 := hide (HO4.out.below hS)
      have hBw5 := hide (bel_of hBw4.out hS)
      have hszW : w2.heap.size ≤ W.heap.size := Nat.le_trans hsz24 hS.size
      have HBS := hide hS
      have hT := hide (turn_any w2.heap.size _ M.bs b k f n W HO5.out hszW hb.1 hb.2 hk.1 hk.2 hf.1 (right_small hright'.out))
      clear hs hS hCM HO4 HS4 hBw4 hF a1 a2 HG2 hright s0 s1 s2 s3 hszW hsz24
      simp [overlay, dstsOf, h32]
      go_wp2_with fail
      refine hT.out.mono ?_
      rintro r w6 ⟨rfl, hSf, hB6, hK6⟩
      obtain ⟨bs', hbl, hO6⟩ := HO5.out.soft hSf
      have hg6 := hK6 _ _ _ _ rfl HG5.out
      have b0 : w6.cell? ⟨g2, 0, none⟩ = some (.int .i64 M.p) := by rw [cell_of_row _ _ _ _ _ _ hg6]; rfl
      have b1 : w6.cell? ⟨g2, 1, none⟩ = some (.int .i64 M.v) := by rw [cell_of_row _ _ _ _ _ _ hg6]; rfl
      have b2 : w6.cell? ⟨g2, 2, none⟩ = some (.slice ua M.bs.length uc) := by rw [cell_of_row _ _ _ _ _ _ hg6]; rfl
      have hB26 : Below w2.heap.size w2 w6 := (bel_of HB24.out HBS.out).trans hB6
      have HS6 := hide (HS2.out.below hB26)
      have s0 := cell_below hB26 T0.out
      have s1 := cell_below hB26 T1.out
      have s2 := cell_below hB26 T2.out
      have s3 := cell_below hB26 T3'.out
      have hBw6 := hide (bel_of hBw2.out hB26)
      obtain ⟨M2, e1, e2, e3⟩ : ∃ M2 : Fun, M2.p = M.p ∧ M2.v = M.v ∧ M2.bs = bs' := ⟨⟨M.p, M.v, bs'⟩, rfl, rfl, rfl⟩
      have hM := hO6.v
      rw [← e3] at hM
      rw [← e1] at b0
      rw [← e2] at b1
      clear hT hSf hB6 hK6 hO6 hg6 HO5 HG5 e1 e2 e3 HS5 hBw5 a0 hbl
      go_wp2_with fail
      generalize hume : Value.slice ua M.bs.length uc = um at hM b2
      refine wp_region_each (by kernel_rfl) (fun d x _ => G9 g2 M2 um d x w6) (fun _ W => Below w6.heap.size w6 W) (by kernel_rfl) (Below.refl _ _).drew ?_ ?_
      · refine And.intro ?_ (And.intro ?_ (And.intro ?_ (And.intro ?_ (And.intro ?_ trivial))))
        · refine asked_pure rfl rfl (fun _ _ h => h) (fun _ _ _ => rfl) (fun l a W H => ?_)
          have e13 : a.eval (.tmp 13) = .pointer (some ⟨g2, 0, none⟩) := H.base 13 rfl
          exact run_load24 rfl e13 (cell_below H.s b0) (cell_below H.s b1) (cell_below H.s b2)
        · refine asked_call rfl Try.func12 (by kernel_rfl) (by kernel_rfl) rfl rfl (fun l a W H => ?_)
          have e40 : a.eval (.tmp 40) = .agg #[.int .i64 M2.p, .int .i64 M2.v, um] := H.facts 40 rfl
          have ea : (#[.tmp 40] : Array Operand).map a.eval = #[.agg #[.int .i64 M2.p, .int .i64 M2.v, um]] := by
            simp only [List.map_toArray, List.map_cons, List.map_nil, e40]
          rw [ea]
          refine (check_any M2 _ W ⟨um, rfl, hM.below H.s⟩).mono ?_
          rintro x w' ⟨rfl, hB⟩
          exact ⟨_, rfl, rfl, bel_of H.s hB, fun _ _ _ h => h⟩
        · refine asked_pure rfl rfl (fun _ _ h => h) (fun _ _ _ => rfl) (fun l a W H => ?_)
          have e13 : a.eval (.tmp 13) = .pointer (some ⟨g2, 0, none⟩) := H.base 13 rfl
          exact run_load24 rfl e13 (cell_below H.s b0) (cell_below H.s b1) (cell_below H.s b2)
        · refine asked_call rfl Try.func13 (by kernel_rfl) (by kernel_rfl) rfl rfl (fun l a W H => ?_)
          have e42 : a.eval (.tmp 42) = .agg #[.int .i64 M2.p, .int .i64 M2.v, um] := H.facts 42 rfl
          have ea : (#[.tmp 42] : Array Operand).map a.eval = #[.agg #[.int .i64 M2.p, .int .i64 M2.v, um]] := by
            simp only [List.map_toArray, List.map_cons, List.map_nil, e42]
          rw [ea]
          refine (refFunc_any M2 _ W ⟨um, rfl, hM.below H.s⟩).mono ?_
          rintro x w' ⟨rfl, hB⟩
          exact ⟨_, rfl, rfl, bel_of H.s hB, fun _ _ _ h => h⟩
        · refine asked_pure rfl rfl (fun _ _ h => h) (fun _ _ _ => rfl) (fun l a W H => ?_)
          have e41 : a.eval (.tmp 41) = faultV (chk M2) := H.facts 41 rfl
          have e43 : a.eval (.tmp 43) = faultV (chk M2) := H.facts 43 rfl
          exact run_neq33_same rfl e41 e43
      · intro l s W9 _ hS9 hs9
        have h44 : s 44 = .bool false := hs9 44 rfl
        have s0 := cell_below hS9 s0
        have s1 := cell_below hS9 s1
        have s2 := cell_below hS9 s2
        have s3 := cell_below hS9 s3
        have HS9 := hide (HS6.out.below hS9)
        have hBw9 := hide (bel_of hBw6.out hS9)
        have hMd2 := hide (made_any _ sa sb sc sbs W9 HS9.out)
        rw [hMM] at hMd2
        clear hs9 hS9 b0 b1 b2 hM hB26 HS6 hBw6 hume
        simp [overlay, dstsOf, h44]
        go_wp2_with fail
        refine hMd2.out.mono ?_
        rintro r w10 ⟨u10, rfl, hO10, hB10⟩
        obtain ⟨xa, xc, rfl⟩ := hO10.v.slice
        have HO10 := hide hO10
        have hBw10 := hide (bel_of hBw9.out hB10)
        have hszW9 : W9.heap.size ≤ w10.heap.size := hB10.size
        clear hO10 hB10 hMd2 s0 s1 s2 s3
        have hf3 : f.tmod 3 = f % 3 := Int.tmod_eq_emod_of_nonneg hf.1
        have hfr : f % 3 = 0 ∨ f % 3 = 1 ∨ f % 3 = 2 := by omega
        rcases hfr with h0 | h0 | h0
        · rw [h0] at hf3
          have hBx := bel1 w10 (.cells #[.int .i64 n, .int .i64 M.v, .slice xa M.bs.length xc] 24)
          obtain ⟨b0, b1, b2⟩ := boxF (Below.refl _ (w10.alloc (.cells #[.int .i64 n, .int .i64 M.v, .slice xa M.bs.length xc] 24)))
          have hBW := hide (bel_of hBw10.out hBx)
          have hM := HO10.out.v.below hBx
          clear hBx
          go_wp2_with fail
          generalize (w10.alloc (.cells #[.int .i64 n, .int .i64 M.v, .slice xa M.bs.length xc] 24)) = W0 at *
          generalize w10.heap.size = ph at b0 b1 b2 ⊢
          generalize hume : Value.slice xa M.bs.length xc = um at hM b2
          obtain ⟨M3, e1, e2, e3⟩ : ∃ M3 : Fun, M3.p = n ∧ M3.v = M.v ∧ M3.bs = M.bs := ⟨⟨n, M.v, M.bs⟩, rfl, rfl, rfl⟩
          rw [← e3] at hM
          rw [← e1] at b0
          rw [← e2] at b1
          clear e1 e2 e3
          refine wp_region_each (by kernel_rfl) (fun d x _ => G21 ph M3 um d x W0) (fun _ W => Below W0.heap.size W0 W) (by kernel_rfl) (Below.refl _ _).drew ?_ ?_
          · refine And.intro ?_ (And.intro ?_ (And.intro ?_ (And.intro ?_ (And.intro ?_ (And.intro ?_ trivial)))))
            · refine asked_pure rfl rfl (fun _ _ h => h) (fun _ _ _ => rfl) (fun l a W H => ?_)
              have e14 : a.eval (.tmp 14) = .pointer (some ⟨ph, 0, none⟩) := H.base 14 rfl
              exact run_load24 rfl e14 (cell_below H.s b0) (cell_below H.s b1) (cell_below H.s b2)
            · refine asked_call rfl Try.func12 (by kernel_rfl) (by kernel_rfl) rfl rfl (fun l a W H => ?_)
              have e74 : a.eval (.tmp 74) = .agg #[.int .i64 M3.p, .int .i64 M3.v, um] := H.facts 74 rfl
              have ea : (#[.tmp 74] : Array Operand).map a.eval = #[.agg #[.int .i64 M3.p, .int .i64 M3.v, um]] := by
                simp only [List.map_toArray, List.map_cons, List.map_nil, e74]
              rw [ea]
              refine (check_any M3 _ W ⟨um, rfl, hM.below H.s⟩).mono ?_
              rintro x w' ⟨rfl, hB⟩
              exact ⟨_, rfl, rfl, bel_of H.s hB, fun _ _ _ h => h⟩
            · refine asked_pure rfl rfl (fun _ _ h => h) (fun _ _ _ => rfl) (fun l a W H => ?_)
              have e14 : a.eval (.tmp 14) = .pointer (some ⟨ph, 0, none⟩) := H.base 14 rfl
              exact run_load24 rfl e14 (cell_below H.s b0) (cell_below H.s b1) (cell_below H.s b2)
            · refine asked_call rfl Try.func13 (by kernel_rfl) (by kernel_rfl) rfl rfl (fun l a W H => ?_)
              have e76 : a.eval (.tmp 76) = .agg #[.int .i64 M3.p, .int .i64 M3.v, um] := H.facts 76 rfl
              have ea : (#[.tmp 76] : Array Operand).map a.eval = #[.agg #[.int .i64 M3.p, .int .i64 M3.v, um]] := by
                simp only [List.map_toArray, List.map_cons, List.map_nil, e76]
              rw [ea]
              refine (refFunc_any M3 _ W ⟨um, rfl, hM.below H.s⟩).mono ?_
              rintro x w' ⟨rfl, hB⟩
              exact ⟨_, rfl, rfl, bel_of H.s hB, fun _ _ _ h => h⟩
            · refine asked_pure rfl rfl (fun _ _ h => h) (fun _ _ _ => rfl) (fun l a W H => ?_)
              have e75 : a.eval (.tmp 75) = faultV (chk M3) := H.facts 75 rfl
              have e77 : a.eval (.tmp 77) = faultV (chk M3) := H.facts 77 rfl
              exact run_eql33_same rfl e75 e77
            · refine asked_pure rfl rfl (fun _ _ h => h) (fun _ _ _ => rfl) (fun l a W H => ?_)
              have e78 : a.eval (.tmp 78) = .bool (true) := H.facts 78 rfl
              exact run_assign rfl e78
          · intro l s W _ hS hs
            have h12 : s 12 = .bool true := hs 12 rfl
            have hBf := bel_of hBW.out hS
            clear hs hS
            simp [overlay, dstsOf]
            go_wp2
            go_ret
            rw [h12]
            exact ⟨rfl, hBf⟩
        · rw [h0] at hf3
          have hBx := bel1 w10 (.cells #[.int .i64 M.p, .int .i64 n, .slice xa M.bs.length xc] 24)
          obtain ⟨b0, b1, b2⟩ := boxF (Below.refl _ (w10.alloc (.cells #[.int .i64 M.p, .int .i64 n, .slice xa M.bs.length xc] 24)))
          have hBW := hide (bel_of hBw10.out hBx)
          have hM := HO10.out.v.below hBx
          clear hBx
          go_wp2_with fail
          generalize (w10.alloc (.cells #[.int .i64 M.p, .int .i64 n, .slice xa M.bs.length xc] 24)) = W0 at *
          generalize w10.heap.size = ph at b0 b1 b2 ⊢
          generalize hume : Value.slice xa M.bs.length xc = um at hM b2
          obtain ⟨M3, e1, e2, e3⟩ : ∃ M3 : Fun, M3.p = M.p ∧ M3.v = n ∧ M3.bs = M.bs := ⟨⟨M.p, n, M.bs⟩, rfl, rfl, rfl⟩
          rw [← e3] at hM
          rw [← e1] at b0
          rw [← e2] at b1
          clear e1 e2 e3
          refine wp_region_each (by kernel_rfl) (fun d x _ => G21 ph M3 um d x W0) (fun _ W => Below W0.heap.size W0 W) (by kernel_rfl) (Below.refl _ _).drew ?_ ?_
          · refine And.intro ?_ (And.intro ?_ (And.intro ?_ (And.intro ?_ (And.intro ?_ (And.intro ?_ trivial)))))
            · refine asked_pure rfl rfl (fun _ _ h => h) (fun _ _ _ => rfl) (fun l a W H => ?_)
              have e14 : a.eval (.tmp 14) = .pointer (some ⟨ph, 0, none⟩) := H.base 14 rfl
              exact run_load24 rfl e14 (cell_below H.s b0) (cell_below H.s b1) (cell_below H.s b2)
            · refine asked_call rfl Try.func12 (by kernel_rfl) (by kernel_rfl) rfl rfl (fun l a W H => ?_)
              have e74 : a.eval (.tmp 74) = .agg #[.int .i64 M3.p, .int .i64 M3.v, um] := H.facts 74 rfl
              have ea : (#[.tmp 74] : Array Operand).map a.eval = #[.agg #[.int .i64 M3.p, .int .i64 M3.v, um]] := by
                simp only [List.map_toArray, List.map_cons, List.map_nil, e74]
              rw [ea]
              refine (check_any M3 _ W ⟨um, rfl, hM.below H.s⟩).mono ?_
              rintro x w' ⟨rfl, hB⟩
              exact ⟨_, rfl, rfl, bel_of H.s hB, fun _ _ _ h => h⟩
            · refine asked_pure rfl rfl (fun _ _ h => h) (fun _ _ _ => rfl) (fun l a W H => ?_)
              have e14 : a.eval (.tmp 14) = .pointer (some ⟨ph, 0, none⟩) := H.base 14 rfl
              exact run_load24 rfl e14 (cell_below H.s b0) (cell_below H.s b1) (cell_below H.s b2)
            · refine asked_call rfl Try.func13 (by kernel_rfl) (by kernel_rfl) rfl rfl (fun l a W H => ?_)
              have e76 : a.eval (.tmp 76) = .agg #[.int .i64 M3.p, .int .i64 M3.v, um] := H.facts 76 rfl
              have ea : (#[.tmp 76] : Array Operand).map a.eval = #[.agg #[.int .i64 M3.p, .int .i64 M3.v, um]] := by
                simp only [List.map_toArray, List.map_cons, List.map_nil, e76]
              rw [ea]
              refine (refFunc_any M3 _ W ⟨um, rfl, hM.below H.s⟩).mono ?_
              rintro x w' ⟨rfl, hB⟩
              exact ⟨_, rfl, rfl, bel_of H.s hB, fun _ _ _ h => h⟩
            · refine asked_pure rfl rfl (fun _ _ h => h) (fun _ _ _ => rfl) (fun l a W H => ?_)
              have e75 : a.eval (.tmp 75) = faultV (chk M3) := H.facts 75 rfl
              have e77 : a.eval (.tmp 77) = faultV (chk M3) := H.facts 77 rfl
              exact run_eql33_same rfl e75 e77
            · refine asked_pure rfl rfl (fun _ _ h => h) (fun _ _ _ => rfl) (fun l a W H => ?_)
              have e78 : a.eval (.tmp 78) = .bool (true) := H.facts 78 rfl
              exact run_assign rfl e78
          · intro l s W _ hS hs
            have h12 : s 12 = .bool true := hs 12 rfl
            have hBf := bel_of hBW.out hS
            clear hs hS
            simp [overlay, dstsOf]
            go_wp2
            go_ret
            rw [h12]
            exact ⟨rfl, hBf⟩
        · rw [h0] at hf3
          obtain ⟨g, cap, cur, u0, hxe, hBg, hgr, hcell0, hI0⟩ := blks_first HO10.out HO4l.out
          simp only [Value.slice.injEq, true_and] at hxe
          obtain ⟨rfl, rfl⟩ := hxe
          have hsmall := (right_small hright'.out (M.bs.getD 0 Blk.zero) (by simp [List.getElem?_eq_getElem HO4l.out])).1
          have hBx := bel1 w10 (.cells #[.int .i64 M.p, .int .i64 M.v, .slice (some ⟨g, 0, none⟩) M.bs.length xc] 24)
          have hfld : (w10.alloc (.cells #[.int .i64 M.p, .int .i64 M.v, .slice (some ⟨g, 0, none⟩) M.bs.length xc] 24)).heap[w10.heap.size]? = some (Obj.cells (rowF M.p M.v (.slice (some ⟨g, 0, none⟩) M.bs.length xc)) 24 (0, 0)) := heap_alloc_new w10 _
          have hbr : b.tmod 40 = b % 40 := Int.tmod_eq_emod_of_nonneg hb.1
          obtain ⟨cn, hcn⟩ : ∃ cn : Nat, (cn : Int) = b % 40 := ⟨(b % 40).toNat, by omega⟩
          rw [← hcn] at hbr
          have hcn40 : cn < 40 := by omega
          have hI11 := hI0.keeps (Keeps.below hBx)
          have hc11 := cell_below hBx hcell0
          have hg11 : (w10.alloc (.cells #[.int .i64 M.p, .int .i64 M.v, .slice (some ⟨g, 0, none⟩) M.bs.length xc] 24)).heap[g]? = some (Obj.cells cur 41 (0, 0)) := by rw [hBx.block g (Array.getElem?_eq_some_iff.1 hgr).1]; exact hgr
          have HO11 := hide (HO10.out.below hBx)
          have hBW11 := hide (bel_of hBw10.out hBx)
          have hsz11 : W9.heap.size ≤ (w10.alloc (.cells #[.int .i64 M.p, .int .i64 M.v, .slice (some ⟨g, 0, none⟩) M.bs.length xc] 24)).heap.size := Nat.le_trans hszW9 hBx.size
          generalize hph : w10.heap.size = ph at hfld ⊢
          have HREL : Hid (∃ (i : Nat) (u0 : Value) (is : List Ins), i ≤ cn ∧ (.int .u8 0 : Value) = .int .u8 i ∧ S15 W9.heap.size ph g M.bs.length xc M.p M.v u0 is (w10.alloc (.cells #[.int .i64 M.p, .int .i64 M.v, .slice (some ⟨g, 0, none⟩) M.bs.length xc] 24)) (fun _ => false) (w10.alloc (.cells #[.int .i64 M.p, .int .i64 M.v, .slice (some ⟨g, 0, none⟩) M.bs.length xc] 24)) ∧ is.length ≤ 100000 + i) :=
            ⟨0, u0, _, by omega, rfl, ⟨hfld, ⟨_, hg11⟩, fun _ => hc11, fun _ => hI11, fun h => by simp at h, fun k e => (hI11.ownlt k e).2.1, Soft.refl _ _, Below.refl _ _, hsz11⟩, by omega⟩
          clear hfld hI11 hc11 hg11 hI0 hcell0 hgr hcn
          go_wp2_with fail
          generalize (w10.alloc (.cells #[.int .i64 M.p, .int .i64 M.v, .slice (some ⟨g, 0, none⟩) M.bs.length xc] 24)) = w11 at *
          have hnbM : 0 < M.bs.length := HO4l.out
          go_loopw [51] (fun iv wr => ∃ (i : Nat) (u0 : Value) (is : List Ins), i ≤ cn ∧ iv = .int .u8 i ∧ S15 W9.heap.size ph g M.bs.length xc M.p M.v u0 is w11 (fun _ => false) wr ∧ is.length ≤ 100000 + i) (fun iv _ => cn - (intOf iv).toNat)
          case atStart => exact HREL.out
          case round =>
            rename World => ws
            obtain ⟨i, u0, is, hi, rfl, hS15, hisl⟩ := hrel
            by_cases hlt : i < cn
            · have hlt' : (i : Int) < (cn : Int) := by omega
              have hil : is.length ≤ 1000000 := by omega
              have hu0 : ∃ aa an ac, u0 = .slice aa an ac := by
                obtain ⟨q1, q2, q3⟩ := (hS15.inss rfl).v.slice
                exact ⟨_, _, _, q3⟩
              generalize hnbe : M.bs.length = nb at *
              have hnb0' : 0 < nb := hnbM
              go_wp2_with fail
              generalize hBBe : W9.heap.size = B at *
              refine wp_region_each (by kernel_rfl) (fun t y W => G15 B ph g nb xc u0 is t y W) (fun l W => S15 B ph g nb xc M.p M.v u0 is w11 l W) (by kernel_rfl) ⟨hS15.fld, hS15.row, hS15.cell, fun h => (hS15.inss h).keeps (Keeps.drew _), fun h => by simp at h, hS15.own, hS15.soft.trans (Soft.below (Below.refl _ _).drew), hS15.below.drew, hS15.sz⟩ ?_ ?_
              · refine And.intro ?_ (And.intro ?_ (And.intro ?_ (And.intro ?_ (And.intro ?_ (And.intro ?_ (And.intro ?_ (And.intro ?_ (And.intro ?_ (And.intro ?_ (And.intro ?_ (And.intro ?_ (And.intro ?_ trivial))))))))))))
                · refine asked_pure rfl rfl (fun _ _ h => h.skip (by decide) (by decide)) (fun _ _ _ => rfl) (fun l a W H => ?_)
                  have e14 : a.eval (.tmp 14) = .pointer (some ⟨ph, 0, none⟩) := H.base 14 rfl
                  (simp only [execOp]; try simp only [Option.map]); (try simp only [List.map_toArray, List.map_cons, List.map_nil]); (simp only [e14]; go_simp)
                · refine asked_pure rfl rfl (fun _ _ h => h.skip (by decide) (by decide)) (fun _ _ _ => rfl) (fun l a W H => ?_)
                  have e53 : a.eval (.tmp 53) = .pointer (some ⟨ph, 2, none⟩) := H.facts 53 rfl
                  have hcc : W.cell? ⟨ph, 2, none⟩ = some (.slice (some ⟨g, 0, none⟩) nb xc) := by rw [cell_of_row _ _ _ _ _ _ H.s.fld]; rfl
                  (simp only [execOp]; try simp only [Option.map]); (try simp only [List.map_toArray, List.map_cons, List.map_nil]); (simp only [e53]; go_simp)
                · refine asked_pure rfl rfl (fun _ _ h => h.skip (by decide) (by decide)) (fun _ _ _ => rfl) (fun l a W H => ?_)
                  have e14 : a.eval (.tmp 14) = .pointer (some ⟨ph, 0, none⟩) := H.base 14 rfl
                  (simp only [execOp]; try simp only [Option.map]); (try simp only [List.map_toArray, List.map_cons, List.map_nil]); (simp only [e14]; go_simp)
                · refine asked_pure rfl rfl (fun _ _ h => h.skip (by decide) (by decide)) (fun _ _ _ => rfl) (fun l a W H => ?_)
                  have e55 : a.eval (.tmp 55) = .pointer (some ⟨ph, 2, none⟩) := H.facts 55 rfl
                  have hcc : W.cell? ⟨ph, 2, none⟩ = some (.slice (some ⟨g, 0, none⟩) nb xc) := by rw [cell_of_row _ _ _ _ _ _ H.s.fld]; rfl
                  (simp only [execOp]; try simp only [Option.map]); (try simp only [List.map_toArray, List.map_cons, List.map_nil]); (simp only [e55]; go_simp)
                · refine asked_pure rfl rfl (fun _ _ h => h.skip (by decide) (by decide)) (fun _ _ _ => rfl) (fun l a W H => ?_)
                  have e56 : a.eval (.tmp 56) = .slice (some ⟨g, 0, none⟩) nb xc := H.facts 56 rfl
                  have hnb0 : (0 : Int) < (nb : Int) := by omega
                  (simp only [execOp]; try simp only [Option.map]); (try simp only [List.map_toArray, List.map_cons, List.map_nil]); (simp only [e56]; go_simp)
                · refine asked_pure rfl rfl (fun _ _ h => h.skip (by decide) (by decide)) (fun _ _ _ => rfl) (fun l a W H => ?_)
                  have e57 : a.eval (.tmp 57) = .pointer (some ⟨g, 0, none⟩) := H.facts 57 rfl
                  (simp only [execOp]; try simp only [Option.map]); (try simp only [List.map_toArray, List.map_cons, List.map_nil]); (simp only [e57]; go_simp)
                · refine asked_any rfl (fun l a W H => ?_)
                  have e58 : a.eval (.tmp 58) = .pointer (some ⟨g, 0, none⟩) := H.facts 58 rfl
                  have hl12 : l 12 = false := by
                    cases h12 : l 12 with
                    | false => rfl
                    | true =>
                      have h1 := H.closed 9 6 (by rfl) (H.closed 12 9 (by rfl) h12)
                      rw [H.new] at h1
                      cases h1
                  have hcc := H.s.cell hl12
                  refine ⟨u0, W, ?_, fun d hd => by cases hd; exact rfl, H.s.skip (by decide) (by decide), fun _ _ _ h => h⟩
                  obtain ⟨aa, an, ac, rfl⟩ := hu0
                  (simp only [execOp]; try simp only [Option.map]); (try simp only [List.map_toArray, List.map_cons, List.map_nil]); (simp only [e58]; go_simp)
                · refine asked_pure rfl rfl (fun _ _ h => h.skip (by decide) (by decide)) (fun _ _ _ => rfl) (fun l a W H => ?_)
                  exact run_build46 rfl
                · refine asked_any rfl (fun l a W H => ?_)
                  have e60 : a.eval (.tmp 60) = insV insC (.slice none 0 0) := H.facts 60 rfl
                  have hB := (Below.refl W.heap.size W).alloc (Nat.le_refl _) (.cells (rowI insC (.slice none 0 0)) 46)
                  refine ⟨.slice (some ⟨W.heap.size, 0, none⟩) 1 1, W.alloc (.cells (rowI insC (.slice none 0 0)) 46), ?_, fun d hd => by cases hd; exact ⟨_, rfl, heap_alloc_new W _, fun e => by have := H.s.own _ e; omega⟩, H.s.alloc hB, fun _ _ _ h => G15_keeps (T := T46) h (Keeps.below hB)⟩
                  unfold insV insC at e60
                  unfold rowI insC
                  (simp only [execOp]; try simp only [Option.map]); (try simp only [List.map_toArray, List.map_cons, List.map_nil]); (simp only [e60]; go_simp)
                · refine asked_any rfl (fun l a W H => ?_)
                  have e59 : a.eval (.tmp 59) = u0 := H.facts 59 rfl
                  obtain ⟨h, e61, hh, hne⟩ : ∃ h, a.eval (.tmp 61) = .slice (some ⟨h, 0, none⟩) 1 1 ∧ W.heap[h]? = some (Obj.cells (rowI insC (.slice none 0 0)) 46 (0, 0)) ∧ u0.ownBlock ≠ some h := H.facts 61 rfl
                  have hl12 : l 12 = false := by
                    cases h12 : l 12 with
                    | false => rfl
                    | true =>
                      have h1 := H.closed 12 9 (by rfl) h12
                      rw [H.new] at h1
                      cases h1
                  have hO := H.s.inss H.new
                  refine app46_ok rfl e59 e61 hO hh hil H.s.sz fun v' w' q1 q2 q3 => ?_
                  exact ⟨fun d hd => by cases hd; exact q1, H.s.app hO q2 q3 hl12, fun _ _ hd h => G15_app h hd hO q2⟩
                · refine asked_pure rfl rfl (fun _ _ h => h.skip (by decide) (by decide)) (fun _ _ _ => rfl) (fun l a W H => ?_)
                  have e54 : a.eval (.tmp 54) = .slice (some ⟨g, 0, none⟩) nb xc := H.facts 54 rfl
                  have hnb0 : (0 : Int) < (nb : Int) := by omega
                  (simp only [execOp]; try simp only [Option.map]); (try simp only [List.map_toArray, List.map_cons, List.map_nil]); (simp only [e54]; go_simp)
                · refine asked_pure rfl rfl (fun _ _ h => h.skip (by decide) (by decide)) (fun _ _ _ => rfl) (fun l a W H => ?_)
                  have e63 : a.eval (.tmp 63) = .pointer (some ⟨g, 0, none⟩) := H.facts 63 rfl
                  (simp only [execOp]; try simp only [Option.map]); (try simp only [List.map_toArray, List.map_cons, List.map_nil]); (simp only [e63]; go_simp)
                · refine asked_skip rfl rfl (fun l a W H => ?_)
                  have e64 : a.eval (.tmp 64) = .pointer (some ⟨g, 0, none⟩) := H.facts 64 rfl
                  have hO : InssO B W (a.eval (.tmp 62)) (is ++ [insC]) := H.facts 62 rfl
                  generalize e62 : a.eval (.tmp 62) = y at hO
                  obtain ⟨ya, yc, rfl⟩ := hO.v.slice
                  have hcc := H.s.cell H.new
                  obtain ⟨cs, hcs⟩ := H.s.row
                  have hf : W.frozen? ⟨g, 0, none⟩ = false := frozen_of_row _ _ _ _ _ hcs
                  refine ⟨W.setCell ⟨g, 0, none⟩ (.slice ya (is ++ [insC]).length yc), ?_, H.s.store hcc hcs hO hBg, fun _ _ h => G15_keeps (T := T46) h (Keeps.set hcs rfl _)⟩
                  obtain ⟨aa, an, ac, rfl⟩ := hu0
                  (simp only [execOp]; try simp only [Option.map]); (try simp only [List.map_toArray, List.map_cons, List.map_nil]); (simp only [e62, e64]; go_simp)
              · intro l s W hall hS _
                obtain ⟨u, q1, q2⟩ := hS.done (hall 12 (by decide))
                have q3 : S15 B ph g nb xc M.p M.v u (is ++ [insC]) w11 (fun _ => false) W := ⟨hS.fld, hS.row, fun _ => q1, fun _ => q2, fun h => by simp at h, fun k e => (q2.ownlt k e).2.1, hS.soft, hS.below, hS.sz⟩
                clear hS hall hS15
                simp [overlay, dstsOf]
                go_wp2
                go_roundw
                case rel => exact ⟨i + 1, u, is ++ [insC], by omega, by first | go_num | (simp; omega), by rw [hBBe]; exact q3, by simp; omega⟩
                case measure => simp [intOf]; omega
            · obtain rfl : i = cn := by omega
              obtain ⟨b0, b1, b2⟩ := rowF_cells hS15.fld
              obtain ⟨bs3, _, hO12⟩ := HO11.out.soft hS15.soft
              have hM := hO12.v
              have hBW := hide (hBW11.out.trans ((hS15.below).mono (Nat.le_trans hBw9.out.size (Nat.le_refl _))))
              obtain ⟨M3, e1, e2, e3⟩ : ∃ M3 : Fun, M3.p = M.p ∧ M3.v = M.v ∧ M3.bs = bs3 := ⟨⟨M.p, M.v, bs3⟩, rfl, rfl, rfl⟩
              rw [← e3] at hM
              rw [← e1] at b0
              rw [← e2] at b1
              clear hS15 e1 e2 e3 hO12 HREL
              go_wp2_with fail
              generalize ws = W0 at *
              generalize hume : Value.slice (some ⟨g, 0, none⟩) M.bs.length xc = um at hM b2
              refine wp_region_each (by kernel_rfl) (fun d x _ => G21 ph M3 um d x W0) (fun _ W => Below W0.heap.size W0 W) (by kernel_rfl) (Below.refl _ _).drew ?_ ?_
              · refine And.intro ?_ (And.intro ?_ (And.intro ?_ (And.intro ?_ (And.intro ?_ (And.intro ?_ trivial)))))
                · refine asked_pure rfl rfl (fun _ _ h => h) (fun _ _ _ => rfl) (fun l a W H => ?_)
                  have e14 : a.eval (.tmp 14) = .pointer (some ⟨ph, 0, none⟩) := H.base 14 rfl
                  exact run_load24 rfl e14 (cell_below H.s b0) (cell_below H.s b1) (cell_below H.s b2)
                · refine asked_call rfl Try.func12 (by kernel_rfl) (by kernel_rfl) rfl rfl (fun l a W H => ?_)
                  have e74 : a.eval (.tmp 74) = .agg #[.int .i64 M3.p, .int .i64 M3.v, um] := H.facts 74 rfl
                  have ea : (#[.tmp 74] : Array Operand).map a.eval = #[.agg #[.int .i64 M3.p, .int .i64 M3.v, um]] := by
                    simp only [List.map_toArray, List.map_cons, List.map_nil, e74]
                  rw [ea]
                  refine (check_any M3 _ W ⟨um, rfl, hM.below H.s⟩).mono ?_
                  rintro x w' ⟨rfl, hB⟩
                  exact ⟨_, rfl, rfl, bel_of H.s hB, fun _ _ _ h => h⟩
                · refine asked_pure rfl rfl (fun _ _ h => h) (fun _ _ _ => rfl) (fun l a W H => ?_)
                  have e14 : a.eval (.tmp 14) = .pointer (some ⟨ph, 0, none⟩) := H.base 14 rfl
                  exact run_load24 rfl e14 (cell_below H.s b0) (cell_below H.s b1) (cell_below H.s b2)
                · refine asked_call rfl Try.func13 (by kernel_rfl) (by kernel_rfl) rfl rfl (fun l a W H => ?_)
                  have e76 : a.eval (.tmp 76) = .agg #[.int .i64 M3.p, .int .i64 M3.v, um] := H.facts 76 rfl
                  have ea : (#[.tmp 76] : Array Operand).map a.eval = #[.agg #[.int .i64 M3.p, .int .i64 M3.v, um]] := by
                    simp only [List.map_toArray, List.map_cons, List.map_nil, e76]
                  rw [ea]
                  refine (refFunc_any M3 _ W ⟨um, rfl, hM.below H.s⟩).mono ?_
                  rintro x w' ⟨rfl, hB⟩
                  exact ⟨_, rfl, rfl, bel_of H.s hB, fun _ _ _ h => h⟩
                · refine asked_pure rfl rfl (fun _ _ h => h) (fun _ _ _ => rfl) (fun l a W H => ?_)
                  have e75 : a.eval (.tmp 75) = faultV (chk M3) := H.facts 75 rfl
                  have e77 : a.eval (.tmp 77) = faultV (chk M3) := H.facts 77 rfl
                  exact run_eql33_same rfl e75 e77
                · refine asked_pure rfl rfl (fun _ _ h => h) (fun _ _ _ => rfl) (fun l a W H => ?_)
                  have e78 : a.eval (.tmp 78) = .bool (true) := H.facts 78 rfl
                  exact run_assign rfl e78
              · intro l s W _ hS hs
                have h12 : s 12 = .bool true := hs 12 rfl
                have hBf := bel_of hBW.out hS
                clear hs hS
                simp [overlay, dstsOf]
                go_wp2
                go_ret
                rw [h12]
                exact ⟨rfl, hBf⟩

theorem walk {H : Type} {enc : TypeId × Value → H} (W : World) (base : Nat) (v0 v1 v2 v3 v4 v5 : Value) {d0 d1 d2 d3 d4 d5 : DataW H} {p0 p1 p2 p3 p4 p5 : List MemPlace} (o0 : Value.okWide Try.prog W .any base 24 v0) (k0 : DataW.Trod enc Try.prog W 0 (fun _ => true) true 24 v0 d0 p0) (o1 : Value.okWide Try.prog W .any base 27 v1) (k1 : DataW.Trod enc Try.prog W 0 (fun _ => true) true 27 v1 d1 p1) (o2 : Value.okWide Try.prog W .any base 5 v2) (k2 : DataW.Trod enc Try.prog W 0 (fun _ => true) true 5 v2 d2 p2) (o3 : Value.okWide Try.prog W .any base 5 v3) (k3 : DataW.Trod enc Try.prog W 0 (fun _ => true) true 5 v3 d3 p3) (o4 : Value.okWide Try.prog W .any base 5 v4) (k4 : DataW.Trod enc Try.prog W 0 (fun _ => true) true 5 v4 d4 p4) (o5 : Value.okWide Try.prog W .any base 3 v5) (k5 : DataW.Trod enc Try.prog W 0 (fun _ => true) true 3 v5 d5 p5) :
    Calls Try.prog 3 #[v0, v1, v2, v3, v4, v5] W fun e w' => e = .returned (.bool true) ∧ Below W.heap.size W w' := by
  obtain ⟨F, uf0, rfl, hF⟩ := fun_in o0 k0
  obtain ⟨uf, cf, rfl⟩ := hF.slice
  obtain ⟨sa, sb, sc, sbs, hs⟩ := spec_in o1 k1
  obtain ⟨b, rfl, hb⟩ := byte_in o2 k2
  obtain ⟨k, rfl, hk⟩ := byte_in o3 k3
  obtain ⟨f, rfl, hf⟩ := byte_in o4 k4
  obtain ⟨n, rfl, _⟩ := i64_in o5 k5
  exact checks_walk F uf cf v1 sa sb sc sbs b k f n W hF hs hb hk hf

set_option maxRecDepth 100000 in
theorem lifted (os : Os) (started : os.Started) (H : Type) (enc : TypeId × Value → H) :
    ReturnsInHanded {} Try.checked os 3 .any (Rows.irChecksSpec.pre6 enc Try.prog Try.f3 Rows.irChecksRow.domain false) (Rows.irChecksSpec.post enc Try.prog Try.f3 false true false false) := by
  refine returnsInHanded_of_change (C := Try.checked) own started (by kernel_rfl) Try.func3
    (ChangeSpec.witness6 (enc := enc) (C := Try.checked) false ⟨#[], #[.agg #[.int .i64 0, .int .i64 0, .slice none 0 0], .agg #[.int .u8 0, .int .u8 0, .int .u8 0, .slice none 0 0], .int .u8 0, .int .u8 0, .int .u8 0, .int .i64 0], []⟩ 8 (by kernel_rfl) (by kernel_rfl) (by kernel_rfl) (by kernel_rfl)) ?_
  intro W base args ds gs before hval0 hW hcnd _
  have hval : ∀ (j : Nat) t v, Try.f3.params[j]? = some t → args[j]? = some v → Value.okWide Try.prog W .any base t v := hval0
  have hW' := hW
  obtain ⟨p, q, hA0, hV, rfl, hfz, hnd⟩ := hW
  have hA : DataW.TrodAll enc Try.prog W 0 (fun _ => true) true Try.f3.params.toList args.toList ds p := hA0
  rw [Try.params3] at hA hval
  obtain ⟨v0, vs0, d0, ds0, p0, q0, hargs, rfl, rfl, h0, r0⟩ := trodAll_cons hA
  obtain ⟨v1, vs1, d1, ds1, p1, q1, rfl, rfl, rfl, h1, r1⟩ := trodAll_cons r0
  obtain ⟨v2, vs2, d2, ds2, p2, q2, rfl, rfl, rfl, h2, r2⟩ := trodAll_cons r1
  obtain ⟨v3, vs3, d3, ds3, p3, q3, rfl, rfl, rfl, h3, r3⟩ := trodAll_cons r2
  obtain ⟨v4, vs4, d4, ds4, p4, q4, rfl, rfl, rfl, h4, r4⟩ := trodAll_cons r3
  obtain ⟨v5, vs5, d5, ds5, p5, q5, rfl, rfl, rfl, h5, r5⟩ := trodAll_cons r4
  obtain ⟨rfl, rfl, rfl⟩ := trodAll_nil r5
  obtain rfl : args = #[v0, v1, v2, v3, v4, v5] := by cases args; simp_all
  obtain ⟨rfl, rfl⟩ := trodVars_none hV
  have lt0 : ∀ x ∈ p0, x.block < W.heap.size := by obtain ⟨m, hm⟩ := h0; exact DataW.trod_lt m _ _ _ hm
  have lt1 : ∀ x ∈ p1, x.block < W.heap.size := by obtain ⟨m, hm⟩ := h1; exact DataW.trod_lt m _ _ _ hm
  have lt2 : ∀ x ∈ p2, x.block < W.heap.size := by obtain ⟨m, hm⟩ := h2; exact DataW.trod_lt m _ _ _ hm
  have lt3 : ∀ x ∈ p3, x.block < W.heap.size := by obtain ⟨m, hm⟩ := h3; exact DataW.trod_lt m _ _ _ hm
  have lt4 : ∀ x ∈ p4, x.block < W.heap.size := by obtain ⟨m, hm⟩ := h4; exact DataW.trod_lt m _ _ _ hm
  have lt5 : ∀ x ∈ p5, x.block < W.heap.size := by obtain ⟨m, hm⟩ := h5; exact DataW.trod_lt m _ _ _ hm
  refine (walk W base v0 v1 v2 v3 v4 v5 (hval 0 24 v0 rfl rfl) h0 (hval 1 27 v1 rfl rfl) h1 (hval 2 5 v2 rfl rfl) h2 (hval 3 5 v3 rfl rfl) h3 (hval 4 5 v4 rfl rfl) h4 (hval 5 3 v5 rfl rfl) h5).mono fun e W' ⟨he, bel⟩ => ?_
  subst he
  exact ⟨_, rfl, _, _, _, [], _, [], hW', trodAll_mk1 (shut_bool Try.underlying4 _), (trodAll_cons_mk (Below.trod laidOut (by kernel_rfl) (of_decide_eq_true (by kernel_rfl)) h0 bel lt0) (trodAll_cons_mk (Below.trod laidOut (by kernel_rfl) (of_decide_eq_true (by kernel_rfl)) h1 bel lt1) (trodAll_cons_mk (Below.trod laidOut (by kernel_rfl) (of_decide_eq_true (by kernel_rfl)) h2 bel lt2) (trodAll_cons_mk (Below.trod laidOut (by kernel_rfl) (of_decide_eq_true (by kernel_rfl)) h3 bel lt3) (trodAll_cons_mk (Below.trod laidOut (by kernel_rfl) (of_decide_eq_true (by kernel_rfl)) h4 bel lt4) (trodAll_cons_mk (Below.trod laidOut (by kernel_rfl) (of_decide_eq_true (by kernel_rfl)) h5 bel lt5) trodAll_mk0)))))), rfl, bel.frame _, fun h => by cases h⟩

theorem over : Rows.irChecksRow.holds Try.pinned (OpenSpec.ofChange Rows.irChecksSpec) :=
  OpenClaim.holds_of_wide 3 Try.f3 rfl rfl rfl rfl rfl rfl rfl ⟨rfl, rfl, rfl, rfl, rfl⟩ rfl rfl rfl rfl rfl (by kernel_rfl) Try.func3 (by kernel_rfl)
    (of_decide_eq_true (by kernel_rfl)) (by unfold Func.isWrapper; first | (rw [if_pos (by decide +kernel)]; kernel_rfl) | (rw [if_neg (by decide +kernel)]; exact ⟨rfl, rfl⟩))
    (fun os started H enc _ => lifted os started H enc)

end Go.Proofs.Yteidejcaoboejaa.irChecks
namespace Go.Proofs.Yteidejcaoboejaa
theorem irChecks_holds : Rows.IrChecksSaid := irChecks.over
#print axioms irChecks_holds
end Go.Proofs.Yteidejcaoboejaa
