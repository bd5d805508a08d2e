/- IrTwice: P4.2: a function that is taken is taken with a vreg more, and with a block more behind. -/
import Derived.Test.YteidejcaoboejaaRows
import Derived.WalkKit
import Derived.ProofKit
import Derived.OpenShut
import Derived.ShutString
import Derived.ChangeOld
import Derived.Below
import Derived.Test.YteidejcaoboejaaFault
import Derived.Test.YteidejcaoboejaaStore
namespace Go.Proofs.Yteidejcaoboejaa.irTwice
open Go.ChangeShapes Go.WideShapes Go.ChangeAt Go.RowKit Ir
open Go.ChangeMaps (open_string shut_string)
set_option linter.unusedVariables false

theorem own : ownKnob Try.prog.godebug = none := by kernel_rfl
theorem laidOut : laidOutB Try.prog = true := by kernel_rfl

def row5 (u : Value) (e : En) : Array Value := #[u, .int .u8 e.k, .int .i64 e.a, .int .i64 e.to, .int .i64 e.el]
theorem ownsRow_slice {w : World} {B : Nat} {e : TypeId} {s : Nat} {v : Value} {n : Nat} {xs : List Value} (h : w.ownsRow B e s v n xs) : ∃ a m c, v = .slice a m c := by
  rcases h.2 with ⟨rfl, _⟩ | ⟨k', cap', cur', rfl, _⟩
  · exact ⟨_, _, _, rfl⟩
  · exact ⟨_, _, _, rfl⟩
/-- What is known of each temporary of 'f.Blocks = append(f.Blocks, f.Blocks[0])'. -/
def G8 (B ph g nb cap : Nat) (ps : List (Blk × Value)) (u0 : Value) (e0 : En) : Tmp → Value → World → Prop
  | 12, xx, _ => xx = .pointer (some ⟨ph, 2, none⟩)
  | 13, xx, _ => xx = .slice (some ⟨g, 0, none⟩) nb cap
  | 14, xx, _ => xx = .pointer (some ⟨ph, 2, none⟩)
  | 15, xx, _ => xx = .slice (some ⟨g, 0, none⟩) nb cap
  | 16, xx, _ => xx = .pointer (some ⟨g, 0, none⟩)
  | 17, xx, _ => xx = blkV u0 e0
  | 18, xx, ww => (∃ h, xx = .slice (some ⟨h, 0, none⟩) 1 1 ∧ ww.heap[h]? = some (Obj.cells (row5 u0 e0) 41 (0, 0)) ∧ h ≠ g)
  | 19, xx, ww => ww.ownsRow B 41 5 xx (ps.length + 1) (cellsB ps ++ (row5 u0 e0).toList)
  | 20, xx, _ => xx = .pointer (some ⟨ph, 2, none⟩)
  | _, _, _ => True

/-- What stands in the world while that is done. -/
structure S8 (B ph g nb cap : Nat) (p v : Int) (ps : List (Blk × Value)) (u0 : Value) (e0 : En) (wr : World) (l : Nat → Bool) (W : World) : Prop where
  fld : l 9 = false → W.heap[ph]? = some (Obj.cells (rowF p v (.slice (some ⟨g, 0, none⟩) nb cap)) 24 (0, 0))
  row : l 7 = false → W.ownsRow B 41 5 (.slice (some ⟨g, 0, none⟩) nb cap) ps.length (cellsB ps)
  inss : ∀ q ∈ ps, InssO B W q.2 q.1.ins
  done : l 9 = true → ∃ u, W.heap[ph]? = some (Obj.cells (rowF p v u) 24 (0, 0)) ∧ W.ownsRow B 41 5 u (ps.length + 1) (cellsB ps ++ (row5 u0 e0).toList)
  lt : g < W.heap.size
  below : Below B wr W
  sz : B ≤ W.heap.size
section
variable {B ph g nb cap : Nat} {p v : Int} {ps : List (Blk × Value)} {u0 : Value} {e0 : En} {wr : World} {l : Nat → Bool} {W W' : World}
theorem G8_keeps {t : Tmp} {y : Value} (h : G8 B ph g nb cap ps u0 e0 t y W) (hk : Keeps T41 W W') : G8 B ph g nb cap ps u0 e0 t y W' := by
  unfold G8 at h ⊢
  split
  all_goals
    first
      | exact h
      | exact owns_keeps h hk rfl
      | (obtain ⟨k, e1, e2, e3⟩ := h; exact ⟨k, e1, hk _ _ _ _ rfl e2, e3⟩)
      | trivial
theorem G8_app {t : Tmp} {y : Value} (h : G8 B ph g nb cap ps u0 e0 t y W) (ht : some t ≠ some 19) (hg : W.grownBy W' (some g)) : G8 B ph g nb cap ps u0 e0 t y W' := by
  unfold G8 at h ⊢
  split
  all_goals
    first
      | exact h
      | exact absurd rfl ht
      | (obtain ⟨k, e1, e2, e3⟩ := h; exact ⟨k, e1, by rw [hg.block k (Array.getElem?_eq_some_iff.1 e2).1 (by simpa using e3)]; exact e2, e3⟩)
      | trivial
theorem S8.skip (h : S8 B ph g nb cap p v ps u0 e0 wr l W) {j : Nat} (h7 : j ≠ 7) (h9 : j ≠ 9) : S8 B ph g nb cap p v ps u0 e0 wr (upd l j) W := by
  have u7 : upd l j 7 = l 7 := if_neg (fun e => h7 e.symm)
  have u9 : upd l j 9 = l 9 := if_neg (fun e => h9 e.symm)
  exact ⟨by rw [u9]; exact h.fld, by rw [u7]; exact h.row, h.inss, by rw [u9]; exact h.done, h.lt, h.below, h.sz⟩
theorem S8.alloc (h : S8 B ph g nb cap p v ps u0 e0 wr l W) (hB : Below W.heap.size W W') : S8 B ph g nb cap p v ps u0 e0 wr (upd l 6) W' := by
  have hk : Keeps (fun _ => true) W W' := Keeps.below hB
  have hk46 : Keeps T46 W W' := Keeps.below hB
  refine ⟨fun h9 => hk _ _ _ _ rfl (h.fld h9), fun h7 => owns_keeps (h.row h7) hk rfl, fun q hq => (h.inss q hq).keeps hk46, fun h9 => ?_, Nat.lt_of_lt_of_le h.lt hB.size, h.below.trans (hB.mono h.sz), Nat.le_trans h.sz hB.size⟩
  obtain ⟨u, q1, q2⟩ := h.done h9
  exact ⟨u, hk _ _ _ _ rfl q1, owns_keeps q2 hk rfl⟩
theorem S8.app (h : S8 B ph g nb cap p v ps u0 e0 wr l W) (hO : W.ownsRow B 41 5 (.slice (some ⟨g, 0, none⟩) nb cap) ps.length (cellsB ps)) (hg : W.grownBy W' (some g)) (hl9 : l 9 = false) : S8 B ph g nb cap p v ps u0 e0 wr (upd l 7) W' := by
  have hk : Keeps (fun t => t != 41) W W' := Keeps.grown hO rfl hg
  have hk46 : Keeps T46 W W' := hk.weak fun t ht => by simp [T46] at ht; rcases ht with rfl | rfl <;> decide
  refine ⟨fun h9 => hk _ _ _ _ rfl (h.fld hl9), fun h7 => by simp [upd] at h7, fun q hq => (h.inss q hq).keeps hk46, fun h9 => ?_, Nat.lt_of_lt_of_le h.lt hg.size, h.below.grown hg h.sz (fun k e => (hO.lt k e).1), Nat.le_trans h.sz hg.size⟩
  have h9' : l 9 = true := h9
  rw [hl9] at h9'
  cases h9'
theorem S8.store (h : S8 B ph g nb cap p v ps u0 e0 wr l W) {u : Value} (hr : W.heap[ph]? = some (Obj.cells (rowF p v (.slice (some ⟨g, 0, none⟩) nb cap)) 24 (0, 0))) (hO : W.ownsRow B 41 5 u (ps.length + 1) (cellsB ps ++ (row5 u0 e0).toList)) (hBph : B ≤ ph) : S8 B ph g nb cap p v ps u0 e0 wr (upd l 9) (W.setCell ⟨ph, 2, none⟩ u) := by
  have hk : Keeps (fun t => t != 24) W (W.setCell ⟨ph, 2, none⟩ u) := Keeps.set hr rfl u
  have hk46 : Keeps T46 W (W.setCell ⟨ph, 2, none⟩ u) := Keeps.set hr rfl u
  refine ⟨fun h9 => by simp [upd] at h9, fun h7 => owns_keeps (h.row h7) hk rfl, fun q hq => (h.inss q hq).keeps hk46, fun _ => ⟨u, ?_, owns_keeps hO hk rfl⟩, by simpa using h.lt, h.below.setCell (p := ⟨ph, 2, none⟩) hBph u, by simpa using h.sz⟩
  rw [heap_setCell_same W ph 2 _ _ u hr]
  rfl
end
theorem app5_ok {B0 : Nat} {a : Act} {w : World} {o : Oper} {s y : Operand} {g nb cap n : Nat} {xs : List Value} {u0 : Value} {e0 : En} {h : Nat} {Q : Value → World → Prop} (hop : o.op = .call { callee := .builtin .append, args := #[s, y], argTypes := #[22, 22] }) (es : a.eval s = .slice (some ⟨g, 0, none⟩) nb cap) (ey : a.eval y = .slice (some ⟨h, 0, none⟩) 1 1)
    (hO : w.ownsRow B0 41 5 (.slice (some ⟨g, 0, none⟩) nb cap) n xs) (hh : w.heap[h]? = some (Obj.cells (row5 u0 e0) 41 (0, 0))) (hone : u0.oneCell' = true) (hl : n ≤ 1000000) (hB : B0 ≤ w.heap.size) (hQ : ∀ v' w', w'.ownsRow B0 41 5 v' (n + 1) (xs ++ (row5 u0 e0).toList) → w.grownBy w' (some g) → Q v' w') :
    ∃ v' w', (execOp a.eval o).run Try.prog w = .ok (.value v') w' ∧ Q v' w' := by
  obtain ⟨i, hi, hz, hsize, hby⟩ := info_parts info41
  obtain ⟨v', w', hr, g2, g3, _⟩ := run_append_own (P := Try.prog) w B0 22 o.type 41 i _ 5 56 Try.underlying22 hi hz hsize hby rfl (by decide) _ _ _ hO ⟨h, 0, none⟩ 1 1 (row5 u0 e0).toList rfl
    (by intro j c hj; rw [Addr.add_lit, Nat.zero_add, cell_of_row _ _ _ _ _ _ hh]; simpa using hj) (by intro c hc; simp [row5] at hc; rcases hc with rfl | rfl | rfl | rfl | rfl <;> first | rfl | exact hone) (by unfold maxLen; omega) (by omega) hB
  refine ⟨v', w', ?_, hQ v' w' g2 g3⟩
  unfold execOp
  simp only [hop, resolve, invoke, builtin, Sem.run_bind, Sem.run_pure, Result.andThen_ok, List.map_toArray, List.map_cons, List.map_nil, es, ey, hr]

set_option maxHeartbeats 8000000 in
set_option maxRecDepth 100000 in
theorem twice_walk (sp : Value) (sa sb sc : Int) (sbs : List Int) (w : World) (hs : SpecV w sp sa sb sc sbs) : Calls Try.prog 8 #[sp] w fun r w' => r = .returned (.bool true) ∧ Below w.heap.size w w' := by
  have hs' := hs
  obtain ⟨us, rfl, hs1, hs2, hs3, hs4⟩ := hs'
  obtain ⟨ax, cx, rfl⟩ := hs4.slice
  have hBa := bel1 w (.cells #[.int .u8 sa, .int .u8 sb, .int .u8 sc, .slice ax sbs.length cx] 27)
  have HBa := hide hBa
  have HS0 := hide (hs.below hBa)
  have q33 := run_eql33
  clear hs hBa hs1 hs2 hs3 hs4
  go_enter Try.func8, Try.ntmps8
  go_wp2_with fail
  refine (awake_any _).mono ?_
  rintro r w1 ⟨rfl, hB1⟩
  obtain ⟨s0, s1, s2, s3⟩ := boxS hB1
  have HS1 := hide (HS0.out.below hB1)
  have hBw1 := hide (bel_of HBa.out hB1)
  have hMd := hide (made_any _ sa sb sc sbs w1 HS1.out)
  have hright := hide (made_right sa sb sc sbs)
  have htw := hide (made_twice sa sb sc sbs)
  have hlen := made_len sa sb sc sbs
  have hvin := vOf_in sa sb
  have hMp : (made sa sb sc sbs).p = sa % 5 := rfl
  have hMv : (made sa sb sc sbs).v = vOf sa sb := rfl
  rw [← hMp, ← hMv] at htw
  rw [← hMv] at hvin
  have hl0 : 0 < (made sa sb sc sbs).bs.length ∧ (made sa sb sc sbs).bs.length ≤ 7 := by omega
  generalize hMM : made sa sb sc sbs = M at hMd hright htw hvin hl0
  have HMM := hide hMM
  clear hB1 HBa HS0 hlen hMp hMv hMM
  go_wp2_with fail
  refine hMd.out.mono ?_
  rintro r w2 ⟨um, rfl, hO2, hB2⟩
  obtain ⟨ps, hps, hown, hall⟩ := hO2
  have hplen : ps.length = M.bs.length := by rw [← hps, List.length_map]
  have hp0 : 0 < ps.length := by omega
  obtain ⟨g, cap, cur, hue, hBg, hgr⟩ : ∃ g cap cur, um = .slice (some ⟨g, 0, none⟩) ps.length cap ∧ w1.heap.size ≤ g ∧ w2.heap[g]? = some (Obj.cells cur 41 (0, 0)) := by
    rcases hown.2 with ⟨_, h00⟩ | ⟨g, cap, cur, hv, hb, hg, _⟩
    · omega
    · exact ⟨g, cap, cur, hv, hb, hg⟩
  subst hue
  have hpg : ps[0]? = some ps[0] := List.getElem?_eq_getElem hp0
  have hmem0 : ps[0].1 ∈ M.bs := by rw [← hps]; exact List.mem_map_of_mem (List.getElem_mem hp0)
  have hI0 := hall _ (List.getElem_mem hp0)
  obtain ⟨x0, x1, x2, x3, x4⟩ := cellsB_get ps 0 _ hpg
  have hu0 : ∃ aa an ac, ps[0].2 = .slice aa an ac := by
    obtain ⟨q1, q2, q3⟩ := hI0.v.slice
    exact ⟨_, _, _, q3⟩
  have HTW := hide (htw.out _ hmem0)
  have hp0e : ps[0] = (ps[0].1, ps[0].2) := rfl
  generalize hb0e : ps[0].1 = b0 at *
  generalize hu0e : ps[0].2 = u0 at *
  have hcells : ∀ W : World, W.ownsRow w1.heap.size 41 5 (.slice (some ⟨g, 0, none⟩) ps.length cap) ps.length (cellsB ps) → W.cell? ⟨g, 0, none⟩ = some u0 ∧ W.cell? ⟨g, 1, none⟩ = some (.int .u8 b0.e.k) ∧ W.cell? ⟨g, 2, none⟩ = some (.int .i64 b0.e.a) ∧ W.cell? ⟨g, 3, none⟩ = some (.int .i64 b0.e.to) ∧ W.cell? ⟨g, 4, none⟩ = some (.int .i64 b0.e.el) := by
    intro W hW
    have hc : ∀ k x, (cellsB ps)[k]? = some x → W.cell? ⟨g, k, none⟩ = some x := by
      intro k x hx
      have := hW.cells (g := g) rfl _ _ hx
      rwa [Addr.add_lit, Nat.zero_add] at this
    exact ⟨hc 0 _ (by simpa using x0), hc 1 _ (by simpa using x1), hc 2 _ (by simpa using x2), hc 3 _ (by simpa using x3), hc 4 _ (by simpa using x4)⟩
  have hBx := bel1 w2 (.cells #[.int .i64 M.p, .int .i64 (M.v + 1), .slice (some ⟨g, 0, none⟩) ps.length cap] 24)
  have hfld : (w2.alloc (.cells #[.int .i64 M.p, .int .i64 (M.v + 1), .slice (some ⟨g, 0, none⟩) ps.length cap] 24)).heap[w2.heap.size]? = some (Obj.cells (rowF M.p (M.v + 1) (.slice (some ⟨g, 0, none⟩) ps.length cap)) 24 (0, 0)) := heap_alloc_new w2 _
  have hB13 := bel_of hB2 hBx
  have hS0 : S8 w1.heap.size w2.heap.size g ps.length cap M.p (M.v + 1) ps u0 b0.e w1 (fun _ => false) (w2.alloc (.cells #[.int .i64 M.p, .int .i64 (M.v + 1), .slice (some ⟨g, 0, none⟩) ps.length cap] 24)) :=
    ⟨fun _ => hfld, fun _ => owns_below hown hBx, fun q hq => (hall q hq).keeps (Keeps.below hBx), fun h => by simp at h, by have := (Array.getElem?_eq_some_iff.1 hgr).1; simp; omega, hB13, hB13.size⟩
  have HSS := hide hS0
  have hBph : w1.heap.size ≤ w2.heap.size := hB2.size
  have hvl : 1 ≤ M.v ∧ M.v ≤ 31 := by omega
  have hv1 := hvl.1
  have hv2 := hvl.2
  have S1 := hide s0
  have S2 := hide s1
  have S3 := hide s2
  have S4 := hide s3
  have hone : u0.oneCell' = true := by obtain ⟨aa, an, ac, rfl⟩ := hu0; rfl
  have hpl : ps.length ≤ 1000000 := by omega
  have HPS := hide hps
  have HQ0 : Hid (∃ q' ∈ ps, q'.1 = b0 ∧ q'.2 = u0) := ⟨ps[0], List.getElem_mem hp0, hb0e, hu0e⟩
  have HI0 := hide hI0
  have hnb1 : 0 < ps.length := hp0
  clear hplen hMd hown hall hB2 hgr hpg hmem0 hI0 x0 x1 x2 x3 x4 hp0e hb0e hu0e hBx hfld hS0 hps s0 s1 s2 s3 hB13 htw
  go_wp2_with fail
  generalize (w2.alloc (.cells #[.int .i64 M.p, .int .i64 (M.v + 1), .slice (some ⟨g, 0, none⟩) ps.length cap] 24)) = w3 at *
  generalize w2.heap.size = ph at *
  generalize hBBe : w1.heap.size = B at *
  refine wp_region_each (by kernel_rfl) (fun t y W => G8 B ph g ps.length cap ps u0 b0.e t y W) (fun l W => S8 B ph g ps.length cap M.p (M.v + 1) ps u0 b0.e w1 l W) (by kernel_rfl) ⟨HSS.out.fld, HSS.out.row, fun q hq => (HSS.out.inss q hq).keeps (Keeps.drew _), fun h => by simp at h, HSS.out.lt, HSS.out.below.drew, HSS.out.sz⟩ ?_ ?_
  · refine And.intro ?_ (And.intro ?_ (And.intro ?_ (And.intro ?_ (And.intro ?_ (And.intro ?_ (And.intro ?_ (And.intro ?_ (And.intro ?_ (And.intro ?_ trivial)))))))))
    · refine asked_pure rfl rfl (fun _ _ h => h.skip (by decide) (by decide)) (fun _ _ _ => rfl) (fun l a W H => ?_)
      have e3 : a.eval (.tmp 3) = .pointer (some ⟨ph, 0, none⟩) := H.base 3 rfl
      (simp only [execOp]; try simp only [Option.map]); (try simp only [List.map_toArray, List.map_cons, List.map_nil]); (simp only [e3]; go_simp)
    · refine asked_any rfl (fun l a W H => ?_)
      have e12 : a.eval (.tmp 12) = .pointer (some ⟨ph, 2, none⟩) := H.facts 12 rfl
      have hl9 : l 9 = false := by
        cases h9 : l 9 with
        | false => rfl
        | true =>
          have h1 := H.closed 7 1 (by rfl) (H.closed 9 7 (by rfl) h9)
          rw [H.new] at h1
          cases h1
      have hcc : W.cell? ⟨ph, 2, none⟩ = some (.slice (some ⟨g, 0, none⟩) ps.length cap) := by rw [cell_of_row _ _ _ _ _ _ (H.s.fld hl9)]; rfl
      refine ⟨.slice (some ⟨g, 0, none⟩) ps.length cap, W, ?_, fun d hd => by cases hd; exact rfl, H.s.skip (by decide) (by decide), fun _ _ _ h => h⟩
      (simp only [execOp]; try simp only [Option.map]); (try simp only [List.map_toArray, List.map_cons, List.map_nil]); (simp only [e12]; go_simp)
    · refine asked_pure rfl rfl (fun _ _ h => h.skip (by decide) (by decide)) (fun _ _ _ => rfl) (fun l a W H => ?_)
      have e3 : a.eval (.tmp 3) = .pointer (some ⟨ph, 0, none⟩) := H.base 3 rfl
      (simp only [execOp]; try simp only [Option.map]); (try simp only [List.map_toArray, List.map_cons, List.map_nil]); (simp only [e3]; go_simp)
    · refine asked_any rfl (fun l a W H => ?_)
      have e14 : a.eval (.tmp 14) = .pointer (some ⟨ph, 2, none⟩) := H.facts 14 rfl
      have hl9 : l 9 = false := by
        cases h9 : l 9 with
        | false => rfl
        | true =>
          have h1 := H.closed 4 3 (by rfl) (H.closed 5 4 (by rfl) (H.closed 6 5 (by rfl) (H.closed 7 6 (by rfl) (H.closed 9 7 (by rfl) h9))))
          rw [H.new] at h1
          cases h1
      have hcc : W.cell? ⟨ph, 2, none⟩ = some (.slice (some ⟨g, 0, none⟩) ps.length cap) := by rw [cell_of_row _ _ _ _ _ _ (H.s.fld hl9)]; rfl
      refine ⟨.slice (some ⟨g, 0, none⟩) ps.length cap, W, ?_, fun d hd => by cases hd; exact rfl, H.s.skip (by decide) (by decide), fun _ _ _ h => h⟩
      (simp only [execOp]; try simp only [Option.map]); (try simp only [List.map_toArray, List.map_cons, List.map_nil]); (simp only [e14]; go_simp)
    · refine asked_pure rfl rfl (fun _ _ h => h.skip (by decide) (by decide)) (fun _ _ _ => rfl) (fun l a W H => ?_)
      have e15 : a.eval (.tmp 15) = .slice (some ⟨g, 0, none⟩) ps.length cap := H.facts 15 rfl
      have hnb0 : (0 : Int) < (ps.length : Int) := by omega
      (simp only [execOp]; try simp only [Option.map]); (try simp only [List.map_toArray, List.map_cons, List.map_nil]); (simp only [e15]; go_simp)
    · refine asked_any rfl (fun l a W H => ?_)
      have e16 : a.eval (.tmp 16) = .pointer (some ⟨g, 0, none⟩) := H.facts 16 rfl
      have hl7 : l 7 = false := by
        cases h9 : l 7 with
        | false => rfl
        | true =>
          have h1 := H.closed 6 5 (by rfl) (H.closed 7 6 (by rfl) h9)
          rw [H.new] at h1
          cases h1
      obtain ⟨c0, c1, c2, c3, c4⟩ := hcells W (H.s.row hl7)
      refine ⟨blkV u0 b0.e, W, ?_, fun d hd => by cases hd; exact rfl, H.s.skip (by decide) (by decide), fun _ _ _ h => h⟩
      unfold blkV
      obtain ⟨aa, an, ac, rfl⟩ := hu0
      (simp only [execOp]; try simp only [Option.map]); (try simp only [List.map_toArray, List.map_cons, List.map_nil]); (simp only [e16]; go_simp)
    · refine asked_any rfl (fun l a W H => ?_)
      have e17 : a.eval (.tmp 17) = blkV u0 b0.e := H.facts 17 rfl
      have hB := (Below.refl W.heap.size W).alloc (Nat.le_refl _) (.cells (row5 u0 b0.e) 41)
      refine ⟨.slice (some ⟨W.heap.size, 0, none⟩) 1 1, W.alloc (.cells (row5 u0 b0.e) 41), ?_, fun d hd => by cases hd; exact ⟨_, rfl, heap_alloc_new W _, by have := H.s.lt; omega⟩, H.s.alloc hB, fun _ _ _ h => G8_keeps h (Keeps.below hB)⟩
      unfold blkV at e17
      unfold row5
      obtain ⟨aa, an, ac, rfl⟩ := hu0
      (simp only [execOp]; try simp only [Option.map]); (try simp only [List.map_toArray, List.map_cons, List.map_nil]); (simp only [e17]; go_simp)
    · refine asked_any rfl (fun l a W H => ?_)
      have e13 : a.eval (.tmp 13) = .slice (some ⟨g, 0, none⟩) ps.length cap := H.facts 13 rfl
      obtain ⟨h, e18, hh, hne⟩ : ∃ h, a.eval (.tmp 18) = .slice (some ⟨h, 0, none⟩) 1 1 ∧ W.heap[h]? = some (Obj.cells (row5 u0 b0.e) 41 (0, 0)) ∧ h ≠ g := H.facts 18 rfl
      have hl9 : l 9 = false := by
        cases h9 : l 9 with
        | false => rfl
        | true =>
          have h1 := H.closed 9 7 (by rfl) h9
          rw [H.new] at h1
          cases h1
      have hO := H.s.row H.new
      refine app5_ok rfl e13 e18 hO hh hone hpl H.s.sz fun v' w' q1 q2 => ?_
      exact ⟨fun d hd => by cases hd; exact q1, H.s.app hO q2 hl9, fun _ _ hd h => G8_app h hd q2⟩
    · refine asked_pure rfl rfl (fun _ _ h => h.skip (by decide) (by decide)) (fun _ _ _ => rfl) (fun l a W H => ?_)
      have e3 : a.eval (.tmp 3) = .pointer (some ⟨ph, 0, none⟩) := H.base 3 rfl
      (simp only [execOp]; try simp only [Option.map]); (try simp only [List.map_toArray, List.map_cons, List.map_nil]); (simp only [e3]; go_simp)
    · refine asked_skip rfl rfl (fun l a W H => ?_)
      have e20 : a.eval (.tmp 20) = .pointer (some ⟨ph, 2, none⟩) := H.facts 20 rfl
      have hO : W.ownsRow B 41 5 (a.eval (.tmp 19)) (ps.length + 1) (cellsB ps ++ (row5 u0 b0.e).toList) := H.facts 19 rfl
      generalize e19 : a.eval (.tmp 19) = y at hO
      obtain ⟨ya, yn, yc, rfl⟩ := ownsRow_slice hO
      have hr := H.s.fld H.new
      have hcc : W.cell? ⟨ph, 2, none⟩ = some (.slice (some ⟨g, 0, none⟩) ps.length cap) := by rw [cell_of_row _ _ _ _ _ _ hr]; rfl
      have hf : W.frozen? ⟨ph, 2, none⟩ = false := frozen_of_row _ _ _ _ _ hr
      refine ⟨W.setCell ⟨ph, 2, none⟩ (.slice ya yn yc), ?_, H.s.store hr hO hBph, fun _ _ h => G8_keeps h (Keeps.set hr rfl _)⟩
      (simp only [execOp]; try simp only [Option.map]); (try simp only [List.map_toArray, List.map_cons, List.map_nil]); (simp only [e19, e20]; go_simp)
  · intro l s W hall hS _
    obtain ⟨u, q1, q2⟩ := hS.done (hall 9 (by decide))
    have hO4 : BlksO B W u (M.bs ++ [b0]) := by
      refine ⟨ps ++ [(b0, u0)], by rw [List.map_append, HPS.out]; rfl, ?_, fun q hq => ?_⟩
      · rw [cellsB_snoc, List.length_append]
        exact q2
      · rcases List.mem_append.1 hq with h | h
        · exact hS.inss q h
        · simp at h
          subst h
          obtain ⟨q', hq', e1, e2⟩ : ∃ q' ∈ ps, q'.1 = b0 ∧ q'.2 = u0 := HQ0.out
          have := hS.inss q' hq'
          rw [e1, e2] at this
          exact this
    obtain ⟨ya, yn, yc, rfl⟩ := ownsRow_slice q2
    obtain ⟨c0, c1, c2⟩ := rowF_cells q1
    have hBw4 : Below B w1 W := hS.below
    have hC := hide (check_any ⟨M.p, M.v + 1, M.bs ++ [b0]⟩ _ W ⟨_, rfl, hO4.v⟩)
    rw [HTW.out] at hC
    unfold faultV at hC
    simp only at hC
    have hB14 := hBw4
    rw [← hBBe] at hB14
    have t0 := cell_below hB14 S1.out
    have t1 := cell_below hB14 S2.out
    have t2 := cell_below hB14 S3.out
    have t3 := cell_below hB14 S4.out
    have HS4 := hide (HS1.out.below hB14)
    have hBf4 := hide (bel_of hBw1.out hB14)
    clear hS hall q1 q2 hO4 HSS hBw4 hB14
    simp [overlay, dstsOf]
    go_wp2_with fail
    refine hC.out.mono ?_
    rintro r w5 ⟨rfl, hB5⟩
    have t0 := cell_below hB5 t0
    have t1 := cell_below hB5 t1
    have t2 := cell_below hB5 t2
    have t3 := cell_below hB5 t3
    have HS5 := hide (HS4.out.below hB5)
    have hBf5 := hide (bel_of hBf4.out hB5)
    have hMd2 := hide (made_any _ sa sb sc sbs w5 HS5.out)
    rw [HMM.out] at hMd2
    clear hC hB5 HS4 hBf4
    go_wp2_with fail
    refine hMd2.out.mono ?_
    rintro r w6 ⟨u6, rfl, hO6, hB6⟩
    have hC2 := hide (check_any M _ w6 ⟨_, rfl, hO6.v⟩)
    rw [hright.out] at hC2
    unfold faultV at hC2
    simp only at hC2
    have hBf6 := hide (bel_of hBf5.out hB6)
    clear hMd2 hO6 hB6
    go_wp2_with fail
    refine hC2.out.mono ?_
    rintro r w7 ⟨rfl, hB7⟩
    have hBf7 := bel_of hBf6.out hB7
    clear hC2 hB7
    go_wp2_with fail
    go_ret
    exact ⟨rfl, hBf7⟩

theorem walk {H : Type} {enc : TypeId × Value → H} (W : World) (base : Nat) (v0 : Value) {d0 : DataW H} {p0 : List MemPlace} (o0 : Value.okWide Try.prog W .any base 27 v0) (k0 : DataW.Trod enc Try.prog W 0 (fun _ => true) true 27 v0 d0 p0) :
    Calls Try.prog 8 #[v0] W fun e w' => e = .returned (.bool true) ∧ Below W.heap.size W w' := by
  obtain ⟨sa, sb, sc, sbs, hs⟩ := spec_in o0 k0
  exact twice_walk v0 sa sb sc sbs W hs

set_option maxRecDepth 100000 in
theorem lifted (os : Os) (started : os.Started) (H : Type) (enc : TypeId × Value → H) :
    ReturnsInHanded {} Try.checked os 8 .any (Rows.irTwiceSpec.pre6 enc Try.prog Try.f8 Rows.irTwiceRow.domain false) (Rows.irTwiceSpec.post enc Try.prog Try.f8 false true false false) := by
  refine returnsInHanded_of_change (C := Try.checked) own started (by kernel_rfl) Try.func8
    (ChangeSpec.witness6 (enc := enc) (C := Try.checked) false ⟨#[], #[.agg #[.int .u8 0, .int .u8 0, .int .u8 0, .slice none 0 0]], []⟩ 8 (by kernel_rfl) (by kernel_rfl) (by kernel_rfl) (by kernel_rfl)) ?_
  intro W base args ds gs before hval0 hW hcnd _
  have hval : ∀ (j : Nat) t v, Try.f8.params[j]? = some t → args[j]? = some v → Value.okWide Try.prog W .any base t v := hval0
  have hW' := hW
  obtain ⟨p, q, hA0, hV, rfl, hfz, hnd⟩ := hW
  have hA : DataW.TrodAll enc Try.prog W 0 (fun _ => true) true Try.f8.params.toList args.toList ds p := hA0
  rw [Try.params8] at hA hval
  obtain ⟨v0, vs0, d0, ds0, p0, q0, hargs, rfl, rfl, h0, r0⟩ := trodAll_cons hA
  obtain ⟨rfl, rfl, rfl⟩ := trodAll_nil r0
  obtain rfl : args = #[v0] := by cases args; simp_all
  obtain ⟨rfl, rfl⟩ := trodVars_none hV
  have lt0 : ∀ x ∈ p0, x.block < W.heap.size := by obtain ⟨m, hm⟩ := h0; exact DataW.trod_lt m _ _ _ hm
  refine (walk W base v0 (hval 0 27 v0 rfl rfl) h0).mono fun e W' ⟨he, bel⟩ => ?_
  subst he
  exact ⟨_, rfl, _, _, _, [], _, [], hW', trodAll_mk1 (shut_bool Try.underlying4 _), (trodAll_cons_mk (Below.trod laidOut (by kernel_rfl) (of_decide_eq_true (by kernel_rfl)) h0 bel lt0) trodAll_mk0), rfl, bel.frame _, fun h => by cases h⟩

theorem over : Rows.irTwiceRow.holds Try.pinned (OpenSpec.ofChange Rows.irTwiceSpec) :=
  OpenClaim.holds_of_wide 8 Try.f8 rfl rfl rfl rfl rfl rfl rfl ⟨rfl, rfl, rfl, rfl, rfl⟩ rfl rfl rfl rfl rfl (by kernel_rfl) Try.func8 (by kernel_rfl)
    (of_decide_eq_true (by kernel_rfl)) (by unfold Func.isWrapper; first | (rw [if_pos (by decide +kernel)]; kernel_rfl) | (rw [if_neg (by decide +kernel)]; exact ⟨rfl, rfl⟩))
    (fun os started H enc _ => lifted os started H enc)

end Go.Proofs.Yteidejcaoboejaa.irTwice
namespace Go.Proofs.Yteidejcaoboejaa
theorem irTwice_holds : Rows.IrTwiceSaid := irTwice.over
#print axioms irTwice_holds
end Go.Proofs.Yteidejcaoboejaa
