/- The maker's ins: an instruction of a call, with its arguments. -/
import Derived.Test.YtblcbccchlljhaaMkIns
import Derived.Test.YtblcbccchlljhaaOps
import Derived.Test.YtblcbccchlljhaaAny
namespace Go.Proofs.Ytblcbccchlljhaa
open Go.RowKit Ir

/-- An instruction of a call, with its arguments' value. -/
def row6 (d n : Int) (u : Value) : Array Value := #[.int .u8 6, .int .u8 0, .int .i64 d, .int .i64 0, .int .i64 0, .int .i64 n, u]
/-- What is known of each temporary of 'i.Args = append(i.Args, m.next(v))'. -/
def Gar (B0 pm g6 : Nat) (v x : Int) (ua : Value) (xs : List Int) : Tmp → Value → World → Prop
  | 55, xx, _ => xx = .pointer (some ⟨g6, 6, none⟩)
  | 56, xx, _ => xx = ua
  | 57, xx, _ => xx = .pointer (some ⟨pm, 0, none⟩)
  | 58, xx, _ => xx = .int .i64 v
  | 59, xx, _ => xx = .int .i64 x
  | 60, xx, ww => (∃ h, xx = .slice (some ⟨h, 0, none⟩) 1 1 ∧ ww.heap[h]? = some (Obj.cells #[.int .i64 x] 3 (0, 0)) ∧ ua.ownBlock ≠ some h)
  | 61, xx, ww => ArgsO B0 ww xx (xs ++ [x])
  | 62, xx, _ => xx = .pointer (some ⟨g6, 6, none⟩)
  | _, _, _ => True

/-- What stands in the world while it is done. -/
structure Sar (B pm g g6 : Nat) (d n x : Int) (ua : Value) (xs b0 b1 : List Int) (w : World) (l : Nat → Bool) (W : World) : Prop where
  maker : MkAt B W pm (if l 4 = true then b1 else b0)
  zero : Zero46 W g
  grown : w.grownBy W (some pm)
  own : ∀ k, ua.ownBlock = some k → k < W.heap.size
  args : l 6 = false → ArgsO w.heap.size W ua xs
  row : l 8 = false → W.heap[g6]? = some (Obj.cells (row6 d n ua) 79 (0, 0))
  done : l 8 = true → ∃ u, W.heap[g6]? = some (Obj.cells (row6 d n u) 79 (0, 0)) ∧ ArgsO w.heap.size W u (xs ++ [x])
  szB : B ≤ W.heap.size
theorem Keeps.pm {B : Nat} {W W' : World} {pm : Nat} {bs : List Int} (h : MkAt B W pm bs) (hg : W.grownBy W' (some pm)) : Keeps (fun t => t != 75) W W' := by
  intro g cs t fr ht h0
  obtain ⟨_, v, h1, _⟩ := h
  rw [hg.block g (Array.getElem?_eq_some_iff.1 h0).1 ?_]
  · exact h0
  · intro e
    simp only [Option.some.injEq] at e
    subst e
    rw [h0] at h1
    simp only [Option.some.injEq, Obj.cells.injEq] at h1
    rw [h1.2.1] at ht
    simp at ht
section
variable {B pm g g6 : Nat} {d n v x : Int} {ua : Value} {xs b0 b1 : List Int} {w : World} {l : Nat → Bool} {W W' : World}
theorem Gar_keeps {B0 : Nat} {t : Tmp} {y : Value} {T : TypeId → Bool} (h : Gar B0 pm g6 v x ua xs t y W) (hk : Keeps T W W') (hT : T 3 = true := by rfl) : Gar B0 pm g6 v x ua xs t y W' := by
  unfold Gar at h ⊢
  split
  all_goals
    first
      | exact h
      | exact owns_keeps h hk hT
      | (obtain ⟨k, e1, e2, e3⟩ := h; exact ⟨k, e1, hk _ _ _ _ hT e2, e3⟩)
      | trivial
theorem Gar_app {B0 : Nat} {t : Tmp} {y : Value} (h : Gar B0 pm g6 v x ua xs t y W) (ht : some t ≠ some 61) (hg : W.grownBy W' ua.ownBlock) : Gar B0 pm g6 v x ua xs t y W' := by
  unfold Gar at h ⊢
  split
  all_goals
    first
      | exact h
      | exact absurd rfl ht
      | (obtain ⟨k, e1, e2, e3⟩ := h; exact ⟨k, e1, by rw [hg.block k (Array.getElem?_eq_some_iff.1 e2).1 (fun e => e3 e.symm)]; exact e2, e3⟩)
      | trivial
theorem Sar.skip (h : Sar B pm g g6 d n x ua xs b0 b1 w l W) {j : Nat} (h4 : j ≠ 4) (h6 : j ≠ 6) (h8 : j ≠ 8) : Sar B pm g g6 d n x ua xs b0 b1 w (upd l j) W := by
  have u4 : upd l j 4 = l 4 := if_neg (fun e => h4 e.symm)
  have u6 : upd l j 6 = l 6 := if_neg (fun e => h6 e.symm)
  have u8 : upd l j 8 = l 8 := if_neg (fun e => h8 e.symm)
  exact ⟨by rw [u4]; exact h.maker, h.zero, h.grown, h.own, by rw [u6]; exact h.args, by rw [u8]; exact h.row, by rw [u8]; exact h.done, h.szB⟩
theorem Sar.sz (h : Sar B pm g g6 d n x ua xs b0 b1 w l W) : w.heap.size ≤ W.heap.size := h.grown.size
theorem Sar.mk0 (h : Sar B pm g g6 d n x ua xs b0 b1 w l W) (hl : l 4 = false) : MkAt B W pm b0 := by
  have := h.maker
  rwa [hl, if_neg (by simp)] at this
theorem row_ne68 {bs : List Int} {cs : Array Value} {t : TypeId} (hm : MkAt B W pm bs) (hr : W.heap[g6]? = some (Obj.cells cs t (0, 0))) (ht : t ≠ 75) : g6 ≠ pm := by
  intro e
  subst e
  obtain ⟨_, v, h1, _⟩ := hm
  rw [hr] at h1
  simp only [Option.some.injEq, Obj.cells.injEq] at h1
  exact ht h1.2.1
theorem Sar.call (h : Sar B pm g g6 d n x ua xs b0 b1 w l W) (hM : MkAt B W' pm b1) (hg : W.grownBy W' (some pm)) (hgpm : g ≠ pm) : Sar B pm g g6 d n x ua xs b0 b1 w (upd l 4) W' := by
  have hk := Keeps.pm h.maker hg
  refine ⟨hM, h.zero.grown hg (by simpa using fun e => hgpm e.symm), grown_trans h.grown hg, fun k hk' => Nat.lt_of_lt_of_le (h.own k hk') hg.size, fun h6 => owns_keeps (h.args h6) hk rfl, fun h8 => hk _ _ _ _ rfl (h.row h8), fun h8 => ?_, Nat.le_trans h.szB hg.size⟩
  obtain ⟨u, e1, e2⟩ := h.done h8
  exact ⟨u, hk _ _ _ _ rfl e1, owns_keeps e2 hk rfl⟩
theorem Sar.alloc (h : Sar B pm g g6 d n x ua xs b0 b1 w l W) (hB : Below W.heap.size W W') : Sar B pm g g6 d n x ua xs b0 b1 w (upd l 5) W' := by
  have hk : Keeps (fun _ => true) W W' := Keeps.below hB
  refine ⟨h.maker.below hB h.szB, h.zero.grown (grown_below hB none) (by simp), grown_trans h.grown (grown_below hB _), fun k hk' => Nat.lt_of_lt_of_le (h.own k hk') hB.size, fun h6 => owns_keeps (h.args h6) hk rfl, fun h8 => hk _ _ _ _ rfl (h.row h8), fun h8 => ?_, Nat.le_trans h.szB hB.size⟩
  obtain ⟨u, e1, e2⟩ := h.done h8
  exact ⟨u, hk _ _ _ _ rfl e1, owns_keeps e2 hk rfl⟩
theorem Sar.app (h : Sar B pm g g6 d n x ua xs b0 b1 w l W) (hO : ArgsO w.heap.size W ua xs) (hg : W.grownBy W' ua.ownBlock) (hBw : B ≤ w.heap.size) (hl8 : l 8 = false) : Sar B pm g g6 d n x ua xs b0 b1 w (upd l 6) W' := by
  have hk : Keeps (fun t => t != 3) W W' := Keeps.grown hO rfl hg
  have hown : ∀ k, ua.ownBlock = some k → w.heap.size ≤ k ∧ k ≠ pm := by
    intro k e
    refine ⟨(hO.lt k e).1, ?_⟩
    rcases hO.2 with ⟨rfl, _⟩ | ⟨k', cap, cur, rfl, _, hkk, _⟩
    · simp [Value.ownBlock] at e
    · simp [Value.ownBlock] at e
      subst e
      exact row_ne68 h.maker hkk (by decide)
  refine ⟨h.maker.grown hg h.szB (fun k e => ⟨Nat.le_trans hBw (hown k e).1, (hown k e).2⟩), ?_, grown_own h.grown hg (fun k e => (hown k e).1), fun k hk' => Nat.lt_of_lt_of_le (h.own k hk') hg.size, fun h6 => ?_, fun h8 => hk _ _ _ _ rfl (h.row h8), fun h8 => ?_, Nat.le_trans h.szB hg.size⟩
  · exact hk _ _ _ _ rfl h.zero
  · simp [upd] at h6
  · have h8' : l 8 = true := h8
    rw [hl8] at h8'
    cases h8'
theorem Sar.store (h : Sar B pm g g6 d n x ua xs b0 b1 w l W) {u : Value} (hr : W.heap[g6]? = some (Obj.cells (row6 d n ua) 79 (0, 0))) (hO : ArgsO w.heap.size W u (xs ++ [x])) (hBw : B ≤ w.heap.size) (hg6 : w.heap.size ≤ g6 ∧ g6 ≠ g) : Sar B pm g g6 d n x ua xs b0 b1 w (upd l 8) (W.setCell ⟨g6, 6, none⟩ u) := by
  have hg := grown_set W g6 6 u
  have hk : Keeps (fun t => t != 79) W (W.setCell ⟨g6, 6, none⟩ u) := Keeps.set hr rfl u
  have hpm := row_ne68 h.maker hr (by decide)
  refine ⟨h.maker.grown hg h.szB (fun k e => by simp at e; subst e; exact ⟨by omega, hpm⟩), h.zero.grown hg (by simpa using hg6.2), grown_own h.grown hg (fun k e => by simp at e; omega), fun k hk' => Nat.lt_of_lt_of_le (h.own k hk') hg.size, fun h6 => owns_keeps (h.args h6) hk rfl, fun h8 => by simp [upd] at h8, fun _ => ⟨u, ?_, owns_keeps hO hk rfl⟩, Nat.le_trans h.szB hg.size⟩
  rw [heap_setCell_same W g6 6 _ _ u hr]
  rfl
end
/-- 'append(xs, y)' of one number, the call's own. -/
theorem app1_ok {B0 : Nat} {a : Act} {w : World} {o : Oper} {s y : Operand} {ua : Value} {xs : List Int} {h : Nat} {x : Int} {Q : Value → World → Prop} (hop : o.op = .call { callee := .builtin .append, args := #[s, y], argTypes := #[48, 48] }) (es : a.eval s = ua) (ey : a.eval y = .slice (some ⟨h, 0, none⟩) 1 1)
    (hO : ArgsO B0 w ua xs) (hc : w.cell? ⟨h, 0, none⟩ = some (.int .i64 x)) (hl : xs.length ≤ 1000000) (hB : B0 ≤ w.heap.size) (hQ : ∀ v' w', ArgsO B0 w' v' (xs ++ [x]) → w.grownBy w' ua.ownBlock → Q v' w') :
    ∃ v' w', (execOp a.eval o).run Try.prog w = .ok (.value v') w' ∧ Q v' w' := by
  obtain ⟨i, hi, hz, hsize, hby⟩ := info_parts info3
  obtain ⟨v', w', hr, h2, h3, _⟩ := run_append_own (P := Try.prog) w B0 48 o.type 3 i (.int .i64 0) 1 8 Try.underlying48 hi hz hsize hby rfl (by decide) ua _ _ hO ⟨h, 0, none⟩ 1 1 [.int .i64 x] (by simp)
    (by intro j u hj; match j, hj with | 0, hj => simp at hj; subst hj; rw [Addr.add_lit]; exact hc) (by intro u hu; simp at hu; subst hu; rfl) (by unfold maxLen; omega) (by omega) hB
  refine ⟨v', w', ?_, hQ v' w' (owns_cast h2 (by simp) (by simp)) h3⟩
  unfold execOp
  simp only [hop, resolve, invoke, builtin, Sem.run_bind, Sem.run_pure, Result.andThen_ok, List.map_toArray, List.map_cons, List.map_nil, es, ey, hr]
theorem Keeps.set7 {w : World} {g : Nat} (h : Zero46 w g) (y0 y1 y2 y3 y4 y5 y6 : Value) : Keeps T3 w (((((((w.setCell ⟨g, 0, none⟩ y0).setCell ⟨g, 1, none⟩ y1).setCell ⟨g, 2, none⟩ y2).setCell ⟨g, 3, none⟩ y3).setCell ⟨g, 4, none⟩ y4).setCell ⟨g, 5, none⟩ y5).setCell ⟨g, 6, none⟩ y6) := by
  intro k cs t fr ht h0
  have hne : k ≠ g := by
    intro e
    subst e
    unfold Zero46 at h
    rw [h0] at h
    simp only [Option.some.injEq, Obj.cells.injEq] at h
    rw [h.2.1] at ht
    simp [T3] at ht
  rw [(grown_set7 w g y0 y1 y2 y3 y4 y5 y6).block k (Array.getElem?_eq_some_iff.1 h0).1 (by simpa using hne)]
  exact h0

set_option maxHeartbeats 4000000 in
set_option maxRecDepth 100000 in
theorem mkIns_6 (B pm : Nat) (bs : List Int) (v : Int) (w : World) (h : MkAt B w pm bs) (hB : B ≤ w.heap.size) (hv : 0 < v) (hk : (nxt bs 9).1 = 5) :
    Calls Try.prog 35 #[.pointer (some ⟨pm, 0, none⟩), .int .i64 v] w (MkPost B pm w (mkOf 6 v (nxt bs 9).2)) := by
  have hpl := h.lt
  have h0 := h.below ((Below.refl w.heap.size w).alloc (Nat.le_refl _) (.cells #[.int .u8 0, .int .u8 0, .int .i64 0, .int .i64 0, .int .i64 0, .int .i64 0, .slice none 0 0] 79)) hB
  have hg0 := World.grownBy_alloc w (.cells #[.int .u8 0, .int .u8 0, .int .i64 0, .int .i64 0, .int .i64 0, .int .i64 0, .slice none 0 0] 79) (some pm)
  have hZ0 := Zero46.new w
  have hne : (some pm : Option Nat) ≠ some w.heap.size := by simp; omega
  have hszz : (w.alloc (.cells #[.int .u8 0, .int .u8 0, .int .i64 0, .int .i64 0, .int .i64 0, .int .i64 0, .slice none 0 0] 79)).heap.size = w.heap.size + 1 := by simp
  have n0 := hide (next_any B pm bs 9 _ h0 (by omega))
  rw [hk] at n0
  have HG0 := hide hg0
  have HZ0 := hide hZ0
  have HSZ := hide hszz
  clear h h0 hk hg0 hZ0 hszz
  go_enter Try.func35, Try.ntmps35
  go_wp2_with fail
  refine n0.out.mono ?_
  rintro e w1 ⟨rfl, hM, hg, hz⟩
  have HG := hide (grown_trans HG0.out hg)
  have HZ := hide (HZ0.out.grown hg hne)
  have HM := hide hM
  have hs1 : w1.heap.size = w.heap.size + 1 := by rw [hz, HSZ.out]
  clear hM n0 HG0 HZ0 hz hg HSZ
  generalize hb1 : (nxt bs 9).2 = b1 at HM
  have n1 := hide (next_any B pm b1 v w1 HM.out (by omega))
  go_wp2_with fail
  refine n1.out.mono ?_
  rintro e w2 ⟨rfl, hM, hg, hz⟩
  have HG := hide (grown_trans HG.out hg)
  have HZ := hide (HZ.out.grown hg hne)
  have HM := hide hM
  have hs2 : w2.heap.size = w.heap.size + 1 := by rw [hz, hs1]
  clear hM n1 hz hg hs1
  generalize hx0 : (nxt b1 v).1 = d at ⊢
  generalize hy0 : (nxt b1 v).2 = b2 at HM
  have HX0 := hide hx0
  have HY0 := hide hy0
  clear hx0 hy0
  have n2 := hide (next_any B pm b2 5 w2 HM.out (by omega))
  go_wp2_with fail
  refine n2.out.mono ?_
  rintro e w3 ⟨rfl, hM, hg, hz⟩
  have HG := hide (grown_trans HG.out hg)
  have HZ := hide (HZ.out.grown hg hne)
  have hs3 : w3.heap.size = w.heap.size + 1 := by rw [hz, hs2]
  have HS3 := hide hs3
  generalize hx1 : (nxt b2 5).1 = n at ⊢
  generalize hy1 : (nxt b2 5).2 = b3 at hM
  have HX1 := hide hx1
  have HY1 := hide hy1
  have hBx := (Below.refl w3.heap.size w3).alloc (Nat.le_refl _) (.cells (row6 d n (.slice none 0 0)) 79)
  have hM4 := hM.below hBx (by omega)
  have hr4 : (w3.alloc (.cells (row6 d n (.slice none 0 0)) 79)).heap[w3.heap.size]? = some (Obj.cells (row6 d n (.slice none 0 0)) 79 (0, 0)) := heap_alloc_new w3 _
  have n3 := hide (next_any B pm b3 4 _ hM4 (by omega))
  have HR4 := hide hr4
  have HG4 := hide (grown_trans HG.out (grown_below hBx _))
  have HZ4 := hide (HZ.out.grown (grown_below hBx none) (by simp))
  have hpm3 : pm ≠ w3.heap.size := by omega
  have hin := nxt_in (bs := b3) (n := 4) (by omega)
  unfold row6 at n3
  clear hM n2 hz hg hs2 HG HZ hx1 hy1 hBx hM4 hr4 hs3
  go_wp2_with fail
  refine n3.out.mono ?_
  rintro e w4 ⟨rfl, hM, hg, hz⟩
  have HR := hide ((hg.block w3.heap.size (by simp) (by simpa using fun e => hpm3 e.symm)).trans HR4.out)
  have HG := hide (grown_trans HG4.out hg)
  have HZ := hide (HZ4.out.grown hg hne)
  have HM := hide hM
  generalize hx2 : (nxt b3 4).1 = c at hin ⊢
  generalize hy2 : (nxt b3 4).2 = b4 at HM
  have HX2 := hide hx2
  have HY2 := hide hy2
  generalize hg6 : w3.heap.size = g6 at *
  have hg6s : w.heap.size ≤ g6 ∧ g6 ≠ w.heap.size := by have := HS3.out; omega
  obtain ⟨cn, rfl⟩ : ∃ cn : Nat, c = (cn : Int) := ⟨c.toNat, by omega⟩
  have hE : Hid (mkOf 6 v (nxt bs 9).2 = (⟨6, 0, d, 0, 0, n, (mkArgs v cn b4).1⟩, (mkArgs v cn b4).2)) := by
    show _ = _
    rw [hb1]
    simp [mkOf, HX0.out, HY0.out, HX1.out, HY1.out, HX2.out, HY2.out]
  have hrel0 : w4.heap[g6]? = some (Obj.cells (row6 d n (.slice none 0 0)) 79 (0, 0)) ∧ ArgsO w.heap.size w4 (.slice none 0 0) (mkArgs v 0 b4).1 ∧ MkAt B w4 pm (mkArgs v 0 b4).2 ∧ Zero46 w4 w.heap.size ∧ w.grownBy w4 (some pm) := ⟨HR.out, ArgsO.nil _ _, HM.out, HZ.out, HG.out⟩
  have HREL := hide hrel0
  clear hM n3 hz hg HR HR4 HG4 HZ4 HZ HM HG hx2 hy2 HS3 hb1 hrel0 HX0 HX1 HX2 HY0 HY1 HY2 hg6 hpm3
  go_wp2_with fail
  go_loopw [53] (fun iv wr => ∃ (j : Nat) (ua : Value), j ≤ cn ∧ iv = .int .i64 j ∧ wr.heap[g6]? = some (Obj.cells (row6 d n ua) 79 (0, 0)) ∧ ArgsO w.heap.size wr ua (mkArgs v j b4).1 ∧ MkAt B wr pm (mkArgs v j b4).2 ∧ Zero46 wr w.heap.size ∧ w.grownBy wr (some pm)) (fun iv _ => cn - (intOf iv).toNat)
  case atStart => exact ⟨0, _, by omega, rfl, HREL.out⟩
  case round =>
    obtain ⟨j, ua, hj, rfl, hr, hO, hM, hZ, hG⟩ := hrel
    by_cases hlt : j < cn
    · obtain ⟨hsn1, hsn2⟩ := mkArgs_snoc v j b4
      have hxl : (mkArgs v j b4).1.length ≤ 1000000 := by rw [mkArgs_len]; omega
      have HS1 := hide hsn1
      have HS2 := hide hsn2
      have hown : ∀ k, ua.ownBlock = some k → k < wr.heap.size := fun k e => (hO.lt k e).2
      obtain ⟨aa, ac, hua0⟩ := hO.v.slice
      have hua : ∃ aa an ac, ua = .slice aa an ac := ⟨_, _, _, hua0⟩
      generalize hxs : (mkArgs v j b4).1 = xs at *
      generalize hb0 : (mkArgs v j b4).2 = b0 at *
      generalize hxx : (nxt b0 v).1 = x at HS1
      generalize hb1 : (nxt b0 v).2 = b1 at HS2
      have hgg := hB
      have hgpm : w.heap.size ≠ pm := by omega
      have HXX := hide hxx
      have HB1 := hide hb1
      clear hsn1 hsn2 hua0 hxx hb1 hxs hb0
      have hlt' : (j : Int) < (cn : Int) := by omega
      go_wp2_with fail
      refine wp_region_each (by kernel_rfl) (fun t y W => Gar w.heap.size pm g6 v x ua xs t y W) (fun l W => Sar B pm w.heap.size g6 d n x ua xs b0 b1 w l W) (by kernel_rfl) ⟨hM.below (Below.refl _ _).drew (Nat.le_trans hB hG.size), hZ, grown_trans hG (grown_below (Below.refl _ _).drew _), hown, fun _ => hO, fun _ => hr, fun h => by simp at h, Nat.le_trans hB hG.size⟩ ?_ ?_
      · refine And.intro ?_ (And.intro ?_ (And.intro ?_ (And.intro ?_ (And.intro ?_ (And.intro ?_ (And.intro ?_ (And.intro ?_ (And.intro ?_ trivial))))))))
        · refine asked_pure rfl rfl (fun _ _ h => h.skip (by decide) (by decide) (by decide)) (fun _ _ _ => rfl) (fun l a W H => ?_)
          have e6 : a.eval (.tmp 6) = .pointer (some ⟨g6, 0, none⟩) := H.base 6 rfl
          (simp only [execOp]; try simp only [Option.map]); (try simp only [List.map_toArray, List.map_cons, List.map_nil]); (simp only [e6]; go_simp)
        · refine asked_any rfl (fun l a W H => ?_)
          have e55 : a.eval (.tmp 55) = .pointer (some ⟨g6, 6, none⟩) := H.facts 55 rfl
          have hl8 : l 8 = false := by
            cases h8 : l 8 with
            | false => rfl
            | true =>
              have h1 := H.closed 6 1 (by rfl) (H.closed 8 6 (by rfl) h8)
              rw [H.new] at h1
              cases h1
          have hc : W.cell? ⟨g6, 6, none⟩ = some ua := by rw [cell_of_row _ _ _ _ _ _ (H.s.row hl8)]; rfl
          refine ⟨ua, W, ?_, fun d hd => by cases hd; exact rfl, H.s.skip (by decide) (by decide) (by decide), fun _ _ _ h => h⟩
          obtain ⟨aa, an, ac, rfl⟩ := hua
          (simp only [execOp]; try simp only [Option.map]); (try simp only [List.map_toArray, List.map_cons, List.map_nil]); (simp only [e55]; go_simp)
        · refine asked_pure rfl rfl (fun _ _ h => h.skip (by decide) (by decide) (by decide)) (fun _ _ _ => rfl) (fun l a W H => ?_)
          have e0 : a.eval (.tmp 0) = .pointer (some ⟨pm, 0, none⟩) := H.base 0 rfl
          exact run_move rfl e0
        · refine asked_pure rfl rfl (fun _ _ h => h.skip (by decide) (by decide) (by decide)) (fun _ _ _ => rfl) (fun l a W H => ?_)
          have e1 : a.eval (.tmp 1) = .int .i64 v := H.base 1 rfl
          exact run_move rfl e1
        · refine asked_call rfl Try.func34 (by kernel_rfl) (by kernel_rfl) rfl rfl (fun l a W H => ?_)
          have e57 : a.eval (.tmp 57) = .pointer (some ⟨pm, 0, none⟩) := H.facts 57 rfl
          have e58 : a.eval (.tmp 58) = .int .i64 v := H.facts 58 rfl
          have ea : (#[.tmp 57, .tmp 58] : Array Operand).map a.eval = #[.pointer (some ⟨pm, 0, none⟩), .int .i64 v] := by
            simp only [List.map_toArray, List.map_cons, List.map_nil, e57, e58]
          rw [ea]
          refine (next_any B pm b0 v W (H.s.mk0 H.new) hv).mono ?_
          rintro e w' ⟨rfl, hM, hg, _⟩
          exact ⟨_, rfl, by rw [HXX.out]; exact rfl, H.s.call (by rw [← HB1.out]; exact hM) hg hgpm, fun _ _ _ h => Gar_keeps h (Keeps.pm H.s.maker hg)⟩
        · refine asked_any rfl (fun l a W H => ?_)
          have e59 : a.eval (.tmp 59) = .int .i64 x := H.facts 59 rfl
          have hB := (Below.refl W.heap.size W).alloc (Nat.le_refl _) (.cells #[.int .i64 x] 3)
          refine ⟨.slice (some ⟨W.heap.size, 0, none⟩) 1 1, W.alloc (.cells #[.int .i64 x] 3), ?_, fun d hd => by cases hd; exact ⟨_, rfl, heap_alloc_new W _, fun e => by have := H.s.own _ e; omega⟩, H.s.alloc hB, fun _ _ _ h => Gar_keeps (T := T3) h (Keeps.below hB)⟩
          (simp only [execOp]; try simp only [Option.map]); (try simp only [List.map_toArray, List.map_cons, List.map_nil]); (simp only [e59]; go_simp)
        · refine asked_any rfl (fun l a W H => ?_)
          have e56 : a.eval (.tmp 56) = ua := H.facts 56 rfl
          obtain ⟨h, e60, hh, hne⟩ : ∃ h, a.eval (.tmp 60) = .slice (some ⟨h, 0, none⟩) 1 1 ∧ W.heap[h]? = some (Obj.cells #[.int .i64 x] 3 (0, 0)) ∧ ua.ownBlock ≠ some h := H.facts 60 rfl
          have hl8 : l 8 = false := by
            cases h8 : l 8 with
            | false => rfl
            | true =>
              have h1 := H.closed 8 6 (by rfl) h8
              rw [H.new] at h1
              cases h1
          have hO : ArgsO w.heap.size W ua xs := H.s.args H.new
          have hc : W.cell? ⟨h, 0, none⟩ = some (.int .i64 x) := by rw [cell_of_row _ _ _ _ _ _ hh]; rfl
          refine app1_ok rfl e56 e60 hO hc hxl H.s.sz fun v' w' e2 e3 => ?_
          exact ⟨fun d hd => by cases hd; exact e2, H.s.app hO e3 hgg hl8, fun _ _ hd h => Gar_app h hd e3⟩
        · refine asked_pure rfl rfl (fun _ _ h => h.skip (by decide) (by decide) (by decide)) (fun _ _ _ => rfl) (fun l a W H => ?_)
          have e6 : a.eval (.tmp 6) = .pointer (some ⟨g6, 0, none⟩) := H.base 6 rfl
          (simp only [execOp]; try simp only [Option.map]); (try simp only [List.map_toArray, List.map_cons, List.map_nil]); (simp only [e6]; go_simp)
        · refine asked_skip rfl rfl (fun l a W H => ?_)
          have e62 : a.eval (.tmp 62) = .pointer (some ⟨g6, 6, none⟩) := H.facts 62 rfl
          have hO : ArgsO w.heap.size W (a.eval (.tmp 61)) (xs ++ [x]) := H.facts 61 rfl
          generalize e61 : a.eval (.tmp 61) = y at hO
          obtain ⟨ya, yc, rfl⟩ := hO.v.slice
          have hr := H.s.row H.new
          have hc : W.cell? ⟨g6, 6, none⟩ = some ua := by rw [cell_of_row _ _ _ _ _ _ hr]; rfl
          have hf : W.frozen? ⟨g6, 6, none⟩ = false := frozen_of_row _ _ _ _ _ hr
          refine ⟨W.setCell ⟨g6, 6, none⟩ (.slice ya (xs ++ [x]).length yc), ?_, H.s.store hr hO hgg hg6s, fun _ _ h => Gar_keeps (T := T3) h (Keeps.set hr rfl _)⟩
          (simp only [execOp]; try simp only [Option.map]); (try simp only [List.map_toArray, List.map_cons, List.map_nil]); (simp only [e61, e62]; go_simp)
      · intro l s W hall hS _
        obtain ⟨u, q1, q2⟩ := hS.done (hall 8 (by decide))
        have q3 := hS.maker
        rw [hall 4 (by decide), if_pos rfl] at q3
        have q4 := hS.zero
        have q5 := hS.grown
        clear hS hall
        simp [overlay, dstsOf]
        go_wp2
        go_roundw
        case rel => exact ⟨j + 1, u, by omega, by go_num, q1, by rw [HS1.out]; exact q2, by rw [HS2.out]; exact q3, q4, q5⟩
        case measure => simp [intOf]; omega
    · obtain rfl : j = cn := by omega
      obtain ⟨aa, ac, hua0⟩ := hO.v.slice
      have HO := hide hO
      have hrc : ∀ k u, (row6 d n ua)[k]? = some u → wr.cell? ⟨g6, k, none⟩ = some u := fun k u hu => by rw [cell_of_row _ _ _ _ _ _ hr]; exact hu
      have s0 : wr.cell? ⟨g6, 0, none⟩ = some (.int .u8 6) := hrc 0 _ rfl
      have s1 : wr.cell? ⟨g6, 1, none⟩ = some (.int .u8 0) := hrc 1 _ rfl
      have s2 : wr.cell? ⟨g6, 2, none⟩ = some (.int .i64 d) := hrc 2 _ rfl
      have s3 : wr.cell? ⟨g6, 3, none⟩ = some (.int .i64 0) := hrc 3 _ rfl
      have s4 : wr.cell? ⟨g6, 4, none⟩ = some (.int .i64 0) := hrc 4 _ rfl
      have s5 : wr.cell? ⟨g6, 5, none⟩ = some (.int .i64 n) := hrc 5 _ rfl
      have s6 : wr.cell? ⟨g6, 6, none⟩ = some (ua) := hrc 6 _ rfl
      obtain ⟨r0, r1, r2, r3, r4, r5, r6, f0, f1, f2, f3, f4, f5, f6⟩ := hZ.cells
      obtain ⟨q0, q1, q2, q3, q4, q5, q6⟩ := set7 (.int .u8 6) (.int .u8 0) (.int .i64 d) (.int .i64 0) (.int .i64 0) (.int .i64 n) ua r0 r1 r2 r3 r4 r5 r6
      have hgs := grown_set7 wr w.heap.size (.int .u8 6) (.int .u8 0) (.int .i64 d) (.int .i64 0) (.int .i64 0) (.int .i64 n) ua
      have hsz : B ≤ wr.heap.size := Nat.le_trans hB hG.size
      have HMf := hide (hM.grown hgs hsz (fun k hk => by simp at hk; omega))
      have HGf := hide (grown_own hG hgs (fun k hk => by simp at hk; omega))
      have HOf := hide (HO.out.keeps (Keeps.set7 hZ (.int .u8 6) (.int .u8 0) (.int .i64 d) (.int .i64 0) (.int .i64 0) (.int .i64 n) ua))
      subst hua0
      clear hgs hsz hM hG hZ hr hrc hO
      go_wp2_with fail
      refine bodyPost_ret (v := insV ⟨6, 0, d, 0, 0, n, (mkArgs v j b4).1⟩ (.slice aa (mkArgs v j b4).1.length ac)) (by simp [results, Try.results35, go_sem, insV, q0, q1, q2, q3, q4, q5, q6]) rfl ?_
      exact ⟨_, by rw [hE.out], by rw [hE.out]; exact HOf.out, by rw [hE.out]; exact HMf.out, HGf.out⟩

theorem mkIns_any (B pm : Nat) (bs : List Int) (v : Int) (w : World) (h : MkAt B w pm bs) (hB : B ≤ w.heap.size) (hv : 0 < v) :
    Calls Try.prog 35 #[.pointer (some ⟨pm, 0, none⟩), .int .i64 v] w (MkPost B pm w (mkIns v bs)) := by
  have hin := nxt_in (bs := bs) (n := 9) (by omega)
  unfold mkIns
  by_cases k1 : (nxt bs 9).1 = 0
  · rw [k1]
    exact mkIns_1 B pm bs v w h hB hv k1
  by_cases k2 : (nxt bs 9).1 = 1
  · rw [k2]
    exact mkIns_2 B pm bs v w h hB hv k2
  by_cases k3 : (nxt bs 9).1 = 2
  · rw [k3]
    exact mkIns_3 B pm bs v w h hB hv k3
  by_cases k4 : (nxt bs 9).1 = 3
  · rw [k4]
    exact mkIns_4 B pm bs v w h hB hv k4
  by_cases k5 : (nxt bs 9).1 = 4
  · rw [k5]
    exact mkIns_5 B pm bs v w h hB hv k5
  by_cases k6 : (nxt bs 9).1 = 5
  · rw [k6]
    exact mkIns_6 B pm bs v w h hB hv k6
  by_cases k7 : (nxt bs 9).1 = 6
  · rw [k7]
    exact mkIns_7 B pm bs v w h hB hv k7
  by_cases k8 : (nxt bs 9).1 = 7
  · rw [k8]
    exact mkIns_8 B pm bs v w h hB hv k8
  by_cases k9 : (nxt bs 9).1 = 8
  · rw [k9]
    exact mkIns_9 B pm bs v w h hB hv k9
  omega
end Go.Proofs.Ytblcbccchlljhaa
