/- The way down in the code's Order: a closure that calls itself. -/
import Derived.Test.YtgckpmaajmlijaaR2
import Derived.Test.YtgckpmaajmlijaaOf
namespace Go.Proofs.Ytgckpmaajmlijaa
open Go.RowKit Ir Wy

def ptr (p : Nat) : Value := .pointer (some ⟨p, 0, none⟩)
def downV (pl ps pd pr : Nat) : Value := .func (.func 26) #[] #[.pointer (some ⟨pl, 0, none⟩), .pointer (some ⟨ps, 0, none⟩), .pointer (some ⟨pd, 0, none⟩), .pointer (some ⟨pr, 0, none⟩)]
/-- What the closure finds: the list, the set, itself, the row. -/
structure DS (w0 : World) (lv : Value) (pl ps pd pr : Nat) (w : World) (rowv : Value) (L : List Int) (f : Nat → Bool) : Prop where
  l : w.heap[pl]? = some (.cells #[lv] 26 (0, 0))
  d : w.heap[pd]? = some (.cells #[downV pl ps pd pr] 69 (0, 0))
  r : w.heap[pr]? = some (.cells #[rowv] 40 (0, 0))
  s : Bg.SetAt w ps f
  o : ArgsO w0.heap.size w rowv L
  away : rowv.ownBlock ≠ some ps
  B : Below w0.heap.size w0 w
  ge : w0.heap.size ≤ ps ∧ w0.heap.size ≤ pr
theorem heap_lt {w : World} {g : Nat} {o : Obj} (h : w.heap[g]? = some o) : g < w.heap.size := (Array.getElem?_eq_some_iff.1 h).1
theorem DS.ne {w0 w : World} {lv rowv : Value} {pl ps pd pr : Nat} {L : List Int} {f : Nat → Bool} (h : DS w0 lv pl ps pd pr w rowv L f) : pl ≠ ps ∧ pd ≠ ps ∧ pr ≠ ps ∧ pl ≠ pr ∧ pd ≠ pr ∧ rowv.ownBlock ≠ some pl ∧ rowv.ownBlock ≠ some pd ∧ rowv.ownBlock ≠ some pr := by
  obtain ⟨cs, t, h1, h2, _⟩ := h.s
  have key : ∀ p (v : Value) t', w.heap[p]? = some (.cells #[v] t' (0, 0)) → p ≠ ps := by
    intro p v t' hp e
    subst e
    rw [hp] at h1
    simp only [Option.some.injEq, Obj.cells.injEq] at h1
    rw [← h1.1] at h2
    cases h2
  have own : ∀ p (v : Value) t', w.heap[p]? = some (.cells #[v] t' (0, 0)) → t' ≠ 3 → rowv.ownBlock ≠ some p := by
    intro p v t' hp ht e
    obtain ⟨_, _, cur, hc⟩ := h.o.block p e
    rw [hp] at hc
    simp only [Option.some.injEq, Obj.cells.injEq] at hc
    exact ht hc.2.1
  refine ⟨key _ _ _ h.l, key _ _ _ h.d, key _ _ _ h.r, fun e => ?_, fun e => ?_, own _ _ _ h.l (by decide), own _ _ _ h.d (by decide), own _ _ _ h.r (by decide)⟩
  · have h1 := h.l
    rw [e, h.r] at h1
    simp at h1
  · have h1 := h.d
    rw [e, h.r] at h1
    simp at h1
theorem DS.below {w0 w w1 : World} {lv rowv : Value} {pl ps pd pr : Nat} {L : List Int} {f : Nat → Bool} (h : DS w0 lv pl ps pd pr w rowv L f) (hB : Below w.heap.size w w1) : DS w0 lv pl ps pd pr w1 rowv L f :=
  ⟨(hB.block _ (heap_lt h.l)).trans h.l, (hB.block _ (heap_lt h.d)).trans h.d, (hB.block _ (heap_lt h.r)).trans h.r, h.s.below hB, h.o.below hB, h.away, h.B.trans (hB.mono h.B.size), h.ge⟩
/-- Another set. -/
theorem DS.set {w0 w w1 : World} {lv rowv : Value} {pl ps pd pr : Nat} {L : List Int} {f g : Nat → Bool} (h : DS w0 lv pl ps pd pr w rowv L f) (hg : w.grownBy w1 (some ps)) (hs : Bg.SetAt w1 ps g) : DS w0 lv pl ps pd pr w1 rowv L g := by
  obtain ⟨n1, n2, n3, _⟩ := h.ne
  refine ⟨(hg.block _ (heap_lt h.l) (by simpa using n1)).trans h.l, (hg.block _ (heap_lt h.d) (by simpa using n2)).trans h.d, (hg.block _ (heap_lt h.r) (by simpa using n3)).trans h.r, hs, h.o.stays fun k hk => hg.block k (h.o.lt k hk).2 (fun e => h.away (by rw [hk, e])), h.away, h.B.grown hg h.B.size (fun k e => by cases e; exact h.ge.1), h.ge⟩
/-- A number more in the row: appended, stored. -/
theorem DS.snoc {w0 w w1 : World} {lv rowv v' : Value} {pl ps pd pr : Nat} {L L' : List Int} {f : Nat → Bool} (h : DS w0 lv pl ps pd pr w rowv L f) (hg : w.grownBy w1 rowv.ownBlock) (ho : ArgsO w0.heap.size w1 v' L') (how : ∀ k, v'.ownBlock = some k → rowv.ownBlock = some k ∨ w.heap.size ≤ k) :
    DS w0 lv pl ps pd pr (w1.setCell ⟨pr, 0, none⟩ v') v' L' f ∧ Dwn (fun k => k = ps ∨ k = pr) w rowv v' (w1.setCell ⟨pr, 0, none⟩ v') := by
  obtain ⟨n1, n2, n3, n4, n5, n6, n7, n8⟩ := h.ne
  have hset := set_grown w1 pr 0 v'
  have hB1 : Below w0.heap.size w0 w1 := h.B.grown hg h.B.size (fun k e => (h.o.lt k e).1)
  have hs1 : Bg.SetAt w1 ps f := h.s.kept hg (fun e => h.away e.symm)
  have hr1 : w1.heap[pr]? = some (.cells #[rowv] 40 (0, 0)) := (hg.block _ (heap_lt h.r) (fun e => n8 e.symm)).trans h.r
  have hp : pr < w1.heap.size := heap_lt hr1
  have hv8 : v'.ownBlock ≠ some pr := by
    intro e
    rcases how pr e with q | q
    · exact n8 q
    · have := heap_lt h.r; omega
  have oth : ∀ k, k ≠ pr → (w1.setCell ⟨pr, 0, none⟩ v').heap[k]? = w1.heap[k]? := fun k hk => Below.heap_setCell _ _ _ _ hk
  refine ⟨⟨?_, ?_, ?_, ?_, ?_, ?_, ?_, h.ge⟩, ?_⟩
  · rw [oth _ n4]; exact (hg.block _ (heap_lt h.l) (fun e => n6 e.symm)).trans h.l
  · rw [oth _ n5]; exact (hg.block _ (heap_lt h.d) (fun e => n7 e.symm)).trans h.d
  · rw [heap_setCell_same w1 pr 0 _ _ v' hr1]; rfl
  · exact hs1.kept hset (by simpa using fun e : ps = pr => n3 e.symm)
  · exact ho.stays fun k hk => oth k (fun e => hv8 (by rw [hk, e]))
  · intro e
    rcases how ps e with q | q
    · exact h.away q
    · have := h.s.lt; omega
  · exact hB1.grown hset hB1.size (fun k e => by cases e; exact h.ge.2)
  · refine ⟨hset.os.trans hg.os, hset.tape.trans hg.tape, hset.output.trans hg.output, Nat.le_trans hg.size hset.size, fun k hk hF hr => ?_, how⟩
    rw [oth k (fun e => hF (.inr e))]
    exact hg.block k hk (fun e => hr e.symm)
theorem ins_nat (f : Nat → Bool) (x : Nat) (hx : x < 4096) : Bg.ins f (x : Int) = mk f x := by
  funext y
  simp only [Bg.ins, Bg.inS, mk, Int.toNat_natCast]
  rw [decide_eq_true (by omega)]
  simp
theorem inS_nat (x : Nat) (hx : x < 4096) : Bg.inS (x : Int) = true := by
  unfold Bg.inS
  exact decide_eq_true (by omega)

/-- What going down has done. -/
def Down2 (w0 : World) (lv : Value) (pl ps pd pr : Nat) (w : World) (rowv : Value) (t : List Nat × (Nat → Bool)) : Ending → World → Prop := fun e w' => ∃ v', e = .returned (.tuple #[]) ∧ DS w0 lv pl ps pd pr w' v' (ci t.1) t.2 ∧ Dwn (fun k => k = ps ∨ k = pr) w rowv v' w'
set_option maxHeartbeats 4000000 in
set_option maxRecDepth 100000 in
theorem down26 (w0 : World) (ao : Option Addr) (c : Nat) (es : List En) (H0 : EndsV w0 (.slice ao es.length c) es) (hin : EndsIn es) (hn : es.length ≤ 1000) (pl ps pd pr : Nat) :
    ∀ (f b : Nat) (s : List Nat × (Nat → Bool)) (rowv : Value) (w : World), b < es.length → s.2 b = false → left s.2 es.length ≤ f → DS w0 (.slice ao es.length c) pl ps pd pr w rowv (ci s.1) (mk s.2 b) → s.1.length + left s.2 es.length ≤ 10000 →
      Calls Try.prog 26 #[.int .i64 b, .pointer (some ⟨pl, 0, none⟩), .pointer (some ⟨ps, 0, none⟩), .pointer (some ⟨pd, 0, none⟩), .pointer (some ⟨pr, 0, none⟩)] w (Down2 w0 (.slice ao es.length c) pl ps pd pr w rowv (dn (nxE es) f b s)) := by
  intro f
  induction f with
  | zero =>
    intro b s rowv w hb hs hl
    have := left_pos hs hb
    omega
  | succ f ih =>
    intro b s rowv w hb hs hl hD hlen
    have IH := hide ih
    obtain ⟨g, off, rfl, hc⟩ := (H0.below hD.B).end b hb
    obtain ⟨c1, c2, c3, c4⟩ := hc
    have hb' : (b : Int) < (es.length : Int) := by omega
    have hpl : w.cell? ⟨pl, 0, none⟩ = some (.slice (some ⟨g, off, none⟩) es.length c) := by rw [cell_of_row _ _ _ _ _ _ hD.l]; rfl
    have HD := hide hD
    have hdn := hide (dn_succ (nxE es) f b s)
    have hnd := hide (hin.ints b)
    have hb0 := hide hb
    have hls : Hid (left (mk s.2 b) es.length ≤ f ∧ s.1.length + left (mk s.2 b) es.length ≤ 10000) := by
      have := left_lt (s := s.2) (t := mk s.2 b) (fun x e => by simp [mk, e]) hs (by simp [mk]) hb
      exact ⟨by omega, by omega⟩
    generalize hee : es.getD b En.zero = e at *
    generalize hL : ci s.1 = L at *
    have HL := hide hL
    clear ih hD hb hl hs hlen hL
    go_enter Try.func26, Try.ntmps26
    go_wp2_with fail
    refine (next16 e w).mono ?_
    rintro r w2 ⟨u, rfl, hu, hB2⟩
    have D2 := hide (HD.out.below hB2)
    have HB2 := hide hB2
    have hsu : Hid (∀ (wr : World) (rv : Value), Dwn (fun k => k = ps ∨ k = pr) w2 rowv rv wr → IntsV wr u (fol e)) := by
      intro wr rv hDw
      refine (hDw.row hu (fun k hk e1 => ?_) (fun k hk e1 => ?_)).v
      · have h1 := (hu.lt k e1).1
        have h2 := HD.out.s.lt
        have h3 := heap_lt HD.out.r
        rcases hk with rfl | rfl <;> omega
      · have h1 := (hu.lt k e1).1
        have h2 := (HD.out.o.lt k hk).2
        omega
    obtain ⟨au, cu, rfl⟩ := hu.slice
    clear c1 c2 c3 c4 hpl hu hB2
    go_wp2_with fail
    go_loopw [7, 15] (fun _ iv wr => ∃ (j : Nat) (t : List Nat × (Nat → Bool)) (rv : Value) (Lt : List Int), j ≤ (fol e).length ∧ iv = .int .i64 j ∧ Hid (DS w0 (.slice (some ⟨g, off, none⟩) es.length c) pl ps pd pr wr rv Lt t.2) ∧ Hid (ci t.1 = Lt) ∧ Hid (Dwn (fun k => k = ps ∨ k = pr) w2 rowv rv wr) ∧ Hid (dnF (nxE es) f t ((nxE es b).drop j) = dnF (nxE es) f (s.1, mk s.2 b) (nxE es b)) ∧ Hid (left t.2 es.length ≤ f ∧ t.1.length + left t.2 es.length ≤ 10000)) (fun _ iv _ => (fol e).length - (intOf iv).toNat)
    case atStart => exact ⟨0, (s.1, mk s.2 b), rowv, L, by omega, rfl, D2, HL, hide (Dwn.refl _ _ _), hide (by rw [List.drop_zero]), hls⟩
    case round =>
      obtain ⟨j, t, rv, Lt, hj, rfl, hDt, hLt, hWt, hFt, hlq⟩ := hrel
      have hf2 := fol_len e
      by_cases hlt : j < (fol e).length
      · have hU := hsu.out _ _ hWt.out
        obtain ⟨gu, ou, rfl, hcu⟩ := hU.at j hlt
        have hjl : j < (nxE es b).length := by rw [← List.length_map (f := fun c : Nat => (c : Int)), hnd.out]; exact hlt
        have hx := nx_getD hin b j hjl
        have hdr := drop_at hjl
        rw [hee] at hx
        rw [hx.1] at hcu
        rw [hdr] at hFt
        generalize (nxE es b).getD j 0 = x at *
        obtain ⟨_, hxn⟩ := hx
        have hlt' : (j : Int) < ((fol e).length : Int) := by omega
        have hP := hide (Bg.put_any ps (x : Int) t.2 wr hDt.out.s)
        rw [inS_nat x (by omega), ins_nat _ x (by omega), Int.toNat_natCast, Bool.true_and] at hP
        by_cases htx : t.2 x = true
        · have hF2 := hide ((dnF_skip htx).symm.trans hFt.out)
          have hmk : mk t.2 x = t.2 := by
            funext y
            unfold mk
            by_cases e : y = x
            · subst e; simp [htx]
            · simp [e]
          rw [htx, hmk, Bool.not_true] at hP
          clear hU hjl hdr hxn htx hmk
          go_wp2_with fail
          refine hP.out.mono ?_
          rintro r w3 ⟨rfl, hs3, hg3⟩
          have HD3 := hide (hDt.out.set hg3 hs3)
          have HW3 := hide (hWt.out.trans (Dwn.of_set hg3 (.inl rfl)))
          clear hs3 hg3 hP
          go_wp2_with fail
          go_roundw
          case rel => exact ⟨j + 1, t, rv, Lt, by omega, by go_num, HD3, hLt, HW3, hF2, hlq⟩
          case measure => simp [intOf]; omega
        · have htf : t.2 x = false := by simpa using htx
          have hF2 := hide ((dnF_down htf).symm.trans hFt.out)
          have hln := hide (dn_len hin.nx hxn htf hlq.out.1)
          have HX := hide hxn
          have HF := hide htf
          rw [htf, Bool.not_false] at hP
          clear hU hjl hdr hxn htx htf
          go_wp2_with fail
          refine hP.out.mono ?_
          rintro r w3 ⟨rfl, hs3, hg3⟩
          have HD3 := hide (hDt.out.set hg3 hs3)
          have HW3 := hide (hWt.out.trans (Dwn.of_set hg3 (.inl rfl)))
          clear hs3 hg3 hP
          have hcall := hide (IH.out x t rv w3 HX.out HF.out hlq.out.1 (by rw [hLt.out]; exact HD3.out) hlq.out.2)
          have hcd : w3.cell? ⟨pd, 0, none⟩ = some (downV pl ps pd pr) := by rw [cell_of_row _ _ _ _ _ _ HD3.out.d]; rfl
          unfold downV at hcd
          go_wp2_with fail
          refine hcall.out.mono ?_
          rintro r w4 ⟨v', rfl, hD4, hW4⟩
          have HD4 := hide hD4
          have HW4 := hide (HW3.out.trans hW4)
          clear hD4 hW4 hcall hcd
          generalize hL3 : ci (dn (nxE es) f x t).1 = L3 at *
          have HL3 := hide hL3
          clear hL3
          go_wp2_with fail
          go_roundw
          case rel => exact ⟨j + 1, dn (nxE es) f x t, v', L3, by omega, by go_num, HD4, HL3, HW4, hF2, hide ⟨by have := hln.out.2.2; have := hlq.out.1; omega, by have := hln.out.1; have := hlq.out.2; omega⟩⟩
          case measure => simp [intOf]; omega
      · obtain rfl : j = (fol e).length := by omega
        have hd0 : (nxE es b).drop (fol e).length = [] := by
          refine List.drop_eq_nil_of_le ?_
          have : (nxE es b).length = (fol e).length := by rw [← hnd.out, List.length_map]
          omega
        rw [hd0, dnF_nil] at hFt
        have hll : Lt.length ≤ 10000 := by rw [← hLt.out, List.length_map]; have := hlq.out.2; omega
        have hcr : wr.cell? ⟨pr, 0, none⟩ = some rv := by rw [cell_of_row _ _ _ _ _ _ hDt.out.r]; rfl
        have hn := heap_alloc_new wr (.cells #[.int .i64 (b : Int)] 3)
        have HD4 := hide (hDt.out.below (bel1' wr (.cells #[.int .i64 (b : Int)] 3)))
        have HW4 := hide (hWt.out.trans (Dwn.of_below (bel1' wr (.cells #[.int .i64 (b : Int)] 3))))
        have hO4 := HD4.out.o
        obtain ⟨aT, cT, rfl⟩ := hDt.out.o.slice
        clear hd0
        go_wp2_with (at_builtin; go_must (refine snoc_int (B := w0.heap.size) (.tmp 25) (.tmp 27) rfl rfl hO4 hn rfl rfl (by omega) (by have := HD4.out.B.size; simpa using this) ?_))
        intro v' w5 hO5 hg5 how5
        obtain ⟨hD5, hW5⟩ := HD4.out.snoc hg5 hO5 (by simpa only [World.size_alloc] using how5)
        have hr5 : w5.heap[pr]? = some (.cells #[.slice aT Lt.length cT] 40 (0, 0)) := (hg5.block _ (heap_lt HD4.out.r) (fun e => HD4.out.ne.2.2.2.2.2.2.2 e.symm)).trans HD4.out.r
        have q1 : w5.cell? ⟨pr, 0, none⟩ = some (.slice aT Lt.length cT) := by rw [cell_of_row _ _ _ _ _ _ hr5]; rfl
        have q2 : w5.frozen? ⟨pr, 0, none⟩ = false := frozen_of_row _ _ _ _ _ hr5
        obtain ⟨a5, c5, rfl⟩ := hO5.slice
        have HD5 := hide hD5
        have HW5 := hide ((Dwn.of_below HB2.out).trans (HW4.out.trans hW5))
        clear hO5 hg5 how5 hn hO4 hD5 hW5 hr5 hcr
        rw [show (Lt ++ [(b : Int)]).length = Lt.length + 1 by simp] at HD5 HW5
        go_wp2_with fail
        go_end0
        refine ⟨_, rfl, ?_, HW5.out⟩
        rw [hdn.out, ← hFt.out]
        show DS _ _ _ _ _ _ _ _ (ci (t.1 ++ [b])) t.2
        rw [show ci (t.1 ++ [b]) = Lt ++ [(b : Int)] by rw [← hLt.out]; simp [ci]]
        exact HD5.out
end Go.Proofs.Ytgckpmaajmlijaa
