/- The document's down and Order. -/
import Derived.Test.YtgckpmaajmlijaaR1
import Derived.Deep.WholeRow
namespace Go.Proofs.Ytgckpmaajmlijaa
open Go.RowKit Ir Wy

theorem wpStop {p : Prop} (h : Hid p) : p := h.out
/-- n marks at block b. -/
def BoolsAt (w : World) (b n : Nat) (f : Nat → Bool) : Prop := ∃ cs, w.heap[b]? = some (.cells cs 4 (0, 0)) ∧ cs.size = n ∧ ∀ i, i < n → cs[i]? = some (.bool (f i))
theorem BoolsAt.lt {w : World} {b n : Nat} {f : Nat → Bool} (h : BoolsAt w b n f) : b < w.heap.size := by
  obtain ⟨cs, h1, _⟩ := h
  exact (Array.getElem?_eq_some_iff.1 h1).1
theorem BoolsAt.stays {w w' : World} {b n : Nat} {f : Nat → Bool} (h : BoolsAt w b n f) (e : w'.heap[b]? = w.heap[b]?) : BoolsAt w' b n f := by
  obtain ⟨cs, h1, h2⟩ := h
  exact ⟨cs, e.trans h1, h2⟩
theorem BoolsAt.below {w w' : World} {b n : Nat} {f : Nat → Bool} (h : BoolsAt w b n f) (hB : Below w.heap.size w w') : BoolsAt w' b n f := h.stays (hB.block b h.lt)
theorem BoolsAt.cell {w : World} {b n : Nat} {f : Nat → Bool} (h : BoolsAt w b n f) (i : Nat) (hi : i < n) : w.cell? ⟨b, i, none⟩ = some (.bool (f i)) ∧ w.frozen? ⟨b, i, none⟩ = false := by
  obtain ⟨cs, h1, _, h2⟩ := h
  exact ⟨by rw [cell_of_row w b i cs 4 _ h1, h2 i hi], by simp [World.frozen?, h1]⟩
theorem BoolsAt.congr {w : World} {b n : Nat} {f g : Nat → Bool} (h : BoolsAt w b n f) (e : ∀ x, x < n → f x = g x) : BoolsAt w b n g := by
  obtain ⟨cs, h1, h2, h3⟩ := h
  exact ⟨cs, h1, h2, fun i hi => by rw [← e i hi]; exact h3 i hi⟩
theorem BoolsAt.set {w : World} {b n : Nat} {f : Nat → Bool} (h : BoolsAt w b n f) (i : Nat) (hi : i < n) : BoolsAt (w.setCell ⟨b, i, none⟩ (.bool true)) b n (mk f i) := by
  obtain ⟨cs, h1, h2, h3⟩ := h
  refine ⟨cs.setIfInBounds i (.bool true), ?_, ?_, ?_⟩
  · simp [World.setCell, Array.getElem?_modify, h1]
  · simp [h2]
  · intro j hj
    by_cases e : i = j
    · subst e
      simp [h2, hi, mk]
    · rw [Array.getElem?_setIfInBounds_ne e, h3 j hj]
      have : (j == i) = false := by simp; omega
      simp [mk, this]
/-- The row lies beside the marks. -/
theorem row_marks {B : Nat} {w : World} {v : Value} {xs : List Int} {sb n : Nat} {f : Nat → Bool} (h : ArgsO B w v xs) (hs : BoolsAt w sb n f) : v.ownBlock ≠ some sb := by
  intro e
  obtain ⟨_, _, cur, h1⟩ := h.block sb e
  obtain ⟨cs, h2, _⟩ := hs
  rw [h1] at h2
  cases h2
theorem set_grown (w : World) (b i : Nat) (v : Value) : w.grownBy (w.setCell ⟨b, i, none⟩ v) (some b) :=
  ⟨rfl, rfl, rfl, by simp [World.setCell], fun k _ h => Below.heap_setCell _ _ _ _ (fun e => h (by rw [e]))⟩
abbrev ci (l : List Nat) : List Int := l.map fun a : Nat => (a : Int)
theorem drop_at {l : List Nat} {j : Nat} (h : j < l.length) : l.drop j = l.getD j 0 :: l.drop (j + 1) := by rw [List.drop_eq_getElem_cons h, getD_get _ _ _ h]

/-- What going down has done. -/
def DownPost (w0 : World) (n sb : Nat) (w : World) (rowv : Value) (t : List Nat × (Nat → Bool)) : Ending → World → Prop := fun e w' => ∃ v', e = .returned v' ∧ ArgsO w0.heap.size w' v' (ci t.1) ∧ BoolsAt w' sb n t.2 ∧ Dwn (fun k => k = sb) w rowv v' w'
set_option maxHeartbeats 4000000 in
set_option maxRecDepth 100000 in
theorem down_any (w0 : World) (ao : Option Addr) (c : Nat) (es : List En) (H0 : EndsV w0 (.slice ao es.length c) es) (hin : EndsIn es) (hn : es.length ≤ 1000) (sb : Nat) (hsb : w0.heap.size ≤ sb) :
    ∀ (f b : Nat) (s : List Nat × (Nat → Bool)) (rowv : Value) (w : World), b < es.length → s.2 b = false → left s.2 es.length ≤ f → Below w0.heap.size w0 w → ArgsO w0.heap.size w rowv (ci s.1) → BoolsAt w sb es.length s.2 → s.1.length + left s.2 es.length ≤ 10000 →
      Calls Try.prog 29 #[.slice ao es.length c, .int .i64 b, rowv, .slice (some ⟨sb, 0, none⟩) es.length es.length] w (DownPost w0 es.length sb w rowv (dn (nxE es) f b s)) := by
  intro f
  induction f with
  | zero =>
    intro b s rowv w hb hs hl
    have := left_pos hs hb
    omega
  | succ f ih =>
    intro b s rowv w hb hs hl hB hO hS hlen
    have IH := hide ih
    obtain ⟨g, off, rfl, hc⟩ := (H0.below hB).end b hb
    obtain ⟨c1, c2, c3, c4⟩ := hc
    obtain ⟨aR, cR, rfl⟩ := hO.slice
    have hb' : (b : Int) < (es.length : Int) := by omega
    obtain ⟨s1, s2⟩ := hS.cell b hb
    have HS1 := hide (hS.set b hb)
    have hgs := set_grown w sb b (.bool true)
    have hsl := hS.lt
    have HS0 := hide hS
    have hO0 := hO
    have hgb : g ≠ sb := by
      intro e
      have := World.block_lt_of_cell? w0 _ ((H0.end b hb).elim fun g' h => h.elim fun off' h => by
        have e1 := h.1
        simp only [Option.some.injEq, Addr.mk.injEq] at e1
        exact (by obtain ⟨rfl, rfl, _⟩ := e1; exact h.2.c1))
      simp only at this
      omega
    have hdn := hide (dn_succ (nxE es) f b s)
    have hnd := hide (hin.ints b)
    have hb0 := hide hb
    generalize hee : es.getD b En.zero = e at *
    generalize hL : ci s.1 = L at *
    clear ih hS hb hO0
    have HO := hide hO
    have HG := hide hgs
    have hk0 : Hid (ArgsO w0.heap.size (w.setCell ⟨sb, b, none⟩ (.bool true)) (.slice aR L.length cR) L) := by
      refine hO.stays fun k hk => ?_
      refine hgs.block k (hO.lt k hk).2 (fun e1 => ?_)
      simp only [Option.some.injEq] at e1
      subst e1
      obtain ⟨cur, h1⟩ := (hO.block k hk).2.2
      obtain ⟨cs, h2, _⟩ := HS0.out
      rw [h1] at h2
      cases h2
    clear hO hgs HS0
    go_enter Try.func29, Try.ntmps29
    go_wp2_with fail
    generalize w.setCell ⟨sb, b, none⟩ (.bool true) = w1 at *
    refine (next17 e w1).mono ?_
    rintro r w2 ⟨u, rfl, hu, hB2⟩
    have hz : w.heap.size ≤ w1.heap.size := HG.out.size
    have D2 : Hid (Dwn (fun k => k = sb) w (.slice aR L.length cR) (.slice aR L.length cR) w2) := hide ((Dwn.of_set (F := fun k => k = sb) HG.out rfl).trans (Dwn.of_below hB2))
    have HO2 := hide (hk0.out.below hB2)
    have HS2 := hide (HS1.out.below hB2)
    have hsu : Hid (∀ (wr : World) (rv : Value), Dwn (fun k => k = sb) w2 (.slice aR L.length cR) rv wr → IntsV wr u (fol e)) := by
      intro wr rv hD
      refine (hD.row hu (fun k hk e1 => ?_) (fun k hk e1 => ?_)).v
      · subst hk
        have := (hu.lt k e1).1
        omega
      · have := (hu.lt k e1).1
        have := (HO.out.lt k hk).2
        omega
    have hls : Hid (left (mk s.2 b) es.length ≤ f ∧ s.1.length + left (mk s.2 b) es.length ≤ 10000) := by
      have := left_lt (s := s.2) (t := mk s.2 b) (fun x e => by simp [mk, e]) hs (by simp [mk]) hb0.out
      exact ⟨by omega, by omega⟩
    obtain ⟨au, cu, rfl⟩ := hu.slice
    have HL := hide hL
    have hFge : ∀ k, k = sb → w0.heap.size ≤ k := fun k e => by omega
    have hRge := hide (fun k (hk : (Value.slice aR L.length cR).ownBlock = some k) => (HO.out.lt k hk).1)
    have D2B := hide (D2.out.below hB hFge hRge.out)
    clear c1 c2 c3 c4 s1 s2 hu hk0 HS1 HO HG hz hB2 hL hl hs hlen
    go_wp2_with fail
    go_loopw [2, 10] (fun rv iv wr => ∃ (j : Nat) (t : List Nat × (Nat → Bool)) (Lt : List Int), j ≤ (fol e).length ∧ iv = .int .i64 j ∧ ArgsO w0.heap.size wr rv Lt ∧ Hid (ci t.1 = Lt) ∧ Hid (BoolsAt wr sb es.length t.2) ∧ Hid (Dwn (fun k => k = sb) w2 (.slice aR L.length cR) rv wr) ∧ Hid (dnF (nxE es) f t ((nxE es b).drop j) = dnF (nxE es) f (s.1, mk s.2 b) (nxE es b)) ∧ Hid (left t.2 es.length ≤ f ∧ t.1.length + left t.2 es.length ≤ 10000)) (fun _ iv _ => (fol e).length - (intOf iv).toNat)
    case atStart => exact ⟨0, (s.1, mk s.2 b), L, by omega, rfl, HO2.out, HL, HS2, hide (Dwn.refl _ _ _), hide (by rw [List.drop_zero]), hls⟩
    case round =>
      obtain ⟨j, t, Lt, hj, rfl, hOt, hLt, hSt, hDt, hFt, hlq⟩ := hrel
      obtain ⟨aT, cT, rfl⟩ := hOt.slice
      have HOt := hide hOt
      have hBr := hide (hDt.out.below D2B.out hFge hRge.out)
      clear hOt
      have hf2 := fol_len e
      by_cases hlt : j < (fol e).length
      · have hU := hsu.out _ _ hDt.out
        obtain ⟨gu, ou, rfl, hcu⟩ := hU.at j hlt
        have hjl : j < (nxE es b).length := by rw [← List.length_map (f := fun c : Nat => (c : Int)), hnd.out]; exact hlt
        have hx := nx_getD hin b j hjl
        have hdr := drop_at hjl
        rw [hee] at hx
        rw [hx.1] at hcu
        rw [hdr] at hFt
        generalize (nxE es b).getD j 0 = x at *
        obtain ⟨_, hxn⟩ := hx
        have hx' : (x : Int) < (es.length : Int) := by omega
        have hlt' : (j : Int) < ((fol e).length : Int) := by omega
        obtain ⟨t1, t2⟩ := hSt.out.cell x hxn
        have HX := hide hxn
        by_cases htx : t.2 x = true
        · have hF2 := hide ((dnF_skip htx).symm.trans hFt.out)
          rw [htx] at t1
          clear hU hjl hdr hxn htx
          go_wp2_with fail
          go_roundw
          case rel => exact ⟨j + 1, t, Lt, by omega, by go_num, HOt.out, hLt, hSt, hDt, hF2, hlq⟩
          case measure => simp [intOf]; omega
        · have htf : t.2 x = false := by simpa using htx
          have hF2 := hide ((dnF_down htf).symm.trans hFt.out)
          have hln := hide (dn_len hin.nx hxn htf hlq.out.1)
          have hcall := hide (IH.out x t (.slice aT Lt.length cT) wr hxn htf hlq.out.1 hBr.out (by rw [hLt.out]; exact HOt.out) hSt.out hlq.out.2)
          rw [htf] at t1
          clear hU hjl hdr hxn htx htf
          go_wp2_with fail
          refine hcall.out.mono ?_
          rintro r w3 ⟨v', rfl, hO3, hS3, hD3⟩
          have HO3 := hide hO3
          have HS3 := hide hS3
          have HD3 := hide (hDt.out.trans hD3)
          clear hO3 hS3 hD3 hcall HOt hSt
          generalize hL3 : ci (dn (nxE es) f x t).1 = L3 at *
          have HL3 := hide hL3
          clear hL3
          obtain ⟨a3, c3, rfl⟩ := HO3.out.slice
          go_wp2_with fail
          go_roundw
          case rel => exact ⟨j + 1, dn (nxE es) f x t, L3, by omega, by go_num, HO3.out, HL3, HS3, HD3, hF2, hide ⟨by have := hln.out.2.2; have := hlq.out.1; omega, by have := hln.out.1; have := hlq.out.2; omega⟩⟩
          case measure => simp [intOf]; omega
      · obtain rfl : j = (fol e).length := by omega
        have hd0 : (nxE es b).drop (fol e).length = [] := by
          refine List.drop_eq_nil_of_le ?_
          have : (nxE es b).length = (fol e).length := by rw [← hnd.out, List.length_map]
          omega
        rw [hd0, dnF_nil] at hFt
        have hll : Lt.length ≤ 10000 := by rw [← hLt.out, List.length_map]; have := hlq.out.2; omega
        have hn := heap_alloc_new wr (.cells #[.int .i64 (b : Int)] 3)
        have hO4 := HOt.out.below (bel1' wr (.cells #[.int .i64 (b : Int)] 3))
        have hS4 := hide (hSt.out.below (bel1' wr (.cells #[.int .i64 (b : Int)] 3)))
        have hD4 := hide (hDt.out.trans (Dwn.of_below (bel1' wr (.cells #[.int .i64 (b : Int)] 3))))
        have hB4 := hide (hBr.out.size)
        clear hd0
        go_wp2_with (at_builtin; go_must (refine snoc_int (B := w0.heap.size) (.tmp 42) (.tmp 44) rfl rfl hO4 hn rfl rfl (by omega) (by have := hB4.out; simp; omega) ?_))
        intro v' w4 hO5 hg5 how5
        have HO5 := hide hO5
        have HS5 : Hid (BoolsAt w4 sb es.length t.2) := hide (hS4.out.stays (hg5.block sb hS4.out.lt (fun e1 => row_marks hO4 hS4.out e1.symm)))
        have HD5 := hide (D2.out.trans (hD4.out.trans (Dwn.of_snoc hg5 (by simpa only [World.size_alloc] using how5))))
        clear hO5 hg5 how5 hn hO4
        go_wp2_with fail
        go_ret
        refine ⟨v', rfl, ?_, ?_, HD5.out⟩
        · rw [hdn.out, ← hFt.out]
          show ArgsO w0.heap.size w4 v' (ci (t.1 ++ [b]))
          rw [show ci (t.1 ++ [b]) = Lt ++ [(b : Int)] by rw [← hLt.out]; simp [ci]]
          exact HO5.out
        · rw [hdn.out, ← hFt.out]
          exact HS5.out
end Go.Proofs.Ytgckpmaajmlijaa
