/- A block's instructions, read by the document. -/
import Derived.Test.YtbjnhicikkjadaaBl
namespace Go.Proofs.Ytbjnhicikkjadaa
open Go Go.RowKit Ir Wire

/-- What stands while a block is read: its box holds the instructions that were read. -/
structure BlkB (W1 : World) (p b gb : Nat) (w : World) (is : List Ins) (ys : List Int) (c : Int) : Prop where
  st : St8 W1 p b w ys c
  box : ∃ u, w.heap[gb]? = some (Obj.cells #[u, .int .u8 0, .int .i64 0, .int .i64 0, .int .i64 0] 82 (0, 0)) ∧ InssO W1.heap.size w u is
  gb : W1.heap.size ≤ gb
theorem BlkB.call {W1 w w' : World} {p b gb : Nat} {is : List Ins} {ys zs : List Int} {c d : Int} (h : BlkB W1 p b gb w is ys c) (hR : Lb.RdrAt w' p b zs d) (hg : w.grownBy w' (some p)) : BlkB W1 p b gb w' is zs d := by
  obtain ⟨u, h1, h2⟩ := h.box
  exact ⟨h.st.call hR hg, ⟨u, grown_row hg h1 (by have := h.gb; have := h.st.pb; omega), h2.kept hg h.st.pb.1⟩, h.gb⟩
theorem BlkB.alloc {W1 w : World} {p b gb : Nat} {is : List Ins} {ys : List Int} {c : Int} (h : BlkB W1 p b gb w is ys c) (o : Obj) : BlkB W1 p b gb (w.alloc o) is ys c :=
  h.call (h.st.rdr.below (bel1' w o)) (Lb.grownBy_below (bel1' w o) (some p))
theorem took_more {α : Type} {P : List Int → Pr α} {n : Nat} {zs ys : List Int} {a : α} {d : Int} (h : Took P zs 0 a ys d) (hd : d ≠ 0) : Took (repP P (n + 1)) zs 0 [] ys d :=
  (Took.cons h (Took.stay (repP P n) hd [] ys)).any hd [] ys
set_option maxHeartbeats 4000000 in
set_option maxRecDepth 100000 in
theorem insts_ok {Q : Exit → Act → World → Prop} {a : Act} {W1 w : World} {p b gb m : Nat} {ys : List Int} {c : Int} {v1 v5 v6 v7 v10 v11 v12 : Value} (hA : ActB (.pointer (some ⟨p, 0, none⟩)) v1 v5 v6 v7 (.pointer (some ⟨gb, 0, none⟩)) (.int .i64 m) v10 v11 v12 a) (hB : BlkB W1 p b gb w [] ys c) (hm : m ≤ 70000)
    (hK : ∀ (a' : Act) (w' : World) (is : List Ins) (zs : List Int) (d : Int) (v9 v10 v11 v12 : Value), ActB (.pointer (some ⟨p, 0, none⟩)) v1 v5 v6 v7 (.pointer (some ⟨gb, 0, none⟩)) v9 v10 v11 v12 a' → BlkB W1 p b gb w' is zs d → Took (repP insP m) ys c is zs d → Q .normal a' w') : instsC.wp Try.prog Q a w := by
  obtain ⟨ρ, rfl⟩ := hA.lit
  have HK := hide hK
  have HB := hide hB
  clear hA hK hB
  unfold instsC
  go_wp2_with fail
  refine wp_loop (fun a wr => ∃ (k : Nat) (is : List Ins) (zs : List Int) (d : Int) (u11 u12 : Value), k ≤ m ∧ is.length = k ∧ ActB (.pointer (some ⟨p, 0, none⟩)) v1 v5 v6 v7 (.pointer (some ⟨gb, 0, none⟩)) (.int .i64 m) (.int .i64 k) u11 u12 a ∧ BlkB W1 p b gb wr is zs d ∧ Hid (∀ l' zs' d', Took (repP insP (m - k)) zs d l' zs' d' → Took (repP insP m) ys c (is ++ l') zs' d')) (fun a _ => m - (intOf (a.eval (.tmp 10))).toNat) ⟨0, [], ys, c, _, _, by omega, rfl, ⟨rfl, rfl, rfl, rfl, rfl, rfl, rfl, rfl, rfl, rfl, rfl, rfl⟩, HB.out, hide (fun _ _ _ hh => by simpa using hh)⟩ ?_
  clear HB
  rintro a wr ⟨k, is, zs, d, u11, u12, hk, hil, hA, hB, hC⟩
  obtain ⟨ρ, rfl⟩ := hA.lit
  clear hA
  by_cases hlt : k < m
  · have hlt' : (k : Int) < (m : Int) := by omega
    obtain ⟨rv, r0, r1, rf0, rf1, _⟩ := hB.st.rdr
    by_cases hd : d = 0
    · subst hd
      have HC1 := hide (refBelow_t p b zs 0 256 wr hB.st.rdr (by omega) (by omega))
      have HB := hide hB
      clear hB
      go_wp2_with fail
      refine HC1.out.mono ?_
      rintro e w1 ⟨kk, u, ys1, d1, rfl, ⟨rfl, hk0, hk1⟩, hT, hR1, hg1⟩
      have hpw : p < wr.heap.size ∧ b < wr.heap.size := by have := HB.out.st.pb; have := HB.out.st.sz; omega
      have hI : InsB wr p b w1.heap.size (w1.alloc (.cells (rowI (ins0 kk) (.slice none 0 0)) 86)) (ins0 kk) ys1 d1 := ⟨St8.alloc ⟨hR1, hg1, hpw⟩ _, ⟨_, heap_alloc_new w1 _, ArgsO.nil _ _⟩, hg1.size⟩
      have HB1 := hide ((HB.out.call hR1 hg1).alloc (.cells (rowI (ins0 kk) (.slice none 0 0)) 86))
      have HI := hide hI
      have HT := hide hT
      obtain ⟨g, hgd⟩ : ∃ g, g = w1.heap.size := ⟨_, rfl⟩
      clear HC1 hT hR1 hg1 hI r0 r1 rf0 rf1
      unfold rowI ins0 at HB1 HI
      have HM : Hid (m - k = (m - (k + 1)) + 1) := hide (by omega)
      by_cases hd1 : d1 = 0
      · subst hd1
        obtain ⟨rv, r0, r1, rf0, rf1, _⟩ := HI.out.st.rdr
        by_cases hkk : 1 ≤ kk ∧ kk ≤ 8
        · have hn0 : ¬ kk < 1 := by omega
          have hn1 : ¬ 8 < kk := by omega
          have HN := hide (fun W => names8_any kk hkk.1 hkk.2 W)
          have HKK := hide hkk
          clear hkk hgd
          obtain ⟨uu, hrow, _⟩ := HI.out.box
          obtain ⟨c0, c1, c2, c3, c4, c5, c6⟩ := box7 (heap_alloc_new w1 (.cells #[.int .u8 kk, .int .u8 0, .int .i64 0, .int .i64 0, .int .i64 0, .int .i64 0, .slice none 0 0] 86))
          clear hrow
          go_wp2_with fail
          refine (HN.out _).mono ?_
          rintro e w3 ⟨rfl, hB3⟩
          have hI3 : InsB wr p b w1.heap.size w3 (ins0 kk) ys1 0 := HI.out.call (HI.out.st.rdr.below hB3) (Lb.grownBy_below hB3 (some p))
          have HI3 := hide hI3
          clear HN c0 c1 c2 c3 c4 c5 c6 r0 r1 rf0 rf1 hB3 hI3 HI hn0 hn1
          generalize w1.heap.size = g at *
          go_wp2_with fail
          refine lets_ok ⟨rfl, rfl, rfl, rfl, rfl, rfl, rfl, rfl, rfl, rfl, rfl, rfl⟩ HI3.out (nm8_small kk) ?_
          intro a' w' i zs' d' hA' hI' hT'
          obtain ⟨ρ3, rfl⟩ := hA'.lit
          have hTi := took_let HKK.out HT.out hT'
          have hBk := HB.out.call hI'.st.rdr hI'.st.grown
          obtain ⟨ui, hrb, hOi⟩ := hBk.box
          obtain ⟨uu, hri, hAi⟩ := hI'.box
          obtain ⟨aa, an, ac, rfl⟩ := owns_slice hAi
          obtain ⟨ba, bn, bc, rfl⟩ : ∃ ao n cap, ui = .slice ao n cap := by obtain ⟨_, _, h2, _⟩ := hOi; exact owns_slice h2
          obtain ⟨c0, c1, c2, c3, c4, c5, c6⟩ := box7 hri
          obtain ⟨z0, z1, z2, z3, z4⟩ := box5' hrb
          have hbx := bel1' w' (.cells (rowI i (.slice aa an ac)) 86)
          have hnx := heap_alloc_new w' (.cells (rowI i (.slice aa an ac)) 86)
          have hszw := hI'.st.sz
          have hW1 : W1.heap.size ≤ w'.heap.size := hBk.st.sz
          have hAm : ArgsO W1.heap.size (w'.alloc (.cells (rowI i (.slice aa an ac)) 86)) (.slice aa an ac) i.args := (ArgsO.mono hAi HB.out.st.sz).kept (Lb.grownBy_below hbx (some p)) hBk.st.pb.1
          have hBx := hBk.alloc (.cells (rowI i (.slice aa an ac)) 86)
          have hOx : InssO W1.heap.size (w'.alloc (.cells (rowI i (.slice aa an ac)) 86)) (.slice ba bn bc) is := hOi.kept (Lb.grownBy_below hbx (some p)) hBk.st.pb.1
          have hrx := (hbx.block _ (row_lt hrb)).trans hrb
          have hll : is.length ≤ 1000000 := by omega
          have hBB : W1.heap.size ≤ (w'.alloc (.cells (rowI i (.slice aa an ac)) 86)).heap.size := by simp; omega
          have hown : ∀ q, (Value.slice ba bn bc).ownBlock = some q → W1.heap.size ≤ q := fun q hq => by obtain ⟨_, _, h2, _⟩ := hOx; exact (h2.lt q hq).1
          have Hst := hide hBx.st
          have Hgb := hide HB.out.gb
          have hkb : (k : Int) ≤ 70000 := by omega
          clear hbx hrb hOi hri hAi hT' hI' hBk hBx HB HB1 HI3
          unfold rowI at hnx hAm hOx hrx hBB Hst
          go_wp2_with (at_builtin; go_must (refine snoc_ins (x := i) (B := W1.heap.size) (.tmp 126) (.tmp 128) rfl rfl hOx hnx hAm rfl rfl hll hBB ?_))
          intro v' w5 hO5 hg5
          have hr5 : w5.heap[gb]? = some (Obj.cells #[.slice ba bn bc, .int .u8 0, .int .i64 0, .int .i64 0, .int .i64 0] 82 (0, 0)) := by
            obtain ⟨_, _, h2, _⟩ := hOx
            exact (Keeps.grown (T := fun t => t != 86) h2 rfl hg5) _ _ _ _ rfl hrx
          have hf0 : w5.frozen? ⟨gb, 0, none⟩ = false := frozen_of_row _ _ _ _ _ hr5
          obtain ⟨z0, z1, z2, z3, z4⟩ := box5' hr5
          have hS5 := Hst.out.new hg5 hown
          have HS6 := hide (hS5.set (k := 0) (v := v') Hgb.out)
          have hO6 : InssO W1.heap.size (w5.setCell ⟨gb, 0, none⟩ v') v' (is ++ [i]) := InssO.keeps hO5 (Keeps.set hr5 rfl _)
          have hr6 : (w5.setCell ⟨gb, 0, none⟩ v').heap[gb]? = some (Obj.cells #[v', .int .u8 0, .int .i64 0, .int .i64 0, .int .i64 0] 82 (0, 0)) := heap_setCell_same w5 gb 0 _ _ v' hr5
          obtain ⟨wa, wn, wc, rfl⟩ : ∃ ao n cap, v' = .slice ao n cap := by obtain ⟨_, _, h2, _⟩ := hO6; exact owns_slice h2
          have HB6 : Hid (BlkB W1 p b gb (w5.setCell ⟨gb, 0, none⟩ (.slice wa wn wc)) (is ++ [i]) zs' d') := hide ⟨HS6.out, ⟨_, hr6, hO6⟩, Hgb.out⟩
          have hC2 : Hid (∀ l' zs2 d2, Took (repP insP (m - (k + 1))) zs' d' l' zs2 d2 → Took (repP insP m) ys c ((is ++ [i]) ++ l') zs2 d2) := by
            intro l' zs2 d2 hh
            have := hC.out (i :: l') zs2 d2 (by rw [HM.out]; exact Took.cons hTi hh)
            simpa using this
          clear hnx hAm hOx hrx hown Hst hO5 hg5 hr5 hS5 HS6 hO6 hr6 hC hTi HT c0 c1 c2 c3 c4 c5 c6
          go_wp2_with fail
          refine ⟨⟨k + 1, is ++ [i], zs', d', _, _, by omega, by simp [hil], ⟨rfl, rfl, rfl, rfl, rfl, rfl, rfl, rfl, by go_num, rfl, rfl, rfl⟩, HB6.out, hC2⟩, ?_⟩
          simp [intOf, Act.eval]
          omega
        · have hTf : Hid (Took (repP insP (m - (k + 1) + 1)) zs 0 [] ys1 20) := hide (took_more (a := ins0 kk) (by have := took_ins0 HT.out hkk (ins0 kk); rw [Leb.failed_zero] at this; exact this) (by decide))
          have HF := hide (Lb.refFail_any p b ys1 0 20 _ HI.out.st.rdr)
          have HKK := hide hkk
          obtain ⟨c0, c1, c2, c3, c4, c5, c6⟩ := box7 (heap_alloc_new w1 (.cells #[.int .u8 kk, .int .u8 0, .int .i64 0, .int .i64 0, .int .i64 0, .int .i64 0, .slice none 0 0] 86))
          clear hkk hgd
          by_cases hn0 : kk < 1
          · go_wp2_with fail
            refine HF.out.mono ?_
            rintro e w4 ⟨rfl, hR4, hg4⟩
            rw [Leb.failed_zero] at hR4
            have HB4 := hide (HB1.out.call hR4 hg4)
            obtain ⟨rv, r0, r1, rf0, rf1, _⟩ := hR4
            have hC2 := hide (hC.out [] ys1 20 (by rw [HM.out]; exact hTf.out))
            simp only [List.append_nil] at hC2
            clear hg4 HF c0 c1 c2 c3 c4 c5 c6 HB HB1 HI hC
            go_wp2_with fail
            exact HK.out _ _ is ys1 20 _ _ _ _ ⟨rfl, rfl, rfl, rfl, rfl, rfl, rfl, rfl, rfl, rfl, rfl, rfl⟩ HB4.out hC2.out
          · have hn1 : 8 < kk := by have := HKK.out; omega
            go_wp2_with fail
            refine HF.out.mono ?_
            rintro e w4 ⟨rfl, hR4, hg4⟩
            rw [Leb.failed_zero] at hR4
            have HB4 := hide (HB1.out.call hR4 hg4)
            obtain ⟨rv, r0, r1, rf0, rf1, _⟩ := hR4
            have hC2 := hide (hC.out [] ys1 20 (by rw [HM.out]; exact hTf.out))
            simp only [List.append_nil] at hC2
            clear hg4 HF c0 c1 c2 c3 c4 c5 c6 HB HB1 HI hC
            go_wp2_with fail
            exact HK.out _ _ is ys1 20 _ _ _ _ ⟨rfl, rfl, rfl, rfl, rfl, rfl, rfl, rfl, rfl, rfl, rfl, rfl⟩ HB4.out hC2.out
      · have hb0 : (d1 == 0) = false := by simp [hd1]
        obtain ⟨rv, r0, r1, rf0, rf1, _⟩ := HI.out.st.rdr
        have hC2 := hide (hC.out [] ys1 d1 (by rw [HM.out]; exact took_more (took_insF HT.out hd1 (ins0 kk)) hd1))
        simp only [List.append_nil] at hC2
        clear HB HI hC hgd
        go_wp2_with fail
        exact HK.out _ _ is ys1 d1 _ _ _ _ ⟨rfl, rfl, rfl, rfl, rfl, rfl, rfl, rfl, rfl, rfl, rfl, rfl⟩ HB1.out hC2.out
    · have hb0 : (d == 0) = false := by simp [hd]
      have hC2 := hide (hC.out [] zs d (Took.stay _ hd _ _))
      simp only [List.append_nil] at hC2
      have HB := hide hB
      clear hB hC
      go_wp2_with fail
      exact HK.out _ _ is zs d _ _ _ _ ⟨rfl, rfl, rfl, rfl, rfl, rfl, rfl, rfl, rfl, rfl, rfl, rfl⟩ HB.out hC2.out
  · have hlt' : ¬ (k : Int) < (m : Int) := by omega
    have hC2 := hide (hC.out [] zs d (by rw [show m - k = 0 by omega]; exact Took.pure _ _ _))
    simp only [List.append_nil] at hC2
    have HB := hide hB
    clear hB hC
    go_wp2_with fail
    exact HK.out _ _ is zs d _ _ _ _ ⟨rfl, rfl, rfl, rfl, rfl, rfl, rfl, rfl, rfl, rfl, rfl, rfl⟩ HB.out hC2.out
end Go.Proofs.Ytbjnhicikkjadaa
namespace Go.Proofs.Ytbjnhicikkjadaa
open Go Go.RowKit Ir Wire

/-- What stands while a block's end is read. -/
structure BlkE (W1 : World) (p b gb : Nat) (w : World) (is : List Ins) (e : En) (ys : List Int) (c : Int) : Prop where
  st : St8 W1 p b w ys c
  box : ∃ u, w.heap[gb]? = some (Obj.cells #[u, .int .u8 e.k, .int .i64 e.a, .int .i64 e.to, .int .i64 e.el] 82 (0, 0)) ∧ InssO W1.heap.size w u is
  gb : W1.heap.size ≤ gb
theorem BlkB.e {W1 w : World} {p b gb : Nat} {is : List Ins} {ys : List Int} {c : Int} (h : BlkB W1 p b gb w is ys c) : BlkE W1 p b gb w is ⟨0, 0, 0, 0⟩ ys c := ⟨h.st, h.box, h.gb⟩
theorem BlkE.call {W1 w w' : World} {p b gb : Nat} {is : List Ins} {e : En} {ys zs : List Int} {c d : Int} (h : BlkE W1 p b gb w is e ys c) (hR : Lb.RdrAt w' p b zs d) (hg : w.grownBy w' (some p)) : BlkE W1 p b gb w' is e zs d := by
  obtain ⟨u, h1, h2⟩ := h.box
  exact ⟨h.st.call hR hg, ⟨u, grown_row hg h1 (by have := h.gb; have := h.st.pb; omega), h2.kept hg h.st.pb.1⟩, h.gb⟩
theorem BlkE.set {W1 w : World} {p b gb k : Nat} {is : List Ins} {e e' : En} {ys : List Int} {c : Int} {v : Value} (h : BlkE W1 p b gb w is e ys c) (he : ∀ u, (#[u, .int .u8 e.k, .int .i64 e.a, .int .i64 e.to, .int .i64 e.el] : Array Value).setIfInBounds k v = #[u, .int .u8 e'.k, .int .i64 e'.a, .int .i64 e'.to, .int .i64 e'.el]) : BlkE W1 p b gb (w.setCell ⟨gb, k, none⟩ v) is e' ys c := by
  obtain ⟨u, h1, h2⟩ := h.box
  refine ⟨h.st.set h.gb, ⟨u, ?_, InssO.keeps h2 (Keeps.set h1 rfl _)⟩, h.gb⟩
  rw [heap_setCell_same w gb k _ _ v h1, he]
set_option maxHeartbeats 8000000 in
set_option maxRecDepth 100000 in
theorem blks_ok {Q : Exit → Act → World → Prop} {a : Act} {W0 w : World} {p b n most : Nat} {ys : List Int} {c : Int} {v8 v9 v10 v11 v12 : Value} (hA : ActB (.pointer (some ⟨p, 0, none⟩)) (.int .i64 most) (.slice none 0 0) (.int .i64 n) (.int .i64 (0 : Nat)) v8 v9 v10 v11 v12 a) (hS : St8 W0 p b w ys c) (hn : n ≤ 16) (hm : most ≤ 60000)
    (hK : ∀ (a' : Act) (w' : World) (l : List Blk) (zs : List Int) (d : Int) (ov v7 v8 v9 v10 v11 v12 : Value), ActB (.pointer (some ⟨p, 0, none⟩)) (.int .i64 most) ov (.int .i64 n) v7 v8 v9 v10 v11 v12 a' → BlksO W0.heap.size w' ov l → St8 W0 p b w' zs d → Took (repP (blkP most) n) ys c l zs d → Q (.exit 0) a' w') : (Code.loop blkB).wp Try.prog Q a w := by
  have HK := hide hK
  clear hK
  refine wp_loop (fun a wr => ∃ (j : Nat) (l : List Blk) (ov : Value) (zs : List Int) (d : Int) (u8 u9 u10 u11 u12 : Value), j ≤ n ∧ l.length = j ∧ ActB (.pointer (some ⟨p, 0, none⟩)) (.int .i64 most) ov (.int .i64 n) (.int .i64 j) u8 u9 u10 u11 u12 a ∧ BlksO W0.heap.size wr ov l ∧ St8 W0 p b wr zs d ∧ Hid (∀ l' zs' d', Took (repP (blkP most) (n - j)) zs d l' zs' d' → Took (repP (blkP most) n) ys c (l ++ l') zs' d')) (fun a _ => n - (intOf (a.eval (.tmp 7))).toNat) ⟨0, [], _, ys, c, _, _, _, _, _, by omega, rfl, hA, BlksO.nil _ _, hS, hide (fun _ _ _ hh => by simpa using hh)⟩ ?_
  clear hA hS
  rintro a wr ⟨j, l, ov, zs, d, u8, u9, u10, u11, u12, hj, hjl, hA, hO, hS, hC⟩
  obtain ⟨ρ, rfl⟩ := hA.lit
  clear hA
  obtain ⟨oa, on, oc, rfl⟩ : ∃ ao n cap, ov = .slice ao n cap := by obtain ⟨_, _, h2, _⟩ := hO; exact owns_slice h2
  have HO := hide hO
  have HS := hide hS
  unfold blkB
  by_cases hlt : j < n
  · have hlt' : (j : Int) < (n : Int) := by omega
    obtain ⟨rv, r0, r1, rf0, rf1, _⟩ := hS.rdr
    by_cases hd : d = 0
    · subst hd
      have hpw : p < wr.heap.size ∧ b < wr.heap.size := by have := hS.pb; have := hS.sz; omega
      have hB0 : BlkB wr p b wr.heap.size (wr.alloc (.cells #[.slice none 0 0, .int .u8 0, .int .i64 0, .int .i64 0, .int .i64 0] 82)) [] zs 0 := ⟨St8.alloc ⟨hS.rdr, Lb.grownBy_refl _ _, hpw⟩ _, ⟨_, heap_alloc_new wr _, InssO.nil _ _⟩, Nat.le_refl _⟩
      have HC0 : Hid (Calls Try.prog 46 #[.pointer (some ⟨p, 0, none⟩), .int .i64 ((most : Int) + 1)] (wr.alloc (.cells #[.slice none 0 0, .int .u8 0, .int .i64 0, .int .i64 0, .int .i64 0] 82)) (RdPost _ p b (belP (most + 1)) zs 0 (IntIn ((most : Int) + 1)))) := hide (refBelow_t p b zs 0 (most + 1) _ hB0.st.rdr (by omega) (by omega))
      have HB0 := hide hB0
      have HM : Hid (n - j = (n - (j + 1)) + 1) := hide (by omega)
      have hmi : (most : Int) ≤ 60000 := by omega
      clear hB0 hO hS
      go_wp2_with fail
      refine HC0.out.mono ?_
      rintro e w1 ⟨m, u, ys1, d1, rfl, ⟨rfl, hm0, hm1⟩, hT, hR1, hg1⟩
      obtain ⟨m, rfl⟩ := Int.eq_ofNat_of_zero_le hm0
      have HB1 := hide (HB0.out.call hR1 hg1)
      have HT := hide hT
      have hm70 : m ≤ 70000 := by omega
      clear HC0 HB0 hT hR1 hg1 r0 r1 rf0 rf1 hm0 hm1
      go_wp2_with fail
      refine insts_ok ⟨rfl, rfl, rfl, rfl, rfl, rfl, rfl, rfl, rfl, rfl, rfl, rfl⟩ HB1.out hm70 ?_
      intro a' w2 is zi di x9 x10 x11 x12 hA' hB2 hTi
      obtain ⟨ρ2, rfl⟩ := hA'.lit
      have HTi : Hid (Took (listP insP most) zs 0 is zi di) := hide (Took.bind HT.out (by simpa using hTi))
      have HE2 := hide hB2.e
      have HC := hide (refBelow_t p b zi di 256 w2 hB2.st.rdr (by omega) (by omega))
      clear hA' HT hTi hB2 HB1
      go_wp2_with fail
      refine HC.out.mono ?_
      rintro e w3 ⟨kk, u, zk, dk, rfl, ⟨rfl, hk0, hk1⟩, hTk, hR1, hg1⟩
      have HTk := hide hTk
      have hE1 := HE2.out.call hR1 hg1
      have HE3 := hide (hE1.set (k := 1) (e' := ⟨kk, 0, 0, 0⟩) (v := .int .u8 kk) (fun _ => rfl))
      obtain ⟨uu, hrow, _⟩ := hE1.box
      have hfz : w3.frozen? ⟨wr.heap.size, 1, none⟩ = false := frozen_of_row _ _ _ _ _ hrow
      obtain ⟨q0, q1, q2, q3, q4⟩ := box5' hrow
      obtain ⟨uu2, hrow2, _⟩ := HE3.out.box
      obtain ⟨y0, y1, y2, y3, y4⟩ := box5' hrow2
      obtain ⟨rv, r0, r1, rf0, rf1, _⟩ := HE3.out.st.rdr
      clear HC HE2 hR1 hg1 hE1 hrow hrow2 hTk
      by_cases hk : kk = 1
      · subst hk
        have htk : takes 1 = false := rfl
        by_cases hd1 : dk = 0
        · subst hd1
          go_wp2_with fail
          refine (takes_any ⟨1, 0, 0, 0⟩ _).mono ?_
          rintro r wt ⟨rfl, hBt⟩
          have HEt := hide (HE3.out.call (HE3.out.st.rdr.below hBt) (Lb.grownBy_below hBt (some p)))
          simp only [htk]
          clear y0 y1 y2 y3 y4 HE3 hBt
          obtain ⟨uu, hrow, _⟩ := HEt.out.box
          obtain ⟨y0, y1, y2, y3, y4⟩ := box5' hrow
          clear hrow
          have HC := hide (refBelow_t p b zk 0 4096 wt HEt.out.st.rdr (by omega) (by omega))
          go_wp2_with fail
          refine HC.out.mono ?_
          rintro e w1a ⟨x1, u, zs1, d1, rfl, ⟨rfl, hx0, hx1⟩, hT1, hR1, hg1⟩
          have HT1 := hide hT1
          have hE1 := HEt.out.call hR1 hg1
          have HE1 := hide (hE1.set (k := 3) (e' := ⟨1, 0, x1, 0⟩) (v := .int .i64 x1) (fun _ => rfl))
          obtain ⟨uu, hrow, _⟩ := hE1.box
          have hfz : w1a.frozen? ⟨wr.heap.size, 3, none⟩ = false := frozen_of_row _ _ _ _ _ hrow
          clear y0 y1 y2 y3 y4
          obtain ⟨q0, q1, q2, q3, q4⟩ := box5' hrow
          obtain ⟨uu2, hrow2, _⟩ := HE1.out.box
          obtain ⟨y0, y1, y2, y3, y4⟩ := box5' hrow2
          clear HC HEt hR1 hg1 hE1 hrow hrow2 hT1 hx0 hx1
          have hTb := took_blk HTi.out (took_end1 HTk.out HT1.out : Took endP zi di ⟨1, 0, x1, 0⟩ zs1 d1)
          obtain ⟨uu, hrow, hOi⟩ := HE1.out.box
          have hst := HE1.out.st
          obtain ⟨W9, hW9⟩ : ∃ W, W = (w1a.setCell ⟨wr.heap.size, 3, none⟩ (.int .i64 x1)) := ⟨_, rfl⟩
          obtain ⟨ba, bn, bc, rfl⟩ : ∃ ao n cap, uu = .slice ao n cap := by obtain ⟨_, _, h2, _⟩ := hOi; exact owns_slice h2
          clear y0 y1 y2 y3 y4
          obtain ⟨y0, y1, y2, y3, y4⟩ := box5' hrow
          rw [← hW9] at hrow hOi hst
          have hbx := bel1' W9 (.cells #[.slice ba bn bc, .int .u8 1, .int .i64 0, .int .i64 x1, .int .i64 0] 82)
          have hnx := heap_alloc_new W9 (.cells #[.slice ba bn bc, .int .u8 1, .int .i64 0, .int .i64 x1, .int .i64 0] 82)
          have hO9 : BlksO W0.heap.size (W9.alloc (.cells #[.slice ba bn bc, .int .u8 1, .int .i64 0, .int .i64 x1, .int .i64 0] 82)) (.slice oa on oc) l := (HO.out.kept hst.grown HS.out.pb.1).kept (Lb.grownBy_below hbx (some p)) HS.out.pb.1
          have hA9 : InssO W0.heap.size (W9.alloc (.cells #[.slice ba bn bc, .int .u8 1, .int .i64 0, .int .i64 x1, .int .i64 0] 82)) (.slice ba bn bc) is := (InssO.mono hOi HS.out.sz).kept (Lb.grownBy_below hbx (some p)) HS.out.pb.1
          have hS9 : St8 W0 p b (W9.alloc (.cells #[.slice ba bn bc, .int .u8 1, .int .i64 0, .int .i64 x1, .int .i64 0] 82)) zs1 d1 := (HS.out.call hst.rdr hst.grown).alloc _
          have hll : l.length ≤ 1000000 := by omega
          have hBB : W0.heap.size ≤ (W9.alloc (.cells #[.slice ba bn bc, .int .u8 1, .int .i64 0, .int .i64 x1, .int .i64 0] 82)).heap.size := hS9.sz
          have hown : ∀ q, (Value.slice oa on oc).ownBlock = some q → W0.heap.size ≤ q := fun q hq => by obtain ⟨_, _, h2, _⟩ := hO9; exact (h2.lt q hq).1
          have HS9 := hide hS9
          have HTb := hide hTb
          rw [hW9] at hnx hO9 hA9 hBB HS9
          have hns : (w1a.setCell ⟨wr.heap.size, 3, none⟩ (.int .i64 x1)).heap.size = w1a.heap.size := by simp [World.setCell]
          rw [hns] at hnx
          have hjb : (j : Int) ≤ 17 := by omega
          clear hTb hrow hOi hst hW9 hbx hS9 HE1 HO HS hns
          go_wp2_with (at_builtin; go_must (refine snoc_blk (x := ⟨is, ⟨1, 0, x1, 0⟩⟩) (B := W0.heap.size) (.tmp 178) (.tmp 180) rfl rfl hO9 hnx hA9 rfl rfl hll hBB ?_))
          intro v' w99 hO hg
          have hS := HS9.out.new hg hown
          obtain ⟨va, vn, vc, rfl⟩ : ∃ ao n cap, v' = .slice ao n cap := by obtain ⟨_, _, h2, _⟩ := hO; exact owns_slice h2
          have HO := hide hO
          have HS := hide hS
          have hC2 : Hid (∀ l' zq dq, Took (repP (blkP most) (n - (j + 1))) zs1 d1 l' zq dq → Took (repP (blkP most) n) ys c ((l ++ [⟨is, ⟨1, 0, x1, 0⟩⟩]) ++ l') zq dq) := by
            intro l' zq dq hh
            have := hC.out (⟨is, ⟨1, 0, x1, 0⟩⟩ :: l') zq dq (by rw [HM.out]; exact Took.cons HTb.out hh)
            simpa using this
          clear hnx hO9 hA9 HS9 hO hS hg hown hC HTb y0 y1 y2 y3 y4
          go_wp2_with fail
          refine ⟨⟨j + 1, l ++ [⟨is, ⟨1, 0, x1, 0⟩⟩], .slice va vn vc, zs1, d1, _, _, _, _, _, by omega, by simp [hjl], ⟨rfl, rfl, rfl, rfl, rfl, by go_num, rfl, rfl, rfl, rfl, rfl, rfl⟩, HO.out, HS.out, hC2⟩, ?_⟩
          simp [intOf, Act.eval]
          omega
        · have hb0 : (dk == 0) = false := by simp [hd1]
          go_wp2_with fail
          refine (takes_any ⟨1, 0, 0, 0⟩ _).mono ?_
          rintro r wt ⟨rfl, hBt⟩
          have HEt := hide (HE3.out.call (HE3.out.st.rdr.below hBt) (Lb.grownBy_below hBt (some p)))
          simp only [htk]
          clear y0 y1 y2 y3 y4 HE3 hBt
          obtain ⟨uu, hrow, _⟩ := HEt.out.box
          obtain ⟨y0, y1, y2, y3, y4⟩ := box5' hrow
          clear hrow
          have HC := hide (refBelow_t p b zk dk 4096 wt HEt.out.st.rdr (by omega) (by omega))
          go_wp2_with fail
          refine HC.out.mono ?_
          rintro e w2a ⟨x2, u, zs2, d2, rfl, ⟨rfl, hx0, hx1⟩, hT2, hR1, hg1⟩
          have HT2 := hide hT2
          have hE1 := HEt.out.call hR1 hg1
          have HE2 := hide (hE1.set (k := 3) (e' := ⟨1, 0, x2, 0⟩) (v := .int .i64 x2) (fun _ => rfl))
          obtain ⟨uu, hrow, _⟩ := hE1.box
          have hfz : w2a.frozen? ⟨wr.heap.size, 3, none⟩ = false := frozen_of_row _ _ _ _ _ hrow
          clear y0 y1 y2 y3 y4
          obtain ⟨q0, q1, q2, q3, q4⟩ := box5' hrow
          obtain ⟨uu2, hrow2, _⟩ := HE2.out.box
          obtain ⟨y0, y1, y2, y3, y4⟩ := box5' hrow2
          clear HC HEt hR1 hg1 hE1 hrow hrow2 hT2 hx0 hx1
          have hTb := took_blk HTi.out (took_end1 HTk.out HT2.out : Took endP zi di ⟨1, 0, x2, 0⟩ zs2 d2)
          obtain ⟨uu, hrow, hOi⟩ := HE2.out.box
          have hst := HE2.out.st
          obtain ⟨W9, hW9⟩ : ∃ W, W = (w2a.setCell ⟨wr.heap.size, 3, none⟩ (.int .i64 x2)) := ⟨_, rfl⟩
          obtain ⟨ba, bn, bc, rfl⟩ : ∃ ao n cap, uu = .slice ao n cap := by obtain ⟨_, _, h2, _⟩ := hOi; exact owns_slice h2
          clear y0 y1 y2 y3 y4
          obtain ⟨y0, y1, y2, y3, y4⟩ := box5' hrow
          rw [← hW9] at hrow hOi hst
          have hbx := bel1' W9 (.cells #[.slice ba bn bc, .int .u8 1, .int .i64 0, .int .i64 x2, .int .i64 0] 82)
          have hnx := heap_alloc_new W9 (.cells #[.slice ba bn bc, .int .u8 1, .int .i64 0, .int .i64 x2, .int .i64 0] 82)
          have hO9 : BlksO W0.heap.size (W9.alloc (.cells #[.slice ba bn bc, .int .u8 1, .int .i64 0, .int .i64 x2, .int .i64 0] 82)) (.slice oa on oc) l := (HO.out.kept hst.grown HS.out.pb.1).kept (Lb.grownBy_below hbx (some p)) HS.out.pb.1
          have hA9 : InssO W0.heap.size (W9.alloc (.cells #[.slice ba bn bc, .int .u8 1, .int .i64 0, .int .i64 x2, .int .i64 0] 82)) (.slice ba bn bc) is := (InssO.mono hOi HS.out.sz).kept (Lb.grownBy_below hbx (some p)) HS.out.pb.1
          have hS9 : St8 W0 p b (W9.alloc (.cells #[.slice ba bn bc, .int .u8 1, .int .i64 0, .int .i64 x2, .int .i64 0] 82)) zs2 d2 := (HS.out.call hst.rdr hst.grown).alloc _
          have hll : l.length ≤ 1000000 := by omega
          have hBB : W0.heap.size ≤ (W9.alloc (.cells #[.slice ba bn bc, .int .u8 1, .int .i64 0, .int .i64 x2, .int .i64 0] 82)).heap.size := hS9.sz
          have hown : ∀ q, (Value.slice oa on oc).ownBlock = some q → W0.heap.size ≤ q := fun q hq => by obtain ⟨_, _, h2, _⟩ := hO9; exact (h2.lt q hq).1
          have HS9 := hide hS9
          have HTb := hide hTb
          rw [hW9] at hnx hO9 hA9 hBB HS9
          have hns : (w2a.setCell ⟨wr.heap.size, 3, none⟩ (.int .i64 x2)).heap.size = w2a.heap.size := by simp [World.setCell]
          rw [hns] at hnx
          have hjb : (j : Int) ≤ 17 := by omega
          clear hTb hrow hOi hst hW9 hbx hS9 HE2 HO HS hns
          go_wp2_with (at_builtin; go_must (refine snoc_blk (x := ⟨is, ⟨1, 0, x2, 0⟩⟩) (B := W0.heap.size) (.tmp 178) (.tmp 180) rfl rfl hO9 hnx hA9 rfl rfl hll hBB ?_))
          intro v' w99 hO hg
          have hS := HS9.out.new hg hown
          obtain ⟨va, vn, vc, rfl⟩ : ∃ ao n cap, v' = .slice ao n cap := by obtain ⟨_, _, h2, _⟩ := hO; exact owns_slice h2
          have HO := hide hO
          have HS := hide hS
          have hC2 : Hid (∀ l' zq dq, Took (repP (blkP most) (n - (j + 1))) zs2 d2 l' zq dq → Took (repP (blkP most) n) ys c ((l ++ [⟨is, ⟨1, 0, x2, 0⟩⟩]) ++ l') zq dq) := by
            intro l' zq dq hh
            have := hC.out (⟨is, ⟨1, 0, x2, 0⟩⟩ :: l') zq dq (by rw [HM.out]; exact Took.cons HTb.out hh)
            simpa using this
          clear hnx hO9 hA9 HS9 hO hS hg hown hC HTb y0 y1 y2 y3 y4
          go_wp2_with fail
          refine ⟨⟨j + 1, l ++ [⟨is, ⟨1, 0, x2, 0⟩⟩], .slice va vn vc, zs2, d2, _, _, _, _, _, by omega, by simp [hjl], ⟨rfl, rfl, rfl, rfl, rfl, by go_num, rfl, rfl, rfl, rfl, rfl, rfl⟩, HO.out, HS.out, hC2⟩, ?_⟩
          simp [intOf, Act.eval]
          omega
      have hb1 : (kk == 1) = false := by simp [hk]
      have hn1 := hk
      clear hk
      by_cases hk : kk = 2
      · subst hk
        have htk : takes 2 = true := rfl
        by_cases hd1 : dk = 0
        · subst hd1
          go_wp2_with fail
          refine (takes_any ⟨2, 0, 0, 0⟩ _).mono ?_
          rintro r wt ⟨rfl, hBt⟩
          have HEt := hide (HE3.out.call (HE3.out.st.rdr.below hBt) (Lb.grownBy_below hBt (some p)))
          simp only [htk]
          clear y0 y1 y2 y3 y4 HE3 hBt
          obtain ⟨uu, hrow, _⟩ := HEt.out.box
          obtain ⟨y0, y1, y2, y3, y4⟩ := box5' hrow
          clear hrow
          have HC := hide (refBelow_t p b zk 0 4096 wt HEt.out.st.rdr (by omega) (by omega))
          go_wp2_with fail
          refine HC.out.mono ?_
          rintro e w3a ⟨x3, u, zs3, d3, rfl, ⟨rfl, hx0, hx1⟩, hT3, hR1, hg1⟩
          have HT3 := hide hT3
          have hE1 := HEt.out.call hR1 hg1
          have HE3 := hide (hE1.set (k := 2) (e' := ⟨2, x3, 0, 0⟩) (v := .int .i64 x3) (fun _ => rfl))
          obtain ⟨uu, hrow, _⟩ := hE1.box
          have hfz : w3a.frozen? ⟨wr.heap.size, 2, none⟩ = false := frozen_of_row _ _ _ _ _ hrow
          clear y0 y1 y2 y3 y4
          obtain ⟨q0, q1, q2, q3, q4⟩ := box5' hrow
          obtain ⟨uu2, hrow2, _⟩ := HE3.out.box
          obtain ⟨y0, y1, y2, y3, y4⟩ := box5' hrow2
          clear HC HEt hR1 hg1 hE1 hrow hrow2 hT3 hx0 hx1
          have HC := hide (refBelow_t p b zs3 d3 4096 (w3a.setCell ⟨wr.heap.size, 2, none⟩ (.int .i64 x3)) HE3.out.st.rdr (by omega) (by omega))
          go_wp2_with fail
          refine HC.out.mono ?_
          rintro e w4a ⟨x4, u, zs4, d4, rfl, ⟨rfl, hx0, hx1⟩, hT4, hR1, hg1⟩
          have HT4 := hide hT4
          have hE1 := HE3.out.call hR1 hg1
          have HE4 := hide (hE1.set (k := 3) (e' := ⟨2, x3, x4, 0⟩) (v := .int .i64 x4) (fun _ => rfl))
          obtain ⟨uu, hrow, _⟩ := hE1.box
          have hfz : w4a.frozen? ⟨wr.heap.size, 3, none⟩ = false := frozen_of_row _ _ _ _ _ hrow
          clear y0 y1 y2 y3 y4
          obtain ⟨q0, q1, q2, q3, q4⟩ := box5' hrow
          obtain ⟨uu2, hrow2, _⟩ := HE4.out.box
          obtain ⟨y0, y1, y2, y3, y4⟩ := box5' hrow2
          clear HC HE3 hR1 hg1 hE1 hrow hrow2 hT4 hx0 hx1
          have HC := hide (refBelow_t p b zs4 d4 4096 (w4a.setCell ⟨wr.heap.size, 3, none⟩ (.int .i64 x4)) HE4.out.st.rdr (by omega) (by omega))
          go_wp2_with fail
          refine HC.out.mono ?_
          rintro e w5a ⟨x5, u, zs5, d5, rfl, ⟨rfl, hx0, hx1⟩, hT5, hR1, hg1⟩
          have HT5 := hide hT5
          have hE1 := HE4.out.call hR1 hg1
          have HE5 := hide (hE1.set (k := 4) (e' := ⟨2, x3, x4, x5⟩) (v := .int .i64 x5) (fun _ => rfl))
          obtain ⟨uu, hrow, _⟩ := hE1.box
          have hfz : w5a.frozen? ⟨wr.heap.size, 4, none⟩ = false := frozen_of_row _ _ _ _ _ hrow
          clear y0 y1 y2 y3 y4
          obtain ⟨q0, q1, q2, q3, q4⟩ := box5' hrow
          obtain ⟨uu2, hrow2, _⟩ := HE5.out.box
          obtain ⟨y0, y1, y2, y3, y4⟩ := box5' hrow2
          clear HC HE4 hR1 hg1 hE1 hrow hrow2 hT5 hx0 hx1
          have hTb := took_blk HTi.out (took_end2 HTk.out HT3.out HT4.out HT5.out : Took endP zi di ⟨2, x3, x4, x5⟩ zs5 d5)
          obtain ⟨uu, hrow, hOi⟩ := HE5.out.box
          have hst := HE5.out.st
          obtain ⟨W9, hW9⟩ : ∃ W, W = (w5a.setCell ⟨wr.heap.size, 4, none⟩ (.int .i64 x5)) := ⟨_, rfl⟩
          obtain ⟨ba, bn, bc, rfl⟩ : ∃ ao n cap, uu = .slice ao n cap := by obtain ⟨_, _, h2, _⟩ := hOi; exact owns_slice h2
          clear y0 y1 y2 y3 y4
          obtain ⟨y0, y1, y2, y3, y4⟩ := box5' hrow
          rw [← hW9] at hrow hOi hst
          have hbx := bel1' W9 (.cells #[.slice ba bn bc, .int .u8 2, .int .i64 x3, .int .i64 x4, .int .i64 x5] 82)
          have hnx := heap_alloc_new W9 (.cells #[.slice ba bn bc, .int .u8 2, .int .i64 x3, .int .i64 x4, .int .i64 x5] 82)
          have hO9 : BlksO W0.heap.size (W9.alloc (.cells #[.slice ba bn bc, .int .u8 2, .int .i64 x3, .int .i64 x4, .int .i64 x5] 82)) (.slice oa on oc) l := (HO.out.kept hst.grown HS.out.pb.1).kept (Lb.grownBy_below hbx (some p)) HS.out.pb.1
          have hA9 : InssO W0.heap.size (W9.alloc (.cells #[.slice ba bn bc, .int .u8 2, .int .i64 x3, .int .i64 x4, .int .i64 x5] 82)) (.slice ba bn bc) is := (InssO.mono hOi HS.out.sz).kept (Lb.grownBy_below hbx (some p)) HS.out.pb.1
          have hS9 : St8 W0 p b (W9.alloc (.cells #[.slice ba bn bc, .int .u8 2, .int .i64 x3, .int .i64 x4, .int .i64 x5] 82)) zs5 d5 := (HS.out.call hst.rdr hst.grown).alloc _
          have hll : l.length ≤ 1000000 := by omega
          have hBB : W0.heap.size ≤ (W9.alloc (.cells #[.slice ba bn bc, .int .u8 2, .int .i64 x3, .int .i64 x4, .int .i64 x5] 82)).heap.size := hS9.sz
          have hown : ∀ q, (Value.slice oa on oc).ownBlock = some q → W0.heap.size ≤ q := fun q hq => by obtain ⟨_, _, h2, _⟩ := hO9; exact (h2.lt q hq).1
          have HS9 := hide hS9
          have HTb := hide hTb
          rw [hW9] at hnx hO9 hA9 hBB HS9
          have hns : (w5a.setCell ⟨wr.heap.size, 4, none⟩ (.int .i64 x5)).heap.size = w5a.heap.size := by simp [World.setCell]
          rw [hns] at hnx
          have hjb : (j : Int) ≤ 17 := by omega
          clear hTb hrow hOi hst hW9 hbx hS9 HE5 HO HS hns
          go_wp2_with (at_builtin; go_must (refine snoc_blk (x := ⟨is, ⟨2, x3, x4, x5⟩⟩) (B := W0.heap.size) (.tmp 178) (.tmp 180) rfl rfl hO9 hnx hA9 rfl rfl hll hBB ?_))
          intro v' w99 hO hg
          have hS := HS9.out.new hg hown
          obtain ⟨va, vn, vc, rfl⟩ : ∃ ao n cap, v' = .slice ao n cap := by obtain ⟨_, _, h2, _⟩ := hO; exact owns_slice h2
          have HO := hide hO
          have HS := hide hS
          have hC2 : Hid (∀ l' zq dq, Took (repP (blkP most) (n - (j + 1))) zs5 d5 l' zq dq → Took (repP (blkP most) n) ys c ((l ++ [⟨is, ⟨2, x3, x4, x5⟩⟩]) ++ l') zq dq) := by
            intro l' zq dq hh
            have := hC.out (⟨is, ⟨2, x3, x4, x5⟩⟩ :: l') zq dq (by rw [HM.out]; exact Took.cons HTb.out hh)
            simpa using this
          clear hnx hO9 hA9 HS9 hO hS hg hown hC HTb y0 y1 y2 y3 y4
          go_wp2_with fail
          refine ⟨⟨j + 1, l ++ [⟨is, ⟨2, x3, x4, x5⟩⟩], .slice va vn vc, zs5, d5, _, _, _, _, _, by omega, by simp [hjl], ⟨rfl, rfl, rfl, rfl, rfl, by go_num, rfl, rfl, rfl, rfl, rfl, rfl⟩, HO.out, HS.out, hC2⟩, ?_⟩
          simp [intOf, Act.eval]
          omega
        · have hb0 : (dk == 0) = false := by simp [hd1]
          go_wp2_with fail
          refine (takes_any ⟨2, 0, 0, 0⟩ _).mono ?_
          rintro r wt ⟨rfl, hBt⟩
          have HEt := hide (HE3.out.call (HE3.out.st.rdr.below hBt) (Lb.grownBy_below hBt (some p)))
          simp only [htk]
          clear y0 y1 y2 y3 y4 HE3 hBt
          obtain ⟨uu, hrow, _⟩ := HEt.out.box
          obtain ⟨y0, y1, y2, y3, y4⟩ := box5' hrow
          clear hrow
          have HC := hide (refBelow_t p b zk dk 4096 wt HEt.out.st.rdr (by omega) (by omega))
          go_wp2_with fail
          refine HC.out.mono ?_
          rintro e w6a ⟨x6, u, zs6, d6, rfl, ⟨rfl, hx0, hx1⟩, hT6, hR1, hg1⟩
          have HT6 := hide hT6
          have hE1 := HEt.out.call hR1 hg1
          have HE6 := hide (hE1.set (k := 2) (e' := ⟨2, x6, 0, 0⟩) (v := .int .i64 x6) (fun _ => rfl))
          obtain ⟨uu, hrow, _⟩ := hE1.box
          have hfz : w6a.frozen? ⟨wr.heap.size, 2, none⟩ = false := frozen_of_row _ _ _ _ _ hrow
          clear y0 y1 y2 y3 y4
          obtain ⟨q0, q1, q2, q3, q4⟩ := box5' hrow
          obtain ⟨uu2, hrow2, _⟩ := HE6.out.box
          obtain ⟨y0, y1, y2, y3, y4⟩ := box5' hrow2
          clear HC HEt hR1 hg1 hE1 hrow hrow2 hT6 hx0 hx1
          have HC := hide (refBelow_t p b zs6 d6 4096 (w6a.setCell ⟨wr.heap.size, 2, none⟩ (.int .i64 x6)) HE6.out.st.rdr (by omega) (by omega))
          go_wp2_with fail
          refine HC.out.mono ?_
          rintro e w7a ⟨x7, u, zs7, d7, rfl, ⟨rfl, hx0, hx1⟩, hT7, hR1, hg1⟩
          have HT7 := hide hT7
          have hE1 := HE6.out.call hR1 hg1
          have HE7 := hide (hE1.set (k := 3) (e' := ⟨2, x6, x7, 0⟩) (v := .int .i64 x7) (fun _ => rfl))
          obtain ⟨uu, hrow, _⟩ := hE1.box
          have hfz : w7a.frozen? ⟨wr.heap.size, 3, none⟩ = false := frozen_of_row _ _ _ _ _ hrow
          clear y0 y1 y2 y3 y4
          obtain ⟨q0, q1, q2, q3, q4⟩ := box5' hrow
          obtain ⟨uu2, hrow2, _⟩ := HE7.out.box
          obtain ⟨y0, y1, y2, y3, y4⟩ := box5' hrow2
          clear HC HE6 hR1 hg1 hE1 hrow hrow2 hT7 hx0 hx1
          have HC := hide (refBelow_t p b zs7 d7 4096 (w7a.setCell ⟨wr.heap.size, 3, none⟩ (.int .i64 x7)) HE7.out.st.rdr (by omega) (by omega))
          go_wp2_with fail
          refine HC.out.mono ?_
          rintro e w8a ⟨x8, u, zs8, d8, rfl, ⟨rfl, hx0, hx1⟩, hT8, hR1, hg1⟩
          have HT8 := hide hT8
          have hE1 := HE7.out.call hR1 hg1
          have HE8 := hide (hE1.set (k := 4) (e' := ⟨2, x6, x7, x8⟩) (v := .int .i64 x8) (fun _ => rfl))
          obtain ⟨uu, hrow, _⟩ := hE1.box
          have hfz : w8a.frozen? ⟨wr.heap.size, 4, none⟩ = false := frozen_of_row _ _ _ _ _ hrow
          clear y0 y1 y2 y3 y4
          obtain ⟨q0, q1, q2, q3, q4⟩ := box5' hrow
          obtain ⟨uu2, hrow2, _⟩ := HE8.out.box
          obtain ⟨y0, y1, y2, y3, y4⟩ := box5' hrow2
          clear HC HE7 hR1 hg1 hE1 hrow hrow2 hT8 hx0 hx1
          have hTb := took_blk HTi.out (took_end2 HTk.out HT6.out HT7.out HT8.out : Took endP zi di ⟨2, x6, x7, x8⟩ zs8 d8)
          obtain ⟨uu, hrow, hOi⟩ := HE8.out.box
          have hst := HE8.out.st
          obtain ⟨W9, hW9⟩ : ∃ W, W = (w8a.setCell ⟨wr.heap.size, 4, none⟩ (.int .i64 x8)) := ⟨_, rfl⟩
          obtain ⟨ba, bn, bc, rfl⟩ : ∃ ao n cap, uu = .slice ao n cap := by obtain ⟨_, _, h2, _⟩ := hOi; exact owns_slice h2
          clear y0 y1 y2 y3 y4
          obtain ⟨y0, y1, y2, y3, y4⟩ := box5' hrow
          rw [← hW9] at hrow hOi hst
          have hbx := bel1' W9 (.cells #[.slice ba bn bc, .int .u8 2, .int .i64 x6, .int .i64 x7, .int .i64 x8] 82)
          have hnx := heap_alloc_new W9 (.cells #[.slice ba bn bc, .int .u8 2, .int .i64 x6, .int .i64 x7, .int .i64 x8] 82)
          have hO9 : BlksO W0.heap.size (W9.alloc (.cells #[.slice ba bn bc, .int .u8 2, .int .i64 x6, .int .i64 x7, .int .i64 x8] 82)) (.slice oa on oc) l := (HO.out.kept hst.grown HS.out.pb.1).kept (Lb.grownBy_below hbx (some p)) HS.out.pb.1
          have hA9 : InssO W0.heap.size (W9.alloc (.cells #[.slice ba bn bc, .int .u8 2, .int .i64 x6, .int .i64 x7, .int .i64 x8] 82)) (.slice ba bn bc) is := (InssO.mono hOi HS.out.sz).kept (Lb.grownBy_below hbx (some p)) HS.out.pb.1
          have hS9 : St8 W0 p b (W9.alloc (.cells #[.slice ba bn bc, .int .u8 2, .int .i64 x6, .int .i64 x7, .int .i64 x8] 82)) zs8 d8 := (HS.out.call hst.rdr hst.grown).alloc _
          have hll : l.length ≤ 1000000 := by omega
          have hBB : W0.heap.size ≤ (W9.alloc (.cells #[.slice ba bn bc, .int .u8 2, .int .i64 x6, .int .i64 x7, .int .i64 x8] 82)).heap.size := hS9.sz
          have hown : ∀ q, (Value.slice oa on oc).ownBlock = some q → W0.heap.size ≤ q := fun q hq => by obtain ⟨_, _, h2, _⟩ := hO9; exact (h2.lt q hq).1
          have HS9 := hide hS9
          have HTb := hide hTb
          rw [hW9] at hnx hO9 hA9 hBB HS9
          have hns : (w8a.setCell ⟨wr.heap.size, 4, none⟩ (.int .i64 x8)).heap.size = w8a.heap.size := by simp [World.setCell]
          rw [hns] at hnx
          have hjb : (j : Int) ≤ 17 := by omega
          clear hTb hrow hOi hst hW9 hbx hS9 HE8 HO HS hns
          go_wp2_with (at_builtin; go_must (refine snoc_blk (x := ⟨is, ⟨2, x6, x7, x8⟩⟩) (B := W0.heap.size) (.tmp 178) (.tmp 180) rfl rfl hO9 hnx hA9 rfl rfl hll hBB ?_))
          intro v' w99 hO hg
          have hS := HS9.out.new hg hown
          obtain ⟨va, vn, vc, rfl⟩ : ∃ ao n cap, v' = .slice ao n cap := by obtain ⟨_, _, h2, _⟩ := hO; exact owns_slice h2
          have HO := hide hO
          have HS := hide hS
          have hC2 : Hid (∀ l' zq dq, Took (repP (blkP most) (n - (j + 1))) zs8 d8 l' zq dq → Took (repP (blkP most) n) ys c ((l ++ [⟨is, ⟨2, x6, x7, x8⟩⟩]) ++ l') zq dq) := by
            intro l' zq dq hh
            have := hC.out (⟨is, ⟨2, x6, x7, x8⟩⟩ :: l') zq dq (by rw [HM.out]; exact Took.cons HTb.out hh)
            simpa using this
          clear hnx hO9 hA9 HS9 hO hS hg hown hC HTb y0 y1 y2 y3 y4
          go_wp2_with fail
          refine ⟨⟨j + 1, l ++ [⟨is, ⟨2, x6, x7, x8⟩⟩], .slice va vn vc, zs8, d8, _, _, _, _, _, by omega, by simp [hjl], ⟨rfl, rfl, rfl, rfl, rfl, by go_num, rfl, rfl, rfl, rfl, rfl, rfl⟩, HO.out, HS.out, hC2⟩, ?_⟩
          simp [intOf, Act.eval]
          omega
      have hb2 : (kk == 2) = false := by simp [hk]
      have hn2 := hk
      clear hk
      by_cases hk : kk = 3
      · subst hk
        have htk : takes 3 = true := rfl
        by_cases hd1 : dk = 0
        · subst hd1
          go_wp2_with fail
          refine (takes_any ⟨3, 0, 0, 0⟩ _).mono ?_
          rintro r wt ⟨rfl, hBt⟩
          have HEt := hide (HE3.out.call (HE3.out.st.rdr.below hBt) (Lb.grownBy_below hBt (some p)))
          simp only [htk]
          clear y0 y1 y2 y3 y4 HE3 hBt
          obtain ⟨uu, hrow, _⟩ := HEt.out.box
          obtain ⟨y0, y1, y2, y3, y4⟩ := box5' hrow
          clear hrow
          have HC := hide (refBelow_t p b zk 0 4096 wt HEt.out.st.rdr (by omega) (by omega))
          go_wp2_with fail
          refine HC.out.mono ?_
          rintro e w9a ⟨x9, u, zs9, d9, rfl, ⟨rfl, hx0, hx1⟩, hT9, hR1, hg1⟩
          have HT9 := hide hT9
          have hE1 := HEt.out.call hR1 hg1
          have HE9 := hide (hE1.set (k := 2) (e' := ⟨3, x9, 0, 0⟩) (v := .int .i64 x9) (fun _ => rfl))
          obtain ⟨uu, hrow, _⟩ := hE1.box
          have hfz : w9a.frozen? ⟨wr.heap.size, 2, none⟩ = false := frozen_of_row _ _ _ _ _ hrow
          clear y0 y1 y2 y3 y4
          obtain ⟨q0, q1, q2, q3, q4⟩ := box5' hrow
          obtain ⟨uu2, hrow2, _⟩ := HE9.out.box
          obtain ⟨y0, y1, y2, y3, y4⟩ := box5' hrow2
          clear HC HEt hR1 hg1 hE1 hrow hrow2 hT9 hx0 hx1
          have hTb := took_blk HTi.out (took_end3 HTk.out HT9.out : Took endP zi di ⟨3, x9, 0, 0⟩ zs9 d9)
          obtain ⟨uu, hrow, hOi⟩ := HE9.out.box
          have hst := HE9.out.st
          obtain ⟨W9, hW9⟩ : ∃ W, W = (w9a.setCell ⟨wr.heap.size, 2, none⟩ (.int .i64 x9)) := ⟨_, rfl⟩
          obtain ⟨ba, bn, bc, rfl⟩ : ∃ ao n cap, uu = .slice ao n cap := by obtain ⟨_, _, h2, _⟩ := hOi; exact owns_slice h2
          clear y0 y1 y2 y3 y4
          obtain ⟨y0, y1, y2, y3, y4⟩ := box5' hrow
          rw [← hW9] at hrow hOi hst
          have hbx := bel1' W9 (.cells #[.slice ba bn bc, .int .u8 3, .int .i64 x9, .int .i64 0, .int .i64 0] 82)
          have hnx := heap_alloc_new W9 (.cells #[.slice ba bn bc, .int .u8 3, .int .i64 x9, .int .i64 0, .int .i64 0] 82)
          have hO9 : BlksO W0.heap.size (W9.alloc (.cells #[.slice ba bn bc, .int .u8 3, .int .i64 x9, .int .i64 0, .int .i64 0] 82)) (.slice oa on oc) l := (HO.out.kept hst.grown HS.out.pb.1).kept (Lb.grownBy_below hbx (some p)) HS.out.pb.1
          have hA9 : InssO W0.heap.size (W9.alloc (.cells #[.slice ba bn bc, .int .u8 3, .int .i64 x9, .int .i64 0, .int .i64 0] 82)) (.slice ba bn bc) is := (InssO.mono hOi HS.out.sz).kept (Lb.grownBy_below hbx (some p)) HS.out.pb.1
          have hS9 : St8 W0 p b (W9.alloc (.cells #[.slice ba bn bc, .int .u8 3, .int .i64 x9, .int .i64 0, .int .i64 0] 82)) zs9 d9 := (HS.out.call hst.rdr hst.grown).alloc _
          have hll : l.length ≤ 1000000 := by omega
          have hBB : W0.heap.size ≤ (W9.alloc (.cells #[.slice ba bn bc, .int .u8 3, .int .i64 x9, .int .i64 0, .int .i64 0] 82)).heap.size := hS9.sz
          have hown : ∀ q, (Value.slice oa on oc).ownBlock = some q → W0.heap.size ≤ q := fun q hq => by obtain ⟨_, _, h2, _⟩ := hO9; exact (h2.lt q hq).1
          have HS9 := hide hS9
          have HTb := hide hTb
          rw [hW9] at hnx hO9 hA9 hBB HS9
          have hns : (w9a.setCell ⟨wr.heap.size, 2, none⟩ (.int .i64 x9)).heap.size = w9a.heap.size := by simp [World.setCell]
          rw [hns] at hnx
          have hjb : (j : Int) ≤ 17 := by omega
          clear hTb hrow hOi hst hW9 hbx hS9 HE9 HO HS hns
          go_wp2_with (at_builtin; go_must (refine snoc_blk (x := ⟨is, ⟨3, x9, 0, 0⟩⟩) (B := W0.heap.size) (.tmp 178) (.tmp 180) rfl rfl hO9 hnx hA9 rfl rfl hll hBB ?_))
          intro v' w99 hO hg
          have hS := HS9.out.new hg hown
          obtain ⟨va, vn, vc, rfl⟩ : ∃ ao n cap, v' = .slice ao n cap := by obtain ⟨_, _, h2, _⟩ := hO; exact owns_slice h2
          have HO := hide hO
          have HS := hide hS
          have hC2 : Hid (∀ l' zq dq, Took (repP (blkP most) (n - (j + 1))) zs9 d9 l' zq dq → Took (repP (blkP most) n) ys c ((l ++ [⟨is, ⟨3, x9, 0, 0⟩⟩]) ++ l') zq dq) := by
            intro l' zq dq hh
            have := hC.out (⟨is, ⟨3, x9, 0, 0⟩⟩ :: l') zq dq (by rw [HM.out]; exact Took.cons HTb.out hh)
            simpa using this
          clear hnx hO9 hA9 HS9 hO hS hg hown hC HTb y0 y1 y2 y3 y4
          go_wp2_with fail
          refine ⟨⟨j + 1, l ++ [⟨is, ⟨3, x9, 0, 0⟩⟩], .slice va vn vc, zs9, d9, _, _, _, _, _, by omega, by simp [hjl], ⟨rfl, rfl, rfl, rfl, rfl, by go_num, rfl, rfl, rfl, rfl, rfl, rfl⟩, HO.out, HS.out, hC2⟩, ?_⟩
          simp [intOf, Act.eval]
          omega
        · have hb0 : (dk == 0) = false := by simp [hd1]
          go_wp2_with fail
          refine (takes_any ⟨3, 0, 0, 0⟩ _).mono ?_
          rintro r wt ⟨rfl, hBt⟩
          have HEt := hide (HE3.out.call (HE3.out.st.rdr.below hBt) (Lb.grownBy_below hBt (some p)))
          simp only [htk]
          clear y0 y1 y2 y3 y4 HE3 hBt
          obtain ⟨uu, hrow, _⟩ := HEt.out.box
          obtain ⟨y0, y1, y2, y3, y4⟩ := box5' hrow
          clear hrow
          have HC := hide (refBelow_t p b zk dk 4096 wt HEt.out.st.rdr (by omega) (by omega))
          go_wp2_with fail
          refine HC.out.mono ?_
          rintro e w10a ⟨x10, u, zs10, d10, rfl, ⟨rfl, hx0, hx1⟩, hT10, hR1, hg1⟩
          have HT10 := hide hT10
          have hE1 := HEt.out.call hR1 hg1
          have HE10 := hide (hE1.set (k := 2) (e' := ⟨3, x10, 0, 0⟩) (v := .int .i64 x10) (fun _ => rfl))
          obtain ⟨uu, hrow, _⟩ := hE1.box
          have hfz : w10a.frozen? ⟨wr.heap.size, 2, none⟩ = false := frozen_of_row _ _ _ _ _ hrow
          clear y0 y1 y2 y3 y4
          obtain ⟨q0, q1, q2, q3, q4⟩ := box5' hrow
          obtain ⟨uu2, hrow2, _⟩ := HE10.out.box
          obtain ⟨y0, y1, y2, y3, y4⟩ := box5' hrow2
          clear HC HEt hR1 hg1 hE1 hrow hrow2 hT10 hx0 hx1
          have hTb := took_blk HTi.out (took_end3 HTk.out HT10.out : Took endP zi di ⟨3, x10, 0, 0⟩ zs10 d10)
          obtain ⟨uu, hrow, hOi⟩ := HE10.out.box
          have hst := HE10.out.st
          obtain ⟨W9, hW9⟩ : ∃ W, W = (w10a.setCell ⟨wr.heap.size, 2, none⟩ (.int .i64 x10)) := ⟨_, rfl⟩
          obtain ⟨ba, bn, bc, rfl⟩ : ∃ ao n cap, uu = .slice ao n cap := by obtain ⟨_, _, h2, _⟩ := hOi; exact owns_slice h2
          clear y0 y1 y2 y3 y4
          obtain ⟨y0, y1, y2, y3, y4⟩ := box5' hrow
          rw [← hW9] at hrow hOi hst
          have hbx := bel1' W9 (.cells #[.slice ba bn bc, .int .u8 3, .int .i64 x10, .int .i64 0, .int .i64 0] 82)
          have hnx := heap_alloc_new W9 (.cells #[.slice ba bn bc, .int .u8 3, .int .i64 x10, .int .i64 0, .int .i64 0] 82)
          have hO9 : BlksO W0.heap.size (W9.alloc (.cells #[.slice ba bn bc, .int .u8 3, .int .i64 x10, .int .i64 0, .int .i64 0] 82)) (.slice oa on oc) l := (HO.out.kept hst.grown HS.out.pb.1).kept (Lb.grownBy_below hbx (some p)) HS.out.pb.1
          have hA9 : InssO W0.heap.size (W9.alloc (.cells #[.slice ba bn bc, .int .u8 3, .int .i64 x10, .int .i64 0, .int .i64 0] 82)) (.slice ba bn bc) is := (InssO.mono hOi HS.out.sz).kept (Lb.grownBy_below hbx (some p)) HS.out.pb.1
          have hS9 : St8 W0 p b (W9.alloc (.cells #[.slice ba bn bc, .int .u8 3, .int .i64 x10, .int .i64 0, .int .i64 0] 82)) zs10 d10 := (HS.out.call hst.rdr hst.grown).alloc _
          have hll : l.length ≤ 1000000 := by omega
          have hBB : W0.heap.size ≤ (W9.alloc (.cells #[.slice ba bn bc, .int .u8 3, .int .i64 x10, .int .i64 0, .int .i64 0] 82)).heap.size := hS9.sz
          have hown : ∀ q, (Value.slice oa on oc).ownBlock = some q → W0.heap.size ≤ q := fun q hq => by obtain ⟨_, _, h2, _⟩ := hO9; exact (h2.lt q hq).1
          have HS9 := hide hS9
          have HTb := hide hTb
          rw [hW9] at hnx hO9 hA9 hBB HS9
          have hns : (w10a.setCell ⟨wr.heap.size, 2, none⟩ (.int .i64 x10)).heap.size = w10a.heap.size := by simp [World.setCell]
          rw [hns] at hnx
          have hjb : (j : Int) ≤ 17 := by omega
          clear hTb hrow hOi hst hW9 hbx hS9 HE10 HO HS hns
          go_wp2_with (at_builtin; go_must (refine snoc_blk (x := ⟨is, ⟨3, x10, 0, 0⟩⟩) (B := W0.heap.size) (.tmp 178) (.tmp 180) rfl rfl hO9 hnx hA9 rfl rfl hll hBB ?_))
          intro v' w99 hO hg
          have hS := HS9.out.new hg hown
          obtain ⟨va, vn, vc, rfl⟩ : ∃ ao n cap, v' = .slice ao n cap := by obtain ⟨_, _, h2, _⟩ := hO; exact owns_slice h2
          have HO := hide hO
          have HS := hide hS
          have hC2 : Hid (∀ l' zq dq, Took (repP (blkP most) (n - (j + 1))) zs10 d10 l' zq dq → Took (repP (blkP most) n) ys c ((l ++ [⟨is, ⟨3, x10, 0, 0⟩⟩]) ++ l') zq dq) := by
            intro l' zq dq hh
            have := hC.out (⟨is, ⟨3, x10, 0, 0⟩⟩ :: l') zq dq (by rw [HM.out]; exact Took.cons HTb.out hh)
            simpa using this
          clear hnx hO9 hA9 HS9 hO hS hg hown hC HTb y0 y1 y2 y3 y4
          go_wp2_with fail
          refine ⟨⟨j + 1, l ++ [⟨is, ⟨3, x10, 0, 0⟩⟩], .slice va vn vc, zs10, d10, _, _, _, _, _, by omega, by simp [hjl], ⟨rfl, rfl, rfl, rfl, rfl, by go_num, rfl, rfl, rfl, rfl, rfl, rfl⟩, HO.out, HS.out, hC2⟩, ?_⟩
          simp [intOf, Act.eval]
          omega
      have hb3 : (kk == 3) = false := by simp [hk]
      have hn3 := hk
      clear hk
      have htk : takes kk = false := by simp [takes, hn2, hn3]
      by_cases hd1 : dk = 0
      · subst hd1
        have HF := hide (Lb.refFail_any p b zk 0 20 _ HE3.out.st.rdr)
        by_cases hlo : kk < 1
        · go_wp2_with fail
          refine HF.out.mono ?_
          rintro e w4 ⟨rfl, hR4, hg4⟩
          rw [Leb.failed_zero] at hR4
          have HE4 := hide (HE3.out.call hR4 hg4)
          have HT4 : Hid (Took endP zi di (⟨0, 0, 0, 0⟩ : En) zk 20) := hide (by have := took_end0 HTk.out (by omega) (⟨0, 0, 0, 0⟩ : En); rw [Leb.failed_zero] at this; exact this)
          clear y0 y1 y2 y3 y4 q0 q1 q2 q3 q4 r0 r1 rf0 rf1 HE3 HF hR4 hg4
          obtain ⟨uu, hrow, _⟩ := HE4.out.box
          obtain ⟨y0, y1, y2, y3, y4⟩ := box5' hrow
          clear hrow
          go_wp2_with fail
          refine (takes_any ⟨kk, 0, 0, 0⟩ _).mono ?_
          rintro r wt ⟨rfl, hBt⟩
          have HEt := hide (HE4.out.call (HE4.out.st.rdr.below hBt) (Lb.grownBy_below hBt (some p)))
          simp only [htk]
          clear y0 y1 y2 y3 y4 HE4 hBt
          obtain ⟨uu, hrow, _⟩ := HEt.out.box
          obtain ⟨y0, y1, y2, y3, y4⟩ := box5' hrow
          clear hrow
          have HC := hide (refBelow_t p b zk 20 4096 wt HEt.out.st.rdr (by omega) (by omega))
          go_wp2_with fail
          refine HC.out.mono ?_
          rintro e w11a ⟨x11, u, zs11, d11, rfl, ⟨rfl, hx0, hx1⟩, hT11, hR1, hg1⟩
          have HT11 := hide hT11
          have hE1 := HEt.out.call hR1 hg1
          have HE11 := hide (hE1.set (k := 3) (e' := ⟨kk, 0, x11, 0⟩) (v := .int .i64 x11) (fun _ => rfl))
          obtain ⟨uu, hrow, _⟩ := hE1.box
          have hfz : w11a.frozen? ⟨wr.heap.size, 3, none⟩ = false := frozen_of_row _ _ _ _ _ hrow
          clear y0 y1 y2 y3 y4
          obtain ⟨q0, q1, q2, q3, q4⟩ := box5' hrow
          obtain ⟨uu2, hrow2, _⟩ := HE11.out.box
          obtain ⟨y0, y1, y2, y3, y4⟩ := box5' hrow2
          clear HC HEt hR1 hg1 hE1 hrow hrow2 hT11 hx0 hx1
          obtain rfl : 20 = d11 := (took_ne HT11.out (by decide)).symm
          have hTb := took_blk HTi.out (Took.any (HT4.out) (by decide) _ _ : Took endP zi di ⟨kk, 0, x11, 0⟩ zs11 20)
          obtain ⟨uu, hrow, hOi⟩ := HE11.out.box
          have hst := HE11.out.st
          obtain ⟨W9, hW9⟩ : ∃ W, W = (w11a.setCell ⟨wr.heap.size, 3, none⟩ (.int .i64 x11)) := ⟨_, rfl⟩
          obtain ⟨ba, bn, bc, rfl⟩ : ∃ ao n cap, uu = .slice ao n cap := by obtain ⟨_, _, h2, _⟩ := hOi; exact owns_slice h2
          clear y0 y1 y2 y3 y4
          obtain ⟨y0, y1, y2, y3, y4⟩ := box5' hrow
          rw [← hW9] at hrow hOi hst
          have hbx := bel1' W9 (.cells #[.slice ba bn bc, .int .u8 kk, .int .i64 0, .int .i64 x11, .int .i64 0] 82)
          have hnx := heap_alloc_new W9 (.cells #[.slice ba bn bc, .int .u8 kk, .int .i64 0, .int .i64 x11, .int .i64 0] 82)
          have hO9 : BlksO W0.heap.size (W9.alloc (.cells #[.slice ba bn bc, .int .u8 kk, .int .i64 0, .int .i64 x11, .int .i64 0] 82)) (.slice oa on oc) l := (HO.out.kept hst.grown HS.out.pb.1).kept (Lb.grownBy_below hbx (some p)) HS.out.pb.1
          have hA9 : InssO W0.heap.size (W9.alloc (.cells #[.slice ba bn bc, .int .u8 kk, .int .i64 0, .int .i64 x11, .int .i64 0] 82)) (.slice ba bn bc) is := (InssO.mono hOi HS.out.sz).kept (Lb.grownBy_below hbx (some p)) HS.out.pb.1
          have hS9 : St8 W0 p b (W9.alloc (.cells #[.slice ba bn bc, .int .u8 kk, .int .i64 0, .int .i64 x11, .int .i64 0] 82)) zs11 20 := (HS.out.call hst.rdr hst.grown).alloc _
          have hll : l.length ≤ 1000000 := by omega
          have hBB : W0.heap.size ≤ (W9.alloc (.cells #[.slice ba bn bc, .int .u8 kk, .int .i64 0, .int .i64 x11, .int .i64 0] 82)).heap.size := hS9.sz
          have hown : ∀ q, (Value.slice oa on oc).ownBlock = some q → W0.heap.size ≤ q := fun q hq => by obtain ⟨_, _, h2, _⟩ := hO9; exact (h2.lt q hq).1
          have HS9 := hide hS9
          have HTb := hide hTb
          rw [hW9] at hnx hO9 hA9 hBB HS9
          have hns : (w11a.setCell ⟨wr.heap.size, 3, none⟩ (.int .i64 x11)).heap.size = w11a.heap.size := by simp [World.setCell]
          rw [hns] at hnx
          have hjb : (j : Int) ≤ 17 := by omega
          clear hTb hrow hOi hst hW9 hbx hS9 HE11 HO HS hns
          go_wp2_with (at_builtin; go_must (refine snoc_blk (x := ⟨is, ⟨kk, 0, x11, 0⟩⟩) (B := W0.heap.size) (.tmp 178) (.tmp 180) rfl rfl hO9 hnx hA9 rfl rfl hll hBB ?_))
          intro v' w99 hO hg
          have hS := HS9.out.new hg hown
          obtain ⟨va, vn, vc, rfl⟩ : ∃ ao n cap, v' = .slice ao n cap := by obtain ⟨_, _, h2, _⟩ := hO; exact owns_slice h2
          have HO := hide hO
          have HS := hide hS
          have hC2 : Hid (∀ l' zq dq, Took (repP (blkP most) (n - (j + 1))) zs11 20 l' zq dq → Took (repP (blkP most) n) ys c ((l ++ [⟨is, ⟨kk, 0, x11, 0⟩⟩]) ++ l') zq dq) := by
            intro l' zq dq hh
            have := hC.out (⟨is, ⟨kk, 0, x11, 0⟩⟩ :: l') zq dq (by rw [HM.out]; exact Took.cons HTb.out hh)
            simpa using this
          clear hnx hO9 hA9 HS9 hO hS hg hown hC HTb y0 y1 y2 y3 y4
          go_wp2_with fail
          refine ⟨⟨j + 1, l ++ [⟨is, ⟨kk, 0, x11, 0⟩⟩], .slice va vn vc, zs11, 20, _, _, _, _, _, by omega, by simp [hjl], ⟨rfl, rfl, rfl, rfl, rfl, by go_num, rfl, rfl, rfl, rfl, rfl, rfl⟩, HO.out, HS.out, hC2⟩, ?_⟩
          simp [intOf, Act.eval]
          omega
        · have hhi : 3 < kk := by omega
          go_wp2_with fail
          refine HF.out.mono ?_
          rintro e w4 ⟨rfl, hR4, hg4⟩
          rw [Leb.failed_zero] at hR4
          have HE4 := hide (HE3.out.call hR4 hg4)
          have HT4 : Hid (Took endP zi di (⟨0, 0, 0, 0⟩ : En) zk 20) := hide (by have := took_end0 HTk.out (by omega) (⟨0, 0, 0, 0⟩ : En); rw [Leb.failed_zero] at this; exact this)
          clear y0 y1 y2 y3 y4 q0 q1 q2 q3 q4 r0 r1 rf0 rf1 HE3 HF hR4 hg4
          obtain ⟨uu, hrow, _⟩ := HE4.out.box
          obtain ⟨y0, y1, y2, y3, y4⟩ := box5' hrow
          clear hrow
          go_wp2_with fail
          refine (takes_any ⟨kk, 0, 0, 0⟩ _).mono ?_
          rintro r wt ⟨rfl, hBt⟩
          have HEt := hide (HE4.out.call (HE4.out.st.rdr.below hBt) (Lb.grownBy_below hBt (some p)))
          simp only [htk]
          clear y0 y1 y2 y3 y4 HE4 hBt
          obtain ⟨uu, hrow, _⟩ := HEt.out.box
          obtain ⟨y0, y1, y2, y3, y4⟩ := box5' hrow
          clear hrow
          have HC := hide (refBelow_t p b zk 20 4096 wt HEt.out.st.rdr (by omega) (by omega))
          go_wp2_with fail
          refine HC.out.mono ?_
          rintro e w12a ⟨x12, u, zs12, d12, rfl, ⟨rfl, hx0, hx1⟩, hT12, hR1, hg1⟩
          have HT12 := hide hT12
          have hE1 := HEt.out.call hR1 hg1
          have HE12 := hide (hE1.set (k := 3) (e' := ⟨kk, 0, x12, 0⟩) (v := .int .i64 x12) (fun _ => rfl))
          obtain ⟨uu, hrow, _⟩ := hE1.box
          have hfz : w12a.frozen? ⟨wr.heap.size, 3, none⟩ = false := frozen_of_row _ _ _ _ _ hrow
          clear y0 y1 y2 y3 y4
          obtain ⟨q0, q1, q2, q3, q4⟩ := box5' hrow
          obtain ⟨uu2, hrow2, _⟩ := HE12.out.box
          obtain ⟨y0, y1, y2, y3, y4⟩ := box5' hrow2
          clear HC HEt hR1 hg1 hE1 hrow hrow2 hT12 hx0 hx1
          obtain rfl : 20 = d12 := (took_ne HT12.out (by decide)).symm
          have hTb := took_blk HTi.out (Took.any (HT4.out) (by decide) _ _ : Took endP zi di ⟨kk, 0, x12, 0⟩ zs12 20)
          obtain ⟨uu, hrow, hOi⟩ := HE12.out.box
          have hst := HE12.out.st
          obtain ⟨W9, hW9⟩ : ∃ W, W = (w12a.setCell ⟨wr.heap.size, 3, none⟩ (.int .i64 x12)) := ⟨_, rfl⟩
          obtain ⟨ba, bn, bc, rfl⟩ : ∃ ao n cap, uu = .slice ao n cap := by obtain ⟨_, _, h2, _⟩ := hOi; exact owns_slice h2
          clear y0 y1 y2 y3 y4
          obtain ⟨y0, y1, y2, y3, y4⟩ := box5' hrow
          rw [← hW9] at hrow hOi hst
          have hbx := bel1' W9 (.cells #[.slice ba bn bc, .int .u8 kk, .int .i64 0, .int .i64 x12, .int .i64 0] 82)
          have hnx := heap_alloc_new W9 (.cells #[.slice ba bn bc, .int .u8 kk, .int .i64 0, .int .i64 x12, .int .i64 0] 82)
          have hO9 : BlksO W0.heap.size (W9.alloc (.cells #[.slice ba bn bc, .int .u8 kk, .int .i64 0, .int .i64 x12, .int .i64 0] 82)) (.slice oa on oc) l := (HO.out.kept hst.grown HS.out.pb.1).kept (Lb.grownBy_below hbx (some p)) HS.out.pb.1
          have hA9 : InssO W0.heap.size (W9.alloc (.cells #[.slice ba bn bc, .int .u8 kk, .int .i64 0, .int .i64 x12, .int .i64 0] 82)) (.slice ba bn bc) is := (InssO.mono hOi HS.out.sz).kept (Lb.grownBy_below hbx (some p)) HS.out.pb.1
          have hS9 : St8 W0 p b (W9.alloc (.cells #[.slice ba bn bc, .int .u8 kk, .int .i64 0, .int .i64 x12, .int .i64 0] 82)) zs12 20 := (HS.out.call hst.rdr hst.grown).alloc _
          have hll : l.length ≤ 1000000 := by omega
          have hBB : W0.heap.size ≤ (W9.alloc (.cells #[.slice ba bn bc, .int .u8 kk, .int .i64 0, .int .i64 x12, .int .i64 0] 82)).heap.size := hS9.sz
          have hown : ∀ q, (Value.slice oa on oc).ownBlock = some q → W0.heap.size ≤ q := fun q hq => by obtain ⟨_, _, h2, _⟩ := hO9; exact (h2.lt q hq).1
          have HS9 := hide hS9
          have HTb := hide hTb
          rw [hW9] at hnx hO9 hA9 hBB HS9
          have hns : (w12a.setCell ⟨wr.heap.size, 3, none⟩ (.int .i64 x12)).heap.size = w12a.heap.size := by simp [World.setCell]
          rw [hns] at hnx
          have hjb : (j : Int) ≤ 17 := by omega
          clear hTb hrow hOi hst hW9 hbx hS9 HE12 HO HS hns
          go_wp2_with (at_builtin; go_must (refine snoc_blk (x := ⟨is, ⟨kk, 0, x12, 0⟩⟩) (B := W0.heap.size) (.tmp 178) (.tmp 180) rfl rfl hO9 hnx hA9 rfl rfl hll hBB ?_))
          intro v' w99 hO hg
          have hS := HS9.out.new hg hown
          obtain ⟨va, vn, vc, rfl⟩ : ∃ ao n cap, v' = .slice ao n cap := by obtain ⟨_, _, h2, _⟩ := hO; exact owns_slice h2
          have HO := hide hO
          have HS := hide hS
          have hC2 : Hid (∀ l' zq dq, Took (repP (blkP most) (n - (j + 1))) zs12 20 l' zq dq → Took (repP (blkP most) n) ys c ((l ++ [⟨is, ⟨kk, 0, x12, 0⟩⟩]) ++ l') zq dq) := by
            intro l' zq dq hh
            have := hC.out (⟨is, ⟨kk, 0, x12, 0⟩⟩ :: l') zq dq (by rw [HM.out]; exact Took.cons HTb.out hh)
            simpa using this
          clear hnx hO9 hA9 HS9 hO hS hg hown hC HTb y0 y1 y2 y3 y4
          go_wp2_with fail
          refine ⟨⟨j + 1, l ++ [⟨is, ⟨kk, 0, x12, 0⟩⟩], .slice va vn vc, zs12, 20, _, _, _, _, _, by omega, by simp [hjl], ⟨rfl, rfl, rfl, rfl, rfl, by go_num, rfl, rfl, rfl, rfl, rfl, rfl⟩, HO.out, HS.out, hC2⟩, ?_⟩
          simp [intOf, Act.eval]
          omega
      · have hb0 : (dk == 0) = false := by simp [hd1]
        go_wp2_with fail
        refine (takes_any ⟨kk, 0, 0, 0⟩ _).mono ?_
        rintro r wt ⟨rfl, hBt⟩
        have HEt := hide (HE3.out.call (HE3.out.st.rdr.below hBt) (Lb.grownBy_below hBt (some p)))
        simp only [htk]
        clear y0 y1 y2 y3 y4 HE3 hBt
        obtain ⟨uu, hrow, _⟩ := HEt.out.box
        obtain ⟨y0, y1, y2, y3, y4⟩ := box5' hrow
        clear hrow
        have HC := hide (refBelow_t p b zk dk 4096 wt HEt.out.st.rdr (by omega) (by omega))
        go_wp2_with fail
        refine HC.out.mono ?_
        rintro e w13a ⟨x13, u, zs13, d13, rfl, ⟨rfl, hx0, hx1⟩, hT13, hR1, hg1⟩
        have HT13 := hide hT13
        have hE1 := HEt.out.call hR1 hg1
        have HE13 := hide (hE1.set (k := 3) (e' := ⟨kk, 0, x13, 0⟩) (v := .int .i64 x13) (fun _ => rfl))
        obtain ⟨uu, hrow, _⟩ := hE1.box
        have hfz : w13a.frozen? ⟨wr.heap.size, 3, none⟩ = false := frozen_of_row _ _ _ _ _ hrow
        clear y0 y1 y2 y3 y4
        obtain ⟨q0, q1, q2, q3, q4⟩ := box5' hrow
        obtain ⟨uu2, hrow2, _⟩ := HE13.out.box
        obtain ⟨y0, y1, y2, y3, y4⟩ := box5' hrow2
        clear HC HEt hR1 hg1 hE1 hrow hrow2 hT13 hx0 hx1
        obtain rfl : dk = d13 := (took_ne HT13.out (by exact hd1)).symm
        have hTb := took_blk HTi.out (Took.any (took_endF HTk.out hd1 ⟨0, 0, 0, 0⟩) (by exact hd1) _ _ : Took endP zi di ⟨kk, 0, x13, 0⟩ zs13 dk)
        obtain ⟨uu, hrow, hOi⟩ := HE13.out.box
        have hst := HE13.out.st
        obtain ⟨W9, hW9⟩ : ∃ W, W = (w13a.setCell ⟨wr.heap.size, 3, none⟩ (.int .i64 x13)) := ⟨_, rfl⟩
        obtain ⟨ba, bn, bc, rfl⟩ : ∃ ao n cap, uu = .slice ao n cap := by obtain ⟨_, _, h2, _⟩ := hOi; exact owns_slice h2
        clear y0 y1 y2 y3 y4
        obtain ⟨y0, y1, y2, y3, y4⟩ := box5' hrow
        rw [← hW9] at hrow hOi hst
        have hbx := bel1' W9 (.cells #[.slice ba bn bc, .int .u8 kk, .int .i64 0, .int .i64 x13, .int .i64 0] 82)
        have hnx := heap_alloc_new W9 (.cells #[.slice ba bn bc, .int .u8 kk, .int .i64 0, .int .i64 x13, .int .i64 0] 82)
        have hO9 : BlksO W0.heap.size (W9.alloc (.cells #[.slice ba bn bc, .int .u8 kk, .int .i64 0, .int .i64 x13, .int .i64 0] 82)) (.slice oa on oc) l := (HO.out.kept hst.grown HS.out.pb.1).kept (Lb.grownBy_below hbx (some p)) HS.out.pb.1
        have hA9 : InssO W0.heap.size (W9.alloc (.cells #[.slice ba bn bc, .int .u8 kk, .int .i64 0, .int .i64 x13, .int .i64 0] 82)) (.slice ba bn bc) is := (InssO.mono hOi HS.out.sz).kept (Lb.grownBy_below hbx (some p)) HS.out.pb.1
        have hS9 : St8 W0 p b (W9.alloc (.cells #[.slice ba bn bc, .int .u8 kk, .int .i64 0, .int .i64 x13, .int .i64 0] 82)) zs13 dk := (HS.out.call hst.rdr hst.grown).alloc _
        have hll : l.length ≤ 1000000 := by omega
        have hBB : W0.heap.size ≤ (W9.alloc (.cells #[.slice ba bn bc, .int .u8 kk, .int .i64 0, .int .i64 x13, .int .i64 0] 82)).heap.size := hS9.sz
        have hown : ∀ q, (Value.slice oa on oc).ownBlock = some q → W0.heap.size ≤ q := fun q hq => by obtain ⟨_, _, h2, _⟩ := hO9; exact (h2.lt q hq).1
        have HS9 := hide hS9
        have HTb := hide hTb
        rw [hW9] at hnx hO9 hA9 hBB HS9
        have hns : (w13a.setCell ⟨wr.heap.size, 3, none⟩ (.int .i64 x13)).heap.size = w13a.heap.size := by simp [World.setCell]
        rw [hns] at hnx
        have hjb : (j : Int) ≤ 17 := by omega
        clear hTb hrow hOi hst hW9 hbx hS9 HE13 HO HS hns
        go_wp2_with (at_builtin; go_must (refine snoc_blk (x := ⟨is, ⟨kk, 0, x13, 0⟩⟩) (B := W0.heap.size) (.tmp 178) (.tmp 180) rfl rfl hO9 hnx hA9 rfl rfl hll hBB ?_))
        intro v' w99 hO hg
        have hS := HS9.out.new hg hown
        obtain ⟨va, vn, vc, rfl⟩ : ∃ ao n cap, v' = .slice ao n cap := by obtain ⟨_, _, h2, _⟩ := hO; exact owns_slice h2
        have HO := hide hO
        have HS := hide hS
        have hC2 : Hid (∀ l' zq dq, Took (repP (blkP most) (n - (j + 1))) zs13 dk l' zq dq → Took (repP (blkP most) n) ys c ((l ++ [⟨is, ⟨kk, 0, x13, 0⟩⟩]) ++ l') zq dq) := by
          intro l' zq dq hh
          have := hC.out (⟨is, ⟨kk, 0, x13, 0⟩⟩ :: l') zq dq (by rw [HM.out]; exact Took.cons HTb.out hh)
          simpa using this
        clear hnx hO9 hA9 HS9 hO hS hg hown hC HTb y0 y1 y2 y3 y4
        go_wp2_with fail
        refine ⟨⟨j + 1, l ++ [⟨is, ⟨kk, 0, x13, 0⟩⟩], .slice va vn vc, zs13, dk, _, _, _, _, _, by omega, by simp [hjl], ⟨rfl, rfl, rfl, rfl, rfl, by go_num, rfl, rfl, rfl, rfl, rfl, rfl⟩, HO.out, HS.out, hC2⟩, ?_⟩
        simp [intOf, Act.eval]
        omega
    · have hb0 : (d == 0) = false := by simp [hd]
      have hC2 := hide (hC.out [] zs d (Took.stay _ hd _ _))
      simp only [List.append_nil] at hC2
      clear hC hO hS
      go_wp2_with fail
      exact HK.out _ _ l zs d _ _ _ _ _ _ _ ⟨rfl, rfl, rfl, rfl, rfl, rfl, rfl, rfl, rfl, rfl, rfl, rfl⟩ HO.out HS.out hC2.out
  · have hlt' : ¬ (j : Int) < (n : Int) := by omega
    have hC2 := hide (hC.out [] zs d (by rw [show n - j = 0 by omega]; exact Took.pure _ _ _))
    simp only [List.append_nil] at hC2
    clear hC hO hS
    go_wp2_with fail
    exact HK.out _ _ l zs d _ _ _ _ _ _ _ ⟨rfl, rfl, rfl, rfl, rfl, rfl, rfl, rfl, rfl, rfl, rfl, rfl⟩ HO.out HS.out hC2.out
set_option maxHeartbeats 2000000 in
set_option maxRecDepth 100000 in
theorem readBlocks_any (most p b : Nat) (xs : List Int) (code : Int) (w : World) (h : Lb.RdrAt w p b xs code) (hb : b < w.heap.size) (hm : most ≤ 60000) :
    Calls Try.prog 47 #[.pointer (some ⟨p, 0, none⟩), .int .i64 most] w (RdPost w p b (allP most) xs code (fun l u W' => BlksO w.heap.size W' u l)) := by
  have hp := h.lt
  have HC := hide (refBelow_t p b xs code 17 w h (by omega) (by omega))
  clear h
  go_enter Try.func47, Try.ntmps47
  go_wp2_with fail
  refine HC.out.mono ?_
  rintro e w1 ⟨n, u, ys, d, rfl, ⟨rfl, hn0, hn1⟩, hT, hR, hg⟩
  obtain ⟨n, rfl⟩ := Int.eq_ofNat_of_zero_le hn0
  have HT := hide hT
  have HS : Hid (St8 w p b w1 ys d) := hide ⟨hR, hg, ⟨hp, hb⟩⟩
  have hn17 : n ≤ 16 := by omega
  clear hn0 hn1 HC hT hR hg
  go_wp2_with fail
  refine blks_ok ⟨rfl, rfl, rfl, rfl, rfl, rfl, rfl, rfl, rfl, rfl, rfl, rfl⟩ HS.out hn17 hm ?_
  intro a' w2 l zs d2 ov x7 x8 x9 x10 x11 x12 hA hO hS2 hTl
  obtain ⟨ρ, rfl⟩ := hA.lit
  obtain ⟨oa, on, oc, rfl⟩ : ∃ ao n cap, ov = .slice ao n cap := by obtain ⟨_, _, h2, _⟩ := hO; exact owns_slice h2
  have hTT := hide (took_all (Took.bind HT.out (by simpa using hTl) : Took (listP (blkP most) 16) xs code l zs d2))
  have HO := hide hO
  have HS2 := hide hS2
  clear hA hO hS2 hTl HS
  simp only [Exit.inBlock]
  go_wp2_with fail
  go_ret
  exact ⟨l, _, zs, d2, rfl, HO.out, hTT.out, HS2.out.rdr, HS2.out.grown⟩
end Go.Proofs.Ytbjnhicikkjadaa
