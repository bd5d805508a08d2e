/- wire.ReadFunc and wire.ReadCode: a function, code out of bytes. -/
import Derived.Test.YtbjnhicikkjadaaTb
import Derived.Test.YtbjnhicikkjadaaWf
namespace Go.Proofs.Ytbjnhicikkjadaa
open Go.RowKit Ir Wire

theorem took_fun {xs r1 r2 r3 : List Int} {c0 c1 c2 c3 p v : Int} {bs : List Blk} (h1 : Took (belP 4096) xs c0 p r1 c1) (h2 : Took (belP 4096) r1 c1 v r2 c2) (h3 : Took (allP 32) r2 c2 bs r3 c3) : Took funP xs c0 ⟨p, v, bs⟩ r3 c3 :=
  Took.bind h1 (Took.bind h2 (Took.bind h3 (Took.pure _ _ _)))
theorem took_cod {xs r1 r2 r3 r4 : List Int} {c0 c1 c2 c3 c4 p v s : Int} {bs : List Blk} (h1 : Took (belP 4096) xs c0 p r1 c1) (h2 : Took (belP 4096) r1 c1 v r2 c2) (h3 : Took (belP 4096) r2 c2 s r3 c3) (h4 : Took (allP 400) r3 c3 bs r4 c4) : Took codP xs c0 ⟨p, v, s, bs⟩ r4 c4 :=
  Took.bind h1 (Took.bind h2 (Took.bind h3 (Took.bind h4 (Took.pure _ _ _))))
/-- What a whole reading answers. -/
theorem rd_fault {α : Type} {z a : α} {P : List Int → Pr α} {ok : α → Bool} {xs ys : List Int} {d : Int} (h : Took P xs 0 a ys d) (he : Leb.ended ys d ≠ 0) : rd z P ok xs = (z, Leb.ended ys d) := by
  rcases h with ⟨_, h, rfl⟩ | ⟨_, h, hd⟩ | ⟨h, _⟩
  · unfold rd
    rw [h]
    have hy : ys ≠ [] := by
      intro e
      subst e
      exact he rfl
    have hl : 0 < ys.length := List.length_pos_iff.2 hy
    have e2 : Leb.ended ys 0 = 5 := by unfold Leb.ended; rw [if_pos hl]; rfl
    rw [e2]
    simp [hy]
  · unfold rd
    rw [h]
    have e2 : Leb.ended ys d = d := by
      unfold Leb.ended
      rw [Leb.failed_ne hd]
      split <;> rfl
    rw [e2]
  · exact absurd rfl h
theorem rd_end {α : Type} {a : α} {P : List Int → Pr α} {xs ys : List Int} {d : Int} (h : Took P xs 0 a ys d) (he : Leb.ended ys d = 0) : P xs = .inl (a, []) := by
  have hd : d = 0 := by
    by_cases e : d = 0
    · exact e
    · exfalso
      unfold Leb.ended at he
      rw [Leb.failed_ne e] at he
      split at he <;> exact e he
  subst hd
  have hy : ys = [] := by
    cases ys with
    | nil => rfl
    | cons y ys => simp [Leb.ended, Leb.failed] at he
  subst hy
  rcases h with ⟨_, h, _⟩ | ⟨_, _, h⟩ | ⟨h, _⟩
  · exact h
  · exact absurd rfl h
  · exact absurd rfl h
theorem rd_ok {α : Type} {z a : α} {P : List Int → Pr α} {ok : α → Bool} {xs ys : List Int} {d : Int} (h : Took P xs 0 a ys d) (he : Leb.ended ys d = 0) (ho : ok a = true) : rd z P ok xs = (a, 0) := rd_of (rd_end h he) ho
theorem rd_shape {α : Type} {z a : α} {P : List Int → Pr α} {ok : α → Bool} {xs ys : List Int} {d : Int} (h : Took P xs 0 a ys d) (he : Leb.ended ys d = 0) (ho : ok a = false) : rd z P ok xs = (z, 30) := by
  unfold rd
  rw [rd_end h he]
  simp [ho]
def zF : Fun := ⟨0, 0, []⟩
def zC : Cod := ⟨0, 0, 0, []⟩
def okF (F : Fun) : Bool := (chk F).1 == 0
def okC (C : Cod) : Bool := (mchk C).1 == 0
theorem build24 (W : World) : (Instr.build 24 #[]).run Try.prog W = .ok (.agg #[.int .i64 0, .int .i64 0, .slice none 0 0]) W := by kernel_rfl
theorem build42 (W : World) : (Instr.build 42 #[]).run Try.prog W = .ok (.agg #[.int .i64 0, .int .i64 0, .int .i64 0, .slice none 0 0]) W := by kernel_rfl
set_option maxHeartbeats 2000000 in
set_option maxRecDepth 100000 in
theorem readFunc_any (v : Value) (xs : List Int) (w : World) (hv : Lb.Byt w v xs) (hx : xs.length ≤ 1000000000) :
    Calls Try.prog 21 #[v] w fun e w' => ∃ u, e = .returned (.tuple #[.agg #[.int .i64 (rd zF funP okF xs).1.p, .int .i64 (rd zF funP okF xs).1.v, u], .int .i64 (rd zF funP okF xs).2]) ∧ BlksO w.heap.size w' u (rd zF funP okF xs).1.bs ∧ Below w.heap.size w w' := by
  have hB0 := bel1' w (.cells #[.int .i64 0, .int .i64 0, .slice none 0 0] 24)
  have hn := heap_alloc_new w (.cells #[.int .i64 0, .int .i64 0, .slice none 0 0] 24)
  have HN := hide (Lb.new_any v xs (w.alloc (.cells #[.int .i64 0, .int .i64 0, .slice none 0 0] 24)) (hv.below hB0) hx)
  have hz := build24
  obtain ⟨ao, nv, cap, rfl⟩ := bysnd _ _ _ hv
  clear hv hx
  go_enter Try.func21, Try.ntmps21
  go_wp2_with fail
  refine HN.out.mono ?_
  rintro e w1 ⟨p, b, rfl, hp, hb, hb1, hR, hB1⟩
  have hr := (hB1.block _ (row_lt hn)).trans hn
  have hBel := bel_of hB0 hB1
  have hp1 : w.heap.size < p := by simp at hp; omega
  have hbw : w.heap.size < b := by simp at hb; omega
  have hpl := hR.lt
  have HF := hide (fieldsOf_any p w1)
  clear HN hB1 hB0 hn hp hb
  go_wp2_with fail
  refine HF.out.mono ?_
  rintro e w2 ⟨rfl, hq, hqs, hB2⟩
  have hr2 := (hB2.block _ (row_lt hr)).trans hr
  have hBel2 := hBel.trans (hB2.mono hBel.size)
  have hR2 := hR.below hB2
  have hz1 := hBel2.size
  have hw1 := hB2.size
  clear HF hr hBel hR hB2
  have hG2 := Lb.grownBy_refl w2 (some p)
  have HC := hide (field_t p b w1.heap.size xs 0 w2 hR2 hq)
  go_wp2_with fail
  refine HC.out.mono ?_
  rintro e w3 ⟨x0, u0, ys3, d3, rfl, ⟨rfl, hx00, hx01⟩, hT3, hR3, hg3⟩
  have hq3 := grown_row hg3 hq (by omega)
  have hr3 := grown_row hg3 hr2 (by omega)
  have hG3 := Lb.grownBy_trans hG2 hg3
  clear HC hR2 hq hr2 hG2 hg3
  have HC := hide (field_t p b w1.heap.size ys3 d3 w3 hR3 hq3)
  go_wp2_with fail
  refine HC.out.mono ?_
  rintro e w4 ⟨x1, u1, ys4, d4, rfl, ⟨rfl, hx10, hx11⟩, hT4, hR4, hg4⟩
  have hq4 := grown_row hg4 hq3 (by omega)
  have hr4 := grown_row hg4 hr3 (by omega)
  have hG4 := Lb.grownBy_trans hG3 hg4
  clear HC hR3 hq3 hr3 hG3 hg4
  have HC := hide (takeBlocks_any 32 p b ys4 d4 w4 hR4 (by have := hG4.size; omega) (by omega))
  go_wp2_with fail
  refine HC.out.mono ?_
  rintro e w5 ⟨bs, u, ys5, d5, rfl, hO, hT5, hR5, hg5⟩
  have hr5 := grown_row hg5 hr4 (by omega)
  have hG5 := Lb.grownBy_trans hG4 hg5
  have hT := took_fun hT3 hT4 hT5
  have hpB : p < w4.heap.size := by have := hG4.size; omega
  have hwB : w.heap.size ≤ w4.heap.size := by have := hG4.size; omega
  have hpK : p < w5.heap.size := Nat.lt_of_lt_of_le hpB hg5.size
  have hOB : BlksO w4.heap.size w5 u bs := hO
  obtain ⟨au, nu, cu, rfl⟩ : ∃ ao n cap, u = .slice ao n cap := (by obtain ⟨_, _, h2, _⟩ := hOB; exact owns_slice h2)
  have hBk : Below w.heap.size w w5 := hBel2.grown hG5 hz1 (fun q hq => by simp at hq; omega)
  clear HC hR4 hr4 hG4 hg5 hO hT3 hT4 hT5 hq4
  -- the box of what was read
  have hbx := bel1' w5 (.cells #[.int .i64 x0, .int .i64 x1, .slice au nu cu] 24)
  have hnb := heap_alloc_new w5 (.cells #[.int .i64 x0, .int .i64 x1, .slice au nu cu] 24)
  have hrb := (hbx.block _ (row_lt hr5)).trans hr5
  have hRb := hR5.below hbx
  have hOb := hOB.kept (Lb.grownBy_below hbx (some p)) hpB
  have hBb := hBk.trans (hbx.mono hBk.size)
  have HE := hide (Lb.end_any p b ys5 d5 (w5.alloc (.cells #[.int .i64 x0, .int .i64 x1, .slice au nu cu] 24)) hRb)
  have hsk := hBk.size
  clear hr5 hR5 hOB hbx hRb hG5 hBel2
  go_wp2_with fail
  refine HE.out.mono ?_
  rintro e we ⟨rfl, hRe, hge⟩
  have hre := grown_row hge hrb (by omega)
  have hnbe := grown_row hge hnb (by omega)
  have hOe := hOb.kept hge hpB
  have hBe : Below w.heap.size w we := hBb.grown hge hBb.size (fun q hq => by simp at hq; omega)
  have hse := hBe.size
  clear HE hRe hge hrb hnb hOb hBb
  obtain ⟨ee, hee⟩ : ∃ e, e = Leb.ended ys5 d5 := ⟨_, rfl⟩
  rw [← hee]
  obtain ⟨r0, r1, r2⟩ := box3 hre
  have g0 : we.frozen? ⟨w.heap.size, 0, none⟩ = false := frozen_of_row _ _ _ _ _ hre
  have g1 : we.frozen? ⟨w.heap.size, 1, none⟩ = false := frozen_of_row _ _ _ _ _ hre
  have g2 : we.frozen? ⟨w.heap.size, 2, none⟩ = false := frozen_of_row _ _ _ _ _ hre
  by_cases h0 : ee = 0
  · subst h0
    have he := hide hee.symm
    obtain ⟨c0, c1, c2⟩ := box3 hnbe
    have HK := hide (check_any (⟨x0, x1, bs⟩ : Fun) (.agg #[.int .i64 x0, .int .i64 x1, .slice au nu cu]) we ⟨_, rfl, hOe.v⟩)
    obtain ⟨c, hc⟩ : ∃ c, c = chk (⟨x0, x1, bs⟩ : Fun) := ⟨_, rfl⟩
    rw [← hc] at HK
    obtain ⟨z0, z1, z2⟩ := c
    have hf := run_field37 (.int .i64 z0) (.int .i64 z1) (.int .i64 z2)
    have HCC := hide hc
    clear hc hee
    unfold faultV at HK
    go_wp2_with fail
    refine HK.out.mono ?_
    rintro e wk ⟨rfl, hBk2⟩
    have hrk := (hBk2.block _ (row_lt hre)).trans hre
    have hnk := (hBk2.block _ (row_lt hnbe)).trans hnbe
    have hOk := BlksO.mono (B' := w.heap.size) (hOe.kept (Lb.grownBy_below hBk2 (some p)) hpB) hwB
    have hBK := hBe.trans (hBk2.mono hBe.size)
    clear HK hre hnbe hOe hBe hBk2 r0 g0 c0 r1 g1 c1 r2 g2 c2
    obtain ⟨r0, r1, r2⟩ := box3 hrk
    have g0 : wk.frozen? ⟨w.heap.size, 0, none⟩ = false := frozen_of_row _ _ _ _ _ hrk
    have g1 : wk.frozen? ⟨w.heap.size, 1, none⟩ = false := frozen_of_row _ _ _ _ _ hrk
    have g2 : wk.frozen? ⟨w.heap.size, 2, none⟩ = false := frozen_of_row _ _ _ _ _ hrk
    obtain ⟨c0, c1, c2⟩ := box3 hnk
    by_cases hz0 : z0 = 0
    · subst hz0
      have ho : okF (⟨x0, x1, bs⟩ : Fun) = true := by unfold okF; rw [← HCC.out]; rfl
      have hrd := hide (rd_ok (z := zF) (ok := okF) hT he.out ho)
      have hre2 := sbox3 (.int .i64 x0) (.int .i64 x1) (.slice au nu cu) hrk
      have hBe2 := hBK.grown (gbox3 _ w.heap.size (.int .i64 x0) (.int .i64 x1) (.slice au nu cu)) hBK.size (fun q hq => by simp at hq; omega)
      have hOe2 := BlksO.keeps hOk (kbox3 (.int .i64 x0) (.int .i64 x1) (.slice au nu cu) hrk (by decide))
      obtain ⟨y0, y1, y2⟩ := box3 hre2
      go_wp2_with fail
      refine bodyPost_ret (v := .tuple #[.agg #[.int .i64 x0, .int .i64 x1, .slice au nu cu], .int .i64 0]) (by simp [results, Try.results21, go_sem, y0, y1, y2]) rfl ?_
      rw [hrd.out]
      exact ⟨_, rfl, hOe2, hBe2⟩
    · have hb0 : (z0 == 0) = false := by simp [hz0]
      have ho : okF (⟨x0, x1, bs⟩ : Fun) = false := by unfold okF; rw [← HCC.out]; exact hb0
      have hrd := hide (rd_shape (z := zF) (ok := okF) hT he.out ho)
      clear hz0
      have hre2 := sbox3 (.int .i64 0) (.int .i64 0) (.slice none 0 0) hrk
      have hBe2 := hBK.grown (gbox3 _ w.heap.size (.int .i64 0) (.int .i64 0) (.slice none 0 0)) hBK.size (fun q hq => by simp at hq; omega)
      obtain ⟨y0, y1, y2⟩ := box3 hre2
      go_wp2_with fail
      refine bodyPost_ret (v := .tuple #[.agg #[.int .i64 0, .int .i64 0, .slice none 0 0], .int .i64 30]) (by simp [results, Try.results21, go_sem, y0, y1, y2]) rfl ?_
      rw [hrd.out]
      exact ⟨_, rfl, BlksO.nil _ _, hBe2⟩
  · have hb0 : (ee == 0) = false := by simp [h0]
    have hrd := hide (rd_fault (z := zF) (ok := okF) hT (by rw [← hee]; exact h0))
    rw [← hee] at hrd
    clear h0 hee
    have hre2 := sbox3 (.int .i64 0) (.int .i64 0) (.slice none 0 0) hre
    have hBe2 := hBe.grown (gbox3 _ w.heap.size (.int .i64 0) (.int .i64 0) (.slice none 0 0)) hBe.size (fun q hq => by simp at hq; omega)
    obtain ⟨y0, y1, y2⟩ := box3 hre2
    go_wp2_with fail
    refine bodyPost_ret (v := .tuple #[.agg #[.int .i64 0, .int .i64 0, .slice none 0 0], .int .i64 ee]) (by simp [results, Try.results21, go_sem, y0, y1, y2]) rfl ?_
    rw [hrd.out]
    exact ⟨_, rfl, BlksO.nil _ _, hBe2⟩
set_option maxHeartbeats 2000000 in
set_option maxRecDepth 100000 in
theorem readCode_any (v : Value) (xs : List Int) (w : World) (hv : Lb.Byt w v xs) (hx : xs.length ≤ 1000000000) :
    Calls Try.prog 24 #[v] w fun e w' => ∃ u, e = .returned (.tuple #[.agg #[.int .i64 (rd zC codP okC xs).1.p, .int .i64 (rd zC codP okC xs).1.r, .int .i64 (rd zC codP okC xs).1.s, u], .int .i64 (rd zC codP okC xs).2]) ∧ BlksO w.heap.size w' u (rd zC codP okC xs).1.bs ∧ Below w.heap.size w w' := by
  have hB0 := bel1' w (.cells #[.int .i64 0, .int .i64 0, .int .i64 0, .slice none 0 0] 42)
  have hn := heap_alloc_new w (.cells #[.int .i64 0, .int .i64 0, .int .i64 0, .slice none 0 0] 42)
  have HN := hide (Lb.new_any v xs (w.alloc (.cells #[.int .i64 0, .int .i64 0, .int .i64 0, .slice none 0 0] 42)) (hv.below hB0) hx)
  have hz := build42
  obtain ⟨ao, nv, cap, rfl⟩ := bysnd _ _ _ hv
  clear hv hx
  go_enter Try.func24, Try.ntmps24
  go_wp2_with fail
  refine HN.out.mono ?_
  rintro e w1 ⟨p, b, rfl, hp, hb, hb1, hR, hB1⟩
  have hr := (hB1.block _ (row_lt hn)).trans hn
  have hBel := bel_of hB0 hB1
  have hp1 : w.heap.size < p := by simp at hp; omega
  have hbw : w.heap.size < b := by simp at hb; omega
  have hpl := hR.lt
  have HF := hide (fieldsOf_any p w1)
  clear HN hB1 hB0 hn hp hb
  go_wp2_with fail
  refine HF.out.mono ?_
  rintro e w2 ⟨rfl, hq, hqs, hB2⟩
  have hr2 := (hB2.block _ (row_lt hr)).trans hr
  have hBel2 := hBel.trans (hB2.mono hBel.size)
  have hR2 := hR.below hB2
  have hz1 := hBel2.size
  have hw1 := hB2.size
  clear HF hr hBel hR hB2
  have hG2 := Lb.grownBy_refl w2 (some p)
  have HC := hide (field_t p b w1.heap.size xs 0 w2 hR2 hq)
  go_wp2_with fail
  refine HC.out.mono ?_
  rintro e w3 ⟨x0, u0, ys3, d3, rfl, ⟨rfl, hx00, hx01⟩, hT3, hR3, hg3⟩
  have hq3 := grown_row hg3 hq (by omega)
  have hr3 := grown_row hg3 hr2 (by omega)
  have hG3 := Lb.grownBy_trans hG2 hg3
  clear HC hR2 hq hr2 hG2 hg3
  have HC := hide (field_t p b w1.heap.size ys3 d3 w3 hR3 hq3)
  go_wp2_with fail
  refine HC.out.mono ?_
  rintro e w4 ⟨x1, u1, ys4, d4, rfl, ⟨rfl, hx10, hx11⟩, hT4, hR4, hg4⟩
  have hq4 := grown_row hg4 hq3 (by omega)
  have hr4 := grown_row hg4 hr3 (by omega)
  have hG4 := Lb.grownBy_trans hG3 hg4
  clear HC hR3 hq3 hr3 hG3 hg4
  have HC := hide (field_t p b w1.heap.size ys4 d4 w4 hR4 hq4)
  go_wp2_with fail
  refine HC.out.mono ?_
  rintro e w5 ⟨x2, u2, ys5, d5, rfl, ⟨rfl, hx20, hx21⟩, hT5, hR5, hg5⟩
  have hq5 := grown_row hg5 hq4 (by omega)
  have hr5 := grown_row hg5 hr4 (by omega)
  have hG5 := Lb.grownBy_trans hG4 hg5
  clear HC hR4 hq4 hr4 hG4 hg5
  have HC := hide (takeBlocks_any 400 p b ys5 d5 w5 hR5 (by have := hG5.size; omega) (by omega))
  go_wp2_with fail
  refine HC.out.mono ?_
  rintro e w6 ⟨bs, u, ys6, d6, rfl, hO, hT6, hR6, hg6⟩
  have hr6 := grown_row hg6 hr5 (by omega)
  have hG6 := Lb.grownBy_trans hG5 hg6
  have hT := took_cod hT3 hT4 hT5 hT6
  have hpB : p < w5.heap.size := by have := hG5.size; omega
  have hwB : w.heap.size ≤ w5.heap.size := by have := hG5.size; omega
  have hpK : p < w6.heap.size := Nat.lt_of_lt_of_le hpB hg6.size
  have hOB : BlksO w5.heap.size w6 u bs := hO
  obtain ⟨au, nu, cu, rfl⟩ : ∃ ao n cap, u = .slice ao n cap := (by obtain ⟨_, _, h2, _⟩ := hOB; exact owns_slice h2)
  have hBk : Below w.heap.size w w6 := hBel2.grown hG6 hz1 (fun q hq => by simp at hq; omega)
  clear HC hR5 hr5 hG5 hg6 hO hT3 hT4 hT5 hT6 hq5
  -- the box of what was read
  have hbx := bel1' w6 (.cells #[.int .i64 x0, .int .i64 x1, .int .i64 x2, .slice au nu cu] 42)
  have hnb := heap_alloc_new w6 (.cells #[.int .i64 x0, .int .i64 x1, .int .i64 x2, .slice au nu cu] 42)
  have hrb := (hbx.block _ (row_lt hr6)).trans hr6
  have hRb := hR6.below hbx
  have hOb := hOB.kept (Lb.grownBy_below hbx (some p)) hpB
  have hBb := hBk.trans (hbx.mono hBk.size)
  have HE := hide (Lb.end_any p b ys6 d6 (w6.alloc (.cells #[.int .i64 x0, .int .i64 x1, .int .i64 x2, .slice au nu cu] 42)) hRb)
  have hsk := hBk.size
  clear hr6 hR6 hOB hbx hRb hG6 hBel2
  go_wp2_with fail
  refine HE.out.mono ?_
  rintro e we ⟨rfl, hRe, hge⟩
  have hre := grown_row hge hrb (by omega)
  have hnbe := grown_row hge hnb (by omega)
  have hOe := hOb.kept hge hpB
  have hBe : Below w.heap.size w we := hBb.grown hge hBb.size (fun q hq => by simp at hq; omega)
  have hse := hBe.size
  clear HE hRe hge hrb hnb hOb hBb
  obtain ⟨ee, hee⟩ : ∃ e, e = Leb.ended ys6 d6 := ⟨_, rfl⟩
  rw [← hee]
  obtain ⟨r0, r1, r2, r3⟩ := box4' hre
  have g0 : we.frozen? ⟨w.heap.size, 0, none⟩ = false := frozen_of_row _ _ _ _ _ hre
  have g1 : we.frozen? ⟨w.heap.size, 1, none⟩ = false := frozen_of_row _ _ _ _ _ hre
  have g2 : we.frozen? ⟨w.heap.size, 2, none⟩ = false := frozen_of_row _ _ _ _ _ hre
  have g3 : we.frozen? ⟨w.heap.size, 3, none⟩ = false := frozen_of_row _ _ _ _ _ hre
  by_cases h0 : ee = 0
  · subst h0
    have he := hide hee.symm
    obtain ⟨c0, c1, c2, c3⟩ := box4' hnbe
    have HK := hide (mCheck_any (⟨x0, x1, x2, bs⟩ : Cod) (.agg #[.int .i64 x0, .int .i64 x1, .int .i64 x2, .slice au nu cu]) we ⟨_, rfl, hOe.v⟩)
    obtain ⟨c, hc⟩ : ∃ c, c = mchk (⟨x0, x1, x2, bs⟩ : Cod) := ⟨_, rfl⟩
    rw [← hc] at HK
    obtain ⟨z0, z1, z2⟩ := c
    have hf := run_field37 (.int .i64 z0) (.int .i64 z1) (.int .i64 z2)
    have HCC := hide hc
    clear hc hee
    unfold faultV at HK
    go_wp2_with fail
    refine HK.out.mono ?_
    rintro e wk ⟨rfl, hBk2⟩
    have hrk := (hBk2.block _ (row_lt hre)).trans hre
    have hnk := (hBk2.block _ (row_lt hnbe)).trans hnbe
    have hOk := BlksO.mono (B' := w.heap.size) (hOe.kept (Lb.grownBy_below hBk2 (some p)) hpB) hwB
    have hBK := hBe.trans (hBk2.mono hBe.size)
    clear HK hre hnbe hOe hBe hBk2 r0 g0 c0 r1 g1 c1 r2 g2 c2 r3 g3 c3
    obtain ⟨r0, r1, r2, r3⟩ := box4' hrk
    have g0 : wk.frozen? ⟨w.heap.size, 0, none⟩ = false := frozen_of_row _ _ _ _ _ hrk
    have g1 : wk.frozen? ⟨w.heap.size, 1, none⟩ = false := frozen_of_row _ _ _ _ _ hrk
    have g2 : wk.frozen? ⟨w.heap.size, 2, none⟩ = false := frozen_of_row _ _ _ _ _ hrk
    have g3 : wk.frozen? ⟨w.heap.size, 3, none⟩ = false := frozen_of_row _ _ _ _ _ hrk
    obtain ⟨c0, c1, c2, c3⟩ := box4' hnk
    by_cases hz0 : z0 = 0
    · subst hz0
      have ho : okC (⟨x0, x1, x2, bs⟩ : Cod) = true := by unfold okC; rw [← HCC.out]; rfl
      have hrd := hide (rd_ok (z := zC) (ok := okC) hT he.out ho)
      have hre3 := sbox4 (.int .i64 x0) (.int .i64 x1) (.int .i64 x2) (.slice au nu cu) hrk
      have hBe3 := hBK.grown (gbox4 _ w.heap.size (.int .i64 x0) (.int .i64 x1) (.int .i64 x2) (.slice au nu cu)) hBK.size (fun q hq => by simp at hq; omega)
      have hOe3 := BlksO.keeps hOk (kbox4 (.int .i64 x0) (.int .i64 x1) (.int .i64 x2) (.slice au nu cu) hrk (by decide))
      obtain ⟨y0, y1, y2, y3⟩ := box4' hre3
      go_wp2_with fail
      refine bodyPost_ret (v := .tuple #[.agg #[.int .i64 x0, .int .i64 x1, .int .i64 x2, .slice au nu cu], .int .i64 0]) (by simp [results, Try.results24, go_sem, y0, y1, y2, y3]) rfl ?_
      rw [hrd.out]
      exact ⟨_, rfl, hOe3, hBe3⟩
    · have hb0 : (z0 == 0) = false := by simp [hz0]
      have ho : okC (⟨x0, x1, x2, bs⟩ : Cod) = false := by unfold okC; rw [← HCC.out]; exact hb0
      have hrd := hide (rd_shape (z := zC) (ok := okC) hT he.out ho)
      clear hz0
      have hre3 := sbox4 (.int .i64 0) (.int .i64 0) (.int .i64 0) (.slice none 0 0) hrk
      have hBe3 := hBK.grown (gbox4 _ w.heap.size (.int .i64 0) (.int .i64 0) (.int .i64 0) (.slice none 0 0)) hBK.size (fun q hq => by simp at hq; omega)
      obtain ⟨y0, y1, y2, y3⟩ := box4' hre3
      go_wp2_with fail
      refine bodyPost_ret (v := .tuple #[.agg #[.int .i64 0, .int .i64 0, .int .i64 0, .slice none 0 0], .int .i64 30]) (by simp [results, Try.results24, go_sem, y0, y1, y2, y3]) rfl ?_
      rw [hrd.out]
      exact ⟨_, rfl, BlksO.nil _ _, hBe3⟩
  · have hb0 : (ee == 0) = false := by simp [h0]
    have hrd := hide (rd_fault (z := zC) (ok := okC) hT (by rw [← hee]; exact h0))
    rw [← hee] at hrd
    clear h0 hee
    have hre3 := sbox4 (.int .i64 0) (.int .i64 0) (.int .i64 0) (.slice none 0 0) hre
    have hBe3 := hBe.grown (gbox4 _ w.heap.size (.int .i64 0) (.int .i64 0) (.int .i64 0) (.slice none 0 0)) hBe.size (fun q hq => by simp at hq; omega)
    obtain ⟨y0, y1, y2, y3⟩ := box4' hre3
    go_wp2_with fail
    refine bodyPost_ret (v := .tuple #[.agg #[.int .i64 0, .int .i64 0, .int .i64 0, .slice none 0 0], .int .i64 ee]) (by simp [results, Try.results24, go_sem, y0, y1, y2, y3]) rfl ?_
    rw [hrd.out]
    exact ⟨_, rfl, BlksO.nil _ _, hBe3⟩
end Go.Proofs.Ytbjnhicikkjadaa
