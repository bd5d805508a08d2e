/- ExecPlain: a function of few vregs, run as code whose parameters are filled first, does the same. -/
import Derived.Test.YtepmbkiojpffpaaXp1
import Derived.Test.YtepmbkiojpffpaaXs
namespace Go.Proofs.Ytepmbkiojpffpaa
open Go Go.RowKit Ir

set_option maxHeartbeats 4000000 in
set_option maxRecDepth 100000 in
theorem plain_walk (v0 v1 : Value) (sa sb sc : Int) (bs : List Int) (I : Inp) (w : World) (hS : SpecV w v0 sa sb sc bs) (hI : InpV w v1 I) : Calls Try.prog 5 #[v0, v1] w fun e w' => e = .returned (.bool true) ∧ Below w.heap.size w w' := by
  have hS' := hS
  obtain ⟨u, rfl, hsa, hsb, hsc, hu⟩ := hS'
  have hI' := hI
  obtain ⟨a, b, c, rfl, ha, hm, hc⟩ := hI'
  obtain ⟨ua, uc, rfl⟩ := hu.slice
  obtain ⟨aa, ac, rfl⟩ := ha.slice
  obtain ⟨ba, bc, rfl⟩ := hm.slice
  obtain ⟨ca, cc, rfl⟩ := hc.slice
  obtain ⟨sv, hsv⟩ : ∃ sv, sb % 4 = sv := ⟨_, rfl⟩
  have hsvt : sb.tmod 4 = sv := by rw [Int.tmod_eq_emod_of_nonneg hsb.1]; exact hsv
  have hsvb : 0 ≤ sv ∧ sv < 4 := by omega
  obtain ⟨pn, hpn, hpl⟩ := made_p sa sv sc bs
  have hbox := law_box w (.int .u8 sa) (.int .u8 sb) (.int .u8 sc) (.slice ua bs.length uc) (.slice aa I.args.length ac) (.slice ba I.mem.length bc) (.slice ca I.ans.length cc) (.int .i64 I.fuel)
  have hrs : ((w.alloc (.cells #[.int .u8 sa, .int .u8 sb, .int .u8 sc, .slice ua bs.length uc] 24)).alloc (.cells #[.slice aa I.args.length ac, .slice ba I.mem.length bc, .slice ca I.ans.length cc, .int .i64 I.fuel] 27)).heap[w.heap.size]? = some (Obj.cells #[.int .u8 sa, .int .u8 sb, .int .u8 sc, .slice ua bs.length uc] 24 (0, 0)) := by
    rw [(bel1' (w.alloc (.cells #[.int .u8 sa, .int .u8 sb, .int .u8 sc, .slice ua bs.length uc] 24)) _).block _ (by simp)]
    exact heap_alloc_new w _
  have HA := hide (awake_any ((w.alloc (.cells #[.int .u8 sa, .int .u8 sb, .int .u8 sc, .slice ua bs.length uc] 24)).alloc (.cells #[.slice aa I.args.length ac, .slice ba I.mem.length bc, .slice ca I.ans.length cc, .int .i64 I.fuel] 27)))
  have HBOX := hide hbox
  have HRS := hide hrs
  have HSA := hide (And.intro hsa hsc)
  have HU := hide hu
  clear hbox ha hm hc hu hsa hsc hrs
  go_enter Try.func5, Try.ntmps5
  go_wp2_with fail
  refine HA.out.mono ?_
  rintro e W1 ⟨rfl, hB1⟩
  obtain ⟨s0, s1, s2, s3, i0, i1, i2, i3, hBw⟩ := HBOX.out W1 hB1
  have hr1 := (hB1.block _ (Array.getElem?_eq_some_iff.1 HRS.out).1).trans HRS.out
  have hr2 := heap_setCell_same W1 w.heap.size 1 _ _ (.int .u8 sv) hr1
  have hf1 : W1.frozen? ⟨w.heap.size, 1, none⟩ = false := frozen_of_row _ _ _ _ _ hr1
  have hBb : Below w.heap.size w (W1.setCell ⟨w.heap.size, 1, none⟩ (.int .u8 sv)) := hBw.setCell (p := ⟨w.heap.size, 1, none⟩) (Nat.le_refl _) _
  have hio : ∀ (o : Nat) (v : Value), W1.cell? ⟨w.heap.size + 1, o, none⟩ = some v → (W1.setCell ⟨w.heap.size, 1, none⟩ (.int .u8 sv)).cell? ⟨w.heap.size + 1, o, none⟩ = some v := fun o v h => (World.cell?_setCell_other (w := W1) (a := ⟨w.heap.size, 1, none⟩) (b := ⟨w.heap.size + 1, o, none⟩) (v := .int .u8 sv) (by simp)).trans h
  have t0 : (W1.setCell ⟨w.heap.size, 1, none⟩ (.int .u8 sv)).cell? ⟨w.heap.size, 0, none⟩ = some (.int .u8 sa) := by rw [cell_of_row _ _ _ _ _ _ hr2]; rfl
  have t1 : (W1.setCell ⟨w.heap.size, 1, none⟩ (.int .u8 sv)).cell? ⟨w.heap.size, 1, none⟩ = some (.int .u8 sv) := by rw [cell_of_row _ _ _ _ _ _ hr2]; rfl
  have t2 : (W1.setCell ⟨w.heap.size, 1, none⟩ (.int .u8 sv)).cell? ⟨w.heap.size, 2, none⟩ = some (.int .u8 sc) := by rw [cell_of_row _ _ _ _ _ _ hr2]; rfl
  have t3 : (W1.setCell ⟨w.heap.size, 1, none⟩ (.int .u8 sv)).cell? ⟨w.heap.size, 3, none⟩ = some (.slice ua bs.length uc) := by rw [cell_of_row _ _ _ _ _ _ hr2]; rfl
  replace i0 := hio _ _ i0
  replace i1 := hio _ _ i1
  replace i2 := hio _ _ i2
  replace i3 := hio _ _ i3
  have HM := hide (made_any _ sa sv sc bs (W1.setCell ⟨w.heap.size, 1, none⟩ (.int .u8 sv)) ⟨_, rfl, HSA.out.1, ⟨hsvb.1, by omega⟩, HSA.out.2, HU.out.below hBb⟩)
  have HI1 := hide (hI.below hBb)
  have HB1 := hide hBb
  have HI4 := hide (And.intro i0 (And.intro i1 (And.intro i2 i3)))
  clear HBOX HA hB1 hS hI hBw hBb hr1 hr2 HRS hio i0 i1 i2 i3 s0 s2 s3
  go_wp2_with fail
  refine HM.out.mono ?_
  clear HM t0 t1 t2 t3 s1 hf1
  generalize (W1.setCell ⟨w.heap.size, 1, none⟩ (.int .u8 sv)) = A1 at *
  rintro e W2 ⟨ub, rfl, hO, hB2⟩
  have hv8 : 1 ≤ (made sa sv sc bs).v ∧ (made sa sv sc bs).v ≤ 8 := by
    show 1 ≤ vOf sa sv ∧ vOf sa sv ≤ 8
    unfold vOf
    omega
  have HF := hide (made_right sa sv sc bs)
  obtain ⟨F, hFe⟩ : ∃ F, made sa sv sc bs = F := ⟨_, rfl⟩
  rw [hFe] at hO hv8 HF hpn ⊢
  clear hFe
  have hsz := (chk_all (F := F) (by rw [HF.out])).1
  simp only [sized, decide_eq_true_eq] at hsz
  obtain ⟨fa, fc, rfl⟩ := hO.v.slice
  obtain ⟨fg, rfl⟩ := hO.some (by omega)
  have hBf := bel1' W2 (.cells #[.int .i64 F.p, .int .i64 F.v, .slice (some ⟨fg, 0, none⟩) F.bs.length fc] 53)
  have HO := hide (hO.below hBf)
  have hb12 := bel_of hB2 hBf
  have HB2 := hide (bel_of HB1.out hb12)
  have HI2 := hide (HI1.out.below hb12)
  have HRF := hide (heap_alloc_new W2 (.cells #[.int .i64 F.p, .int .i64 F.v, .slice (some ⟨fg, 0, none⟩) F.bs.length fc] 53))
  have HIC : Hid ((W2.alloc (.cells #[.int .i64 F.p, .int .i64 F.v, .slice (some ⟨fg, 0, none⟩) F.bs.length fc] 53)).cell? ⟨w.heap.size + 1, 0, none⟩ = some (.slice aa I.args.length ac) ∧ (W2.alloc (.cells #[.int .i64 F.p, .int .i64 F.v, .slice (some ⟨fg, 0, none⟩) F.bs.length fc] 53)).cell? ⟨w.heap.size + 1, 1, none⟩ = some (.slice ba I.mem.length bc) ∧ (W2.alloc (.cells #[.int .i64 F.p, .int .i64 F.v, .slice (some ⟨fg, 0, none⟩) F.bs.length fc] 53)).cell? ⟨w.heap.size + 1, 2, none⟩ = some (.slice ca I.ans.length cc) ∧ (W2.alloc (.cells #[.int .i64 F.p, .int .i64 F.v, .slice (some ⟨fg, 0, none⟩) F.bs.length fc] 53)).cell? ⟨w.heap.size + 1, 3, none⟩ = some (.int .i64 I.fuel)) := ⟨cell_below hb12 HI4.out.1, cell_below hb12 HI4.out.2.1, cell_below hb12 HI4.out.2.2.1, cell_below hb12 HI4.out.2.2.2⟩
  have HPN := hide hpn
  have HSZ := hide (And.intro hsz hv8)
  have hle := hv8.2
  have HBA := hide hb12.size
  clear hO hB2 hBf hb12 HB1 HI1 HI4 hpn hsz hv8 HSA HU hsv hsvt hsvb
  go_wp2_with fail
  generalize W2.alloc (.cells #[.int .i64 F.p, .int .i64 F.v, .slice (some ⟨fg, 0, none⟩) F.bs.length fc] 53) = W3 at *
  generalize W2.heap.size = gf at *
  have HCE : Hid (∀ j, j < F.bs.length → ∃ a n c, BlkCells W3 fg (j * 5) (.slice a n c) (F.bs.getD j Blk.zero).e) := by
    intro j hj
    obtain ⟨u, h1, h2⟩ := HO.out.at j hj
    have e : F.bs.getD j Blk.zero = F.bs[j] := by simp [hj]
    obtain ⟨a, c, rfl⟩ := h2.v.slice
    exact ⟨a, _, c, by rw [e]; exact h1⟩
  go_loopw [30] (fun iv wr => ∃ j : Nat, j ≤ F.bs.length ∧ iv = .int .i64 j ∧ Below W3.heap.size W3 wr ∧ ∀ j', j' < j → noz (F.bs.getD j' Blk.zero)) (fun iv _ => F.bs.length - (intOf iv).toNat)
  case atStart => exact ⟨0, by omega, rfl, Below.refl _ _, fun j' h => by omega⟩
  case round =>
    obtain ⟨j, hj, rfl, hBr, hnz⟩ := hrel
    by_cases hlt : j < F.bs.length
    · obtain ⟨ea, en, ec, hcc⟩ := HCE.out j hlt
      obtain ⟨E, hE⟩ : ∃ E, (F.bs.getD j Blk.zero).e = E := ⟨_, rfl⟩
      rw [hE] at hcc
      obtain ⟨c0, c1, c2, c3, c4⟩ := hcc.below hBr
      have hlt' : (j : Int) < (F.bs.length : Int) := by omega
      have hjb : (j : Int) ≤ 16 := by have := HSZ.out.1; omega
      have HBR : Hid (∀ o, Below W3.heap.size W3 (wr.alloc o)) := fun o => bel_of hBr (bel1' wr o)
      have HNZ := hide hnz
      have HE := hide hE
      clear hcc hBr hnz hE
      have HBF : Hid (∀ o, Below w.heap.size w (wr.alloc o)) := fun o => bel_of HB2.out (HBR.out o)
      go_wp2_with fail
      all_goals first
        | (go_ret; exact ⟨rfl, HBF.out _⟩)
        | (have HZ : noz (F.bs.getD j Blk.zero) := (by
             (try simp only [beq_eq_false_iff_ne, ne_eq] at *)
             unfold noz
             rw [HE.out]
             omega)
           have HN : Hid (∀ j', j' < j + 1 → noz (F.bs.getD j' Blk.zero)) := (by
             intro j' hj'
             by_cases e : j' = j
             · subst e
               exact HZ
             · exact HNZ.out j' (by omega))
           clear HZ
           go_roundw
           case rel => exact ⟨j + 1, by omega, by go_num, HBR.out _, HN.out⟩
           case measure => simp [intOf]; omega)
        | trace_state
    · have hje : j = F.bs.length := by omega
      subst hje
      rename World => W4
      have HNA := hide (noz_all hnz)
      have hrf : W4.heap[gf]? = some (Obj.cells #[.int .i64 F.p, .int .i64 F.v, .slice (some ⟨fg, 0, none⟩) F.bs.length fc] 53 (0, 0)) := row_bel HRF.out hBr
      obtain ⟨f0, f1, f2⟩ : W4.cell? ⟨gf, 0, none⟩ = some (.int .i64 F.p) ∧ W4.cell? ⟨gf, 1, none⟩ = some (.int .i64 F.v) ∧ W4.cell? ⟨gf, 2, none⟩ = some (.slice (some ⟨fg, 0, none⟩) F.bs.length fc) := by
        refine ⟨?_, ?_, ?_⟩
        all_goals (rw [cell_of_row _ _ _ _ _ _ hrf]; rfl)
      obtain ⟨mx, hmx⟩ : ∃ mx, mx = max F.v 3 := ⟨_, rfl⟩
      have hmax : ∀ (ts : Array TypeId) (t : TypeId) (W : World), (Builtin.max_ ts t #[.int .i64 F.v, .int .i64 3]).run Try.prog W = .ok (.int .i64 mx) W := by
        intro ts t W
        rw [run_max_int2, hmx]
        congr 2
        split <;> omega
      have HMX := hide hmx
      have HO4 := hide (HO.out.below hBr)
      have HB4 := hide (bel_of HB2.out hBr)
      have HI4 := hide (HI2.out.below hBr)
      have HRF4 := hide hrf
      have HIC4 := hide (And.intro (cell_below hBr HIC.out.1) (And.intro (cell_below hBr HIC.out.2.1) (And.intro (cell_below hBr HIC.out.2.2.1) (cell_below hBr HIC.out.2.2.2))))
      have hb5 := bel1' W4 (.cells #[.int .i64 F.p, .int .i64 mx, .int .i64 F.p, .slice (some ⟨fg, 0, none⟩) F.bs.length fc] 31)
      have g0 := cell_below hb5 f0
      have HB45 := hide hb5
      have HS34 := hide hBr.size
      have HRK := hide (heap_alloc_new W4 (.cells #[.int .i64 F.p, .int .i64 mx, .int .i64 F.p, .slice (some ⟨fg, 0, none⟩) F.bs.length fc] 31))
      clear hnz hrf hBr hmx hb5 HCE HO HI2 HRF HIC HB2 hlt
      go_wp2_with fail
      clear f0 f1 f2 g0 hmax
      generalize W4.alloc (.cells #[.int .i64 F.p, .int .i64 mx, .int .i64 F.p, .slice (some ⟨fg, 0, none⟩) F.bs.length fc] 31) = W5 at *
      obtain ⟨gk, hgk⟩ : ∃ gk, W4.heap.size = gk := ⟨_, rfl⟩
      rw [hgk] at HRK ⊢
      have HGK := hide hgk
      clear hgk
      go_loopw [9, 69] (fun fv iv wr => ∃ k : Nat, k ≤ pn ∧ iv = .int .i64 k ∧ wr.ownsRow W5.heap.size 65 7 fv k (cellsI (fillP k)) ∧ Below W5.heap.size W5 wr) (fun _ iv _ => pn - (intOf iv).toNat)
      case atStart => exact ⟨0, by omega, rfl, World.ownsRow_nil _ _ _ _, Below.refl _ _⟩
      case round =>
        rename World => W6
        obtain ⟨k, hk, rfl, hown, hb56⟩ := hrel
        by_cases hlt : k < pn
        · obtain ⟨v', w', hr, ho, hb⟩ := app_fill hown (by omega) hb56.size
          have hlt' : (k : Int) < F.p := by rw [HPN.out]; omega
          have hkb : (k : Int) ≤ 4 := by omega
          obtain ⟨va, vn, vc, rfl⟩ := owns_slice ho
          have HOW := hide (And.intro ho (hb56.trans hb))
          have HR := hide hr
          clear hown ho hb hb56 hr
          go_wp2_with (refine wpList_appR (ux := u9) (uy := .slice (some ⟨W6.heap.size, 0, none⟩) 1 1) (V := .slice va vn vc) 55 rfl (.tmp 72) (.tmp 76) rfl rfl rfl rfl HR.out ?_)
          go_roundw
          case rel => exact ⟨k + 1, by omega, by go_num, HOW.out.1, HOW.out.2⟩
          case measure => simp [intOf]; omega
        · have hp0 : pn = k := by omega
          subst hp0
          have hge : F.p ≤ (pn : Int) := by rw [HPN.out]; exact Int.le_refl _
          have hb46 : Below W4.heap.size W4 W6 := bel_of HB45.out hb56
          obtain ⟨ps, hps, hrow, hins⟩ := HO4.out
          have hpl2 : ps.length = F.bs.length := by rw [← hps, List.length_map]
          have hnz : 0 < ps.length := by have := HSZ.out.1; omega
          have hrow6 := owns_below hrow hb46
          rw [← hpl2] at hrow6
          have hbe := bel1' W6 (.cells #[] 60)
          have hown0 : (W6.alloc (.cells #[] 60)).ownsRow W6.heap.size 60 5 (.slice (some ⟨W6.heap.size, 0, none⟩) 0 0) 0 [] := ⟨rfl, .inr ⟨W6.heap.size, 0, #[], rfl, Nat.le_refl _, heap_alloc_new W6 _, Nat.le_refl _, by simp [maxLen], rfl, rfl⟩⟩
          obtain ⟨v7, W7, hr7, ho7, hg7⟩ := app_blks 29 hown0 (owns_below hrow6 hbe) (fun p hp => by obtain ⟨a, c, e⟩ := (hins p hp).v.slice; exact ⟨_, _, _, e⟩) (by have := HSZ.out.1; omega) hbe.size
          obtain ⟨g7, c7, cs7, rfl, hg7b, hcs7, _⟩ := row_get ho7 hnz
          have hb67 : Below W6.heap.size W6 W7 := hbe.grown hg7 hbe.size (fun q hq => by simp only [Value.ownBlock, Option.some.injEq] at hq; omega)
          rw [hpl2] at hr7
          have hrk7 := row_bel HRK.out (bel_of hb56 hb67)
          have hrk8 := heap_setCell_same W7 gk 3 _ _ (.slice (some ⟨g7, 0, none⟩) F.bs.length c7) hrk7
          have hk8 : Keeps (fun t => t != 31) W7 (W7.setCell ⟨gk, 3, none⟩ (.slice (some ⟨g7, 0, none⟩) F.bs.length c7)) := Keeps.set hrk7 rfl _
          have hb47 := bel_of hb46 hb67
          have hb48 : Below W4.heap.size W4 (W7.setCell ⟨gk, 3, none⟩ (.slice (some ⟨g7, 0, none⟩) F.bs.length c7)) := hb47.setCell (p := ⟨gk, 3, none⟩) (Nat.le_of_eq HGK.out) _
          have f2a : (W6.alloc (.cells #[] 60)).cell? ⟨gf, 2, none⟩ = some (.slice (some ⟨fg, 0, none⟩) F.bs.length fc) := by
            rw [cell_of_row _ _ _ _ _ _ (row_bel (row_bel HRF4.out hb46) hbe)]; rfl
          have k3 : W7.cell? ⟨gk, 3, none⟩ = some (.slice (some ⟨fg, 0, none⟩) F.bs.length fc) := by rw [cell_of_row _ _ _ _ _ _ hrk7]; rfl
          have kf : W7.frozen? ⟨gk, 3, none⟩ = false := frozen_of_row _ _ _ _ _ hrk7
          have ho8 := owns_keeps ho7 hk8 rfl
          have hfv8 := owns_keeps (owns_below hown hb67) hk8 rfl
          have hsz8 : W5.heap.size ≤ (W7.setCell ⟨gk, 3, none⟩ (.slice (some ⟨g7, 0, none⟩) F.bs.length c7)).heap.size := by
            have h1 := hb56.size
            have h2 := hb67.size
            simp
            omega
          have HX8 := hide (And.intro hrk8 (And.intro hb48 (And.intro ho8 (And.intro hfv8 hsz8))))
          have HPS := hide (And.intro hps (And.intro hpl2 hnz))
          have HINS := hide hins
          have HG7 := hide hg7b
          have HR7 := hide hr7
          have HS56 := hide hb56.size
          clear hown hb56 hb46 hrow hins hrow6 hbe hown0 ho7 hg7 hcs7 hb67 hrk7 hrk8 hk8 hb47 hb48 ho8 hfv8 hsz8 hps hnz hg7b hpl2 hr7
          go_wp2_with (refine wpList_appR (ux := .slice (some ⟨W6.heap.size, 0, none⟩) 0 0) (uy := .slice (some ⟨fg, 0, none⟩) F.bs.length fc) (V := .slice (some ⟨g7, 0, none⟩) F.bs.length c7) 29 rfl (.tmp 79) (.tmp 81) rfl rfl rfl rfl HR7.out ?_)
          clear f2a k3 kf HR7
          generalize W7.setCell ⟨gk, 3, none⟩ (.slice (some ⟨g7, 0, none⟩) F.bs.length c7) = W8 at *
          obtain ⟨hrk8, hb48, ho8, hfv8, hsz8⟩ := HX8.out
          obtain ⟨hps, hpl2, hnz⟩ := HPS.out
          have hI8 : InssO A1.heap.size W8 (ps[0]'hnz).2 (ps[0]'hnz).1.ins := (HINS.out _ (List.getElem_mem hnz)).keeps (Keeps.below hb48)
          obtain ⟨qs, qa, qc, hqe, hqs, hqo, hqargs⟩ := hI8.parts
          have hql : qs.length ≤ 32 := by
            have h1 := (blkF_all ((chk_all (F := F) (by rw [HF.out])).2 (ps[0]'hnz).1 (by rw [← hps]; exact List.mem_map_of_mem (List.getElem_mem hnz)))).1
            rw [← hqs, List.length_map] at h1
            exact h1
          have hc0 : W8.cell? ⟨g7, 0, none⟩ = some (.slice qa qs.length qc) := by
            have h1 := ho8.cells (g := g7) rfl 0 (ps[0]'hnz).2 (cellsB_get ps 0 _ (List.getElem?_eq_getElem hnz)).1
            rw [hqe] at h1
            simpa [Addr.add_lit] using h1
          obtain ⟨va, vn, vc, rfl⟩ := owns_slice hfv8
          have hdr : Below W8.heap.size W8 W8.drew := (Below.refl _ _).drew
          have hfvd := owns_below hfv8 hdr
          obtain ⟨hsrc, _⟩ := SrcI.cut1 (owns_below hqo hdr) (Nat.le_refl qs.length)
          rw [List.take_length] at hsrc
          obtain ⟨v9, W9, hr9, ho9, hg9⟩ := app_ins 55 (W := W8.drew) (owns_cast hfvd (fillP_len pn).symm rfl) hsrc (fun q hq => by obtain ⟨_, _, e⟩ := (hqargs q hq).v.slice; exact ⟨_, _, _, e⟩) (by rw [fillP_len]; omega) hsz8
          obtain ⟨za, zn, zc, rfl⟩ := owns_slice ho9
          have hk9 : Keeps (fun t => t != 65) W8.drew W9 := Keeps.grown hfvd rfl hg9
          have hrk9 : W9.heap[gk]? = some (Obj.cells #[.int .i64 F.p, .int .i64 mx, .int .i64 F.p, .slice (some ⟨g7, 0, none⟩) F.bs.length c7] 31 (0, 0)) := hk9 gk _ _ _ rfl hrk8
          have ho9b := owns_keeps (owns_below ho8 hdr) hk9 rfl
          obtain ⟨g8, c8, cs9, e9, _, hcs9, _⟩ := row_get ho9b hnz
          simp only [Value.slice.injEq, Option.some.injEq, Addr.mk.injEq, and_true, true_and] at e9
          obtain ⟨rfl, rfl⟩ := e9
          have k3 : W8.cell? ⟨gk, 3, none⟩ = some (.slice (some ⟨g7, 0, none⟩) F.bs.length c7) := by rw [cell_of_row _ _ _ _ _ _ hrk8]; rfl
          have k9 : W9.cell? ⟨gk, 3, none⟩ = some (.slice (some ⟨g7, 0, none⟩) F.bs.length c7) := by rw [cell_of_row _ _ _ _ _ _ hrk9]; rfl
          have c9 : W9.cell? ⟨g7, 0, none⟩ = some (.slice qa qs.length qc) := by
            have h1 := ho9b.cells (g := g7) rfl 0 (ps[0]'hnz).2 (cellsB_get ps 0 _ (List.getElem?_eq_getElem hnz)).1
            rw [hqe] at h1
            simpa [Addr.add_lit] using h1
          have f9 : W9.frozen? ⟨g7, 0, none⟩ = false := frozen_of_row _ _ _ _ _ hcs9
          have hle5 : W4.heap.size ≤ W5.heap.size := HB45.out.size
          have hle8 : W4.heap.size ≤ W8.drew.heap.size := Nat.le_trans hle5 hsz8
          have hb49 : Below W4.heap.size W4 W9 := hb48.drew.grown hg9 hle8 (fun q hq => Nat.le_trans hle5 (hfvd.lt q hq).1)
          have hO9 : BlksO A1.heap.size W9 (.slice (some ⟨g7, 0, none⟩) F.bs.length c7) F.bs := by
            refine ⟨ps, hps, ?_, fun p hp => (HINS.out p hp).keeps (Keeps.below hb49)⟩
            have h1 := owns_mono ho9b (Nat.le_trans (Nat.le_trans HBA.out HS34.out) (Nat.le_trans hle5 HS56.out))
            rw [hpl2] at h1 ⊢
            exact h1
          have hI9 : InssO A1.heap.size W9 (.slice za zn zc) (fills pn ++ (ps[0]'hnz).1.ins) := by
            refine ⟨fillP pn ++ qs, by rw [List.map_append, fillP_ins, hqs], owns_mono ho9 (Nat.le_trans (Nat.le_trans HBA.out HS34.out) hle5), fun q hq => ?_⟩
            rcases List.mem_append.1 hq with hq | hq
            · obtain ⟨e1, e2⟩ := fillP_nil hq
              rw [e1, e2]
              exact ArgsO.nil _ _
            · exact ((hqargs q hq).keeps (Keeps.drew _)).keeps (hk9.weak fun t ht => by simp [T3] at ht; subst ht; rfl)
          have h0F : 0 < F.bs.length := by omega
          have hO10 := hO9.put 0 h0F hI9
          have hset : F.bs.set 0 ⟨fills pn ++ (ps[0]'hnz).1.ins, F.bs[0].e⟩ = (plC pn F).bs := by
            have e1 : F.bs.getD 0 Blk.zero = F.bs[0] := by simp [h0F]
            have e2 : (ps[0]'hnz).1 = F.bs[0] := by simp [← hps]
            unfold plC
            simp only [e1, e2]
          rw [hset] at hO10
          have hb410 : Below W4.heap.size W4 (W9.setCell ⟨g7, 0, none⟩ (.slice za zn zc)) := hb49.setCell (p := ⟨g7, 0, none⟩) (Nat.le_trans hle5 (Nat.le_trans HS56.out HG7.out)) _
          have hrk10 : (W9.setCell ⟨g7, 0, none⟩ (.slice za zn zc)).heap[gk]? = some (Obj.cells #[.int .i64 F.p, .int .i64 mx, .int .i64 F.p, .slice (some ⟨g7, 0, none⟩) F.bs.length c7] 31 (0, 0)) := (Keeps.set (T := fun t => t != 60) hcs9 rfl _) gk _ _ _ rfl hrk9
          have HO10 := hide hO10.v
          have HB10 := hide (And.intro hb410 hrk10)
          have HR9 := hide hr9
          have hlen0 : (0 : Int) < (F.bs.length : Int) := by omega
          have HFN := hide h0F
          clear hrk8 hb48 ho8 hfv8 hsz8 hps hpl2 hnz hI8 hqe hqs hqo hqargs hql hdr hfvd hsrc ho9 hg9 hk9 hrk9 ho9b hcs9 hle5 hle8 hb49 hO9 hI9 h0F hO10 hset hb410 hrk10 HX8 HPS HINS
          refine xp21_ok (gk := gk) (g7 := g7) (nb := F.bs.length) (c7 := c7) (qn := qs.length) (qc := qc) (vn := vn) (vc := vc) (zn := zn) (zc := zc) (W9 := W9) rfl rfl rfl k3 k9 hc0 c9 f9 hlen0 hr9 ?_
          intro q21
          simp [overlay, dstsOf, ops_xp21_ok]
          clear k3 k9 hc0 c9 f9 hlen0 hr9
          generalize W9.setCell ⟨g7, 0, none⟩ (.slice za zn zc) = W10 at *
          have hb410 := HB10.out.1
          have hrf10 : W10.heap[gf]? = some (Obj.cells #[.int .i64 F.p, .int .i64 F.v, .slice (some ⟨fg, 0, none⟩) F.bs.length fc] 53 (0, 0)) := row_bel HRF4.out hb410
          obtain ⟨f0, f1, f2⟩ : W10.cell? ⟨gf, 0, none⟩ = some (.int .i64 F.p) ∧ W10.cell? ⟨gf, 1, none⟩ = some (.int .i64 F.v) ∧ W10.cell? ⟨gf, 2, none⟩ = some (.slice (some ⟨fg, 0, none⟩) F.bs.length fc) := by
            refine ⟨?_, ?_, ?_⟩
            all_goals (rw [cell_of_row _ _ _ _ _ _ hrf10]; rfl)
          have i0 := cell_below hb410 HIC4.out.1
          have i1 := cell_below hb410 HIC4.out.2.1
          have i2 := cell_below hb410 HIC4.out.2.2.1
          have i3 := cell_below hb410 HIC4.out.2.2.2
          have HV10 := hide (HO4.out.v.below hb410)
          have HBW := hide (bel_of HB4.out hb410)
          have HRF10 := hide hrf10
          have HRK10 := hide HB10.out.2
          have hI10 := HI4.out.below hb410
          have HIN : Hid (Calls Try.prog 9 #[.agg #[.slice aa I.args.length ac, .slice ba I.mem.length bc, .slice ca I.ans.length cc, .int .i64 I.fuel], .int .i64 F.p] W10 fun e w' => ∃ x, e = .returned x ∧ InpV w' x (inpOf I pn) ∧ Below W10.heap.size W10 w') := by
            have hpn := HPN.out
            rw [hpn]
            exact input_any _ I pn W10 hI10 hpl
          clear hb410 hrf10 hI10 HB10 HRF4 HIC4 HI4 HB4 HO4 HRK HB45 HGK HS34 HS56 HG7 HBA HR9 HFN hge
          go_wp2_with fail
          refine HIN.out.mono ?_
          clear HIN i0 i1 i2 i3 f0 f1 f2
          rintro e W11 ⟨x, rfl, hX, hB3⟩
          have hX' := hX
          obtain ⟨x0, x1, x2, rfl, hx0, hx1, hx2⟩ := hX'
          obtain ⟨xa, xac, rfl⟩ := hx0.slice
          obtain ⟨xb, xbc, rfl⟩ := hx1.slice
          obtain ⟨xc, xcc, rfl⟩ := hx2.slice
          have hfu : 0 ≤ (inpOf I pn).fuel ∧ (inpOf I pn).fuel < 400 := by rw [show (inpOf I pn).fuel = (I.fuel % 18446744073709551616) % 400 from rfl]; omega
          have hxl : Hid ((inpOf I pn).args.length = pn) := argsOf_len _ _
          generalize inpOf I pn = X at *
          have hbb := bel1' W11 (.cells #[.slice xa X.args.length xac, .slice xb X.mem.length xbc, .slice xc X.ans.length xcc, .int .i64 X.fuel] 27)
          have hb3 := bel_of hB3 hbb
          have hcr := row_bel HRK10.out hb3
          have HFR := hide (row_bel HRF10.out hb3)
          have HXR := hide (heap_alloc_new W11 (.cells #[.slice xa X.args.length xac, .slice xb X.mem.length xbc, .slice xc X.ans.length xcc, .int .i64 X.fuel] 27))
          have HX := hide (hX.below hbb)
          have hCA : CodV (W11.alloc (.cells #[.slice xa X.args.length xac, .slice xb X.mem.length xbc, .slice xc X.ans.length xcc, .int .i64 X.fuel] 27)) (.agg #[.int .i64 F.p, .int .i64 mx, .int .i64 F.p, .slice (some ⟨g7, 0, none⟩) F.bs.length c7]) (plC pn F) := ⟨_, by rw [HMX.out]; rfl, HO10.out.below hb3⟩
          have HFA : Hid (FunV (W11.alloc (.cells #[.slice xa X.args.length xac, .slice xb X.mem.length xbc, .slice xc X.ans.length xcc, .int .i64 X.fuel] 27)) (.agg #[.int .i64 F.p, .int .i64 F.v, .slice (some ⟨fg, 0, none⟩) F.bs.length fc]) F) := ⟨_, rfl, HV10.out.below hb3⟩
          have hrx : execF (plC pn F) X = 0 := execF_of (by rw [mchk_plC HF.out HPN.out hle]) (by rw [hxl.out]; exact HPN.out.symm) (by omega)
          have hry : runF F X = 0 := runF_zero HF.out HPN.out hxl.out (by omega)
          have HRX := hide (And.intro hrx (And.intro hry (exec_plain HF.out HPN.out hle HSZ.out.2.1 HNA.out hry hrx hxl.out)))
          have HC := hide (exec_any (plC pn F) X _ _ _ hCA HX.out)
          have HB4 := hide (bel_of HBW.out hb3)
          obtain ⟨c0, c1, c2, c3⟩ := box4 hcr
          obtain ⟨Z, hz, hzs⟩ := z37
          have HZ := hide (And.intro hz hzs)
          clear hz hzs hX hx0 hx1 hx2 hB3 hbb hb3 hcr hCA hrx hry HRK10 HRF10 HV10 HO10 HBW HNA
          go_wp2_with fail
          refine HC.out.mono ?_
          clear HC c0 c1 c2 c3
          generalize W11.alloc (.cells #[.slice xa X.args.length xac, .slice xb X.mem.length xbc, .slice xc X.ans.length xcc, .int .i64 X.fuel] 27) = A3 at *
          generalize W11.heap.size = gx at *
          rintro e W12 ⟨x, rfl, hOut, hB4⟩
          rw [HRX.out.1]
          rw [HRX.out.2.2] at hOut
          obtain ⟨OA, cva, rfl, hOA, hla, hoa, hca, hma⟩ := out_var hOut
          obtain ⟨ka, kac, rfl⟩ := hca.v.slice
          have hfr := row_bel HFR.out hB4
          obtain ⟨f0, f1, f2⟩ : W12.cell? ⟨gf, 0, none⟩ = some (.int .i64 F.p) ∧ W12.cell? ⟨gf, 1, none⟩ = some (.int .i64 F.v) ∧ W12.cell? ⟨gf, 2, none⟩ = some (.slice (some ⟨fg, 0, none⟩) F.bs.length fc) := by
            refine ⟨?_, ?_, ?_⟩
            all_goals (rw [cell_of_row _ _ _ _ _ _ hfr]; rfl)
          obtain ⟨x0, x1, x2, x3⟩ := box4 (row_bel HXR.out hB4)
          have HFA4 := hide (HFA.out.below hB4)
          have HXA := hide (HX.out.below hB4)
          have HB5 := hide (bel_of HB4.out hB4)
          have HOA := hide (And.intro hOA (And.intro hla (And.intro hoa (And.intro hca hma))))
          obtain ⟨oa, hoo⟩ : ∃ oa, runO F X = oa := ⟨_, rfl⟩
          have HOO := hide hoo
          rw [hoo] at HOA
          clear hoo
          clear hOA hla hoa hca hma hB4 hOut HX HFA HB4 HFR HXR hfr
          go_wp2_with (refine wpList_var 37 12 rfl rfl rfl rfl (.tmp 103) rfl rfl Z OA.toArray HZ.out.1 (by simp) rfl (by simp only [List.size_toArray, HOA.out.2.1]; exact size37) (by simp only [List.size_toArray, HOA.out.2.1]; exact HZ.out.2) HOA.out.2.2.1 ?_; intro ga W13 hga; have hB5 := hga.out.2.2; rw [hga.out.1] at hB5; have x0 := cell_below hB5 x0; have x1 := cell_below hB5 x1; have x2 := cell_below hB5 x2; have x3 := cell_below hB5 x3; have f0 := cell_below hB5 f0; have f1 := cell_below hB5 f1; have f2 := cell_below hB5 f2)
          have HRUN := run_any F X _ _ W13 (HFA4.out.below hB5) (HXA.out.below hB5)
          refine HRUN.mono ?_
          clear HRUN
          rintro e W14 ⟨x, rfl, hOut, hB12⟩
          rw [HRX.out.2.1]
          have hoo := HOO.out
          rw [hoo] at hOut
          obtain ⟨OB, cvb, rfl, hOB, hlb, hob, hcb, hmb⟩ := out_var hOut
          obtain ⟨kb, kbc, rfl⟩ := hcb.v.slice
          have hra : W14.heap[ga]? = some (Obj.cells OA.toArray 37 (0, 0)) := (hB12.block ga (Array.getElem?_eq_some_iff.1 hga.out.2.1).1).trans hga.out.2.1
          have hcax := (HOA.out.2.2.2.1.below hB5).below hB12
          have HBX := hide (bel_of HB5.out (bel_of hB5 hB12))
          have HOB := hide (And.intro hOB (And.intro hlb (And.intro hob (And.intro hcb hmb))))
          have HA6 := hide (And.intro hra hcax)
          clear hOB hlb hob hcb hmb hra hcax hB12 hOut f0 f1 f2 x0 x1 x2 x3 hoo
          go_wp2_with (first | (refine wpList_var 37 14 rfl rfl rfl rfl (.tmp 109) rfl rfl Z OB.toArray HZ.out.1 (by simp) rfl (by simp only [List.size_toArray, HOB.out.2.1]; exact size37) (by simp only [List.size_toArray, HOB.out.2.1]; exact HZ.out.2) HOB.out.2.2.1 ?_; intro gb W15 hgb; obtain ⟨za, zb, hcs⟩ := two_outs HOA.out HOB.out HA6.out hgb; clear za zb) | (refine wpList_load_rowG rfl (.tmp 12) rfl ga rfl OA.toArray hcs.out.2.2.1 (by simp only [List.size_toArray, HOA.out.2.1]; exact size37) ?_) | (refine wpList_load_rowG rfl (.tmp 14) rfl gb rfl OB.toArray hcs.out.2.2.2.1 (by simp only [List.size_toArray, HOB.out.2.1]; exact size37) ?_))
          refine (same_any oa (.agg OA.toArray) (.agg OB.toArray) _ ⟨.slice ka oa.calls.length kac, by rw [HOA.out.1], hcs.out.1.v, HOA.out.2.2.2.2⟩ ⟨.slice kb oa.calls.length kbc, by rw [HOB.out.1], hcs.out.2.1.v, HOB.out.2.2.2.2⟩).mono ?_
          rintro e W16 ⟨rfl, hB14⟩
          have HB14 := hide (bel_of HBX.out (bel_of hcs.out.2.2.2.2 hB14))
          clear hB14 hcs
          go_wp2_with fail
          go_ret
          exact ⟨rfl, HB14.out⟩
end Go.Proofs.Ytepmbkiojpffpaa
