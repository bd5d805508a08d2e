/- The walk of RunRenamed. -/
import Derived.Test.YtljnngblhfhhaabRw3
import Derived.Test.YtljnngblhfhhaabSo
namespace Go.Proofs.Ytljnngblhfhhaab
open Go.RowKit Ir

theorem Ap.Cur.shift {W W5 : World} {lo gb : Nat} {qs : List Ap.PB} {D : Nat → Nat → Ins} {E : Nat → En} (h : Ap.Cur W lo qs gb D E W) (hB : Below W.heap.size W W5) : Ap.Cur W5 lo qs gb D E W5 :=
  ⟨fun k hk f hf => cell_below hB (h.blk k hk f hf), fun k hk j hj f hf => cell_below hB (h.ins k hk j hj f hf), fun k hk j hj m hm => cell_below hB (h.arg k hk j hj m hm), h.len, fun _ _ => rfl, fun _ => rfl, Below.refl _ _⟩
theorem Ap.Apt.zone {lo hi gb b : Nat} {qs : List Ap.PB} (h : Ap.Apt lo hi qs gb) (hb : Ap.Zone qs gb b) : lo ≤ b ∧ b < hi := by
  rcases hb with rfl | ⟨k, hk, hn, rfl⟩ | ⟨k, j, hk, hj, ha, rfl⟩
  · exact h.zb
  · exact h.zr k hk hn
  · exact h.za k j hk hj ha
theorem row_cells4 {W : World} {g : Nat} {a b c d : Value} {t : TypeId} (h : W.heap[g]? = some (Obj.cells #[a, b, c, d] t (0, 0))) : W.cell? ⟨g, 0, none⟩ = some a ∧ W.cell? ⟨g, 1, none⟩ = some b ∧ W.cell? ⟨g, 2, none⟩ = some c ∧ W.cell? ⟨g, 3, none⟩ = some d := by
  refine ⟨?_, ?_, ?_, ?_⟩
  all_goals (rw [cell_of_row _ _ _ _ _ _ h]; rfl)
theorem sized_all {F : Fun} (h : chk F = (0, 0, 0)) : (0 ≤ F.p ∧ F.p ≤ 4) ∧ F.p ≤ F.v ∧ F.v ≤ 32 ∧ 1 ≤ F.bs.length ∧ F.bs.length ≤ 16 := by
  have h1 := (chk_all (F := F) (by rw [h])).1
  unfold sized at h1
  simp at h1
  omega
theorem small_all {F : Fun} (h : chk F = (0, 0, 0)) : ∀ b ∈ F.bs, b.ins.length ≤ 32 ∧ ∀ i ∈ b.ins, (1 ≤ i.k ∧ i.k ≤ 6) ∧ i.args.length ≤ 3 := by
  intro b hb
  obtain ⟨_, h2⟩ := chk_all (F := F) (by rw [h])
  obtain ⟨q1, q2, q3⟩ := blkF_all (h2 b hb)
  refine ⟨q1, fun i hi => ?_⟩
  obtain ⟨f1, f2, f3⟩ := inF_all (q2 i hi)
  refine ⟨?_, f2⟩
  unfold formed at f1
  by_cases e1 : i.k = 1
  · omega
  by_cases e2 : i.k = 2
  · omega
  by_cases e3 : i.k = 3
  · omega
  by_cases e4 : i.k = 4
  · omega
  by_cases e5 : i.k = 5
  · omega
  by_cases e6 : i.k = 6
  · omega
  · simp [e1, e2, e3, e4, e5, e6] at f1
/-- Renamed, a right function runs alike. -/
theorem run_ren {F : Fun} {X : Inp} {u v : Int} {n pn : Nat} (h : chk F = (0, 0, 0)) (hn : F.v = (n : Int)) (hp : F.p = (pn : Int)) (hl : X.args.length = pn) (hf : 0 ≤ X.fuel ∧ X.fuel ≤ 1048576) (hu : F.p ≤ u ∧ u < F.v) (hv : F.p ≤ v ∧ v < F.v) : runF F X = 0 ∧ runF (renF u v F) X = 0 ∧ runO (renF u v F) X = runO F X := by
  have hs := sized_all h
  have h1 : runF F X = 0 := runF_zero h hp hl hf
  have hr : chk (renF u v F) = (0, 0, 0) := chk_ren h hn (by omega) (by omega)
  have h2 : runF (renF u v F) X = 0 := runF_zero hr hp hl hf
  refine ⟨h1, h2, ?_⟩
  rw [runO_play h1, runO_play h2]
  have hv2 : (renF u v F).v = F.v := rfl
  have hb2 : (renF u v F).bs = F.bs.map (renB u v) := rfl
  rw [hv2, hb2, hn, Int.toNat_natCast]
  have hst : st0 n 0 X = swS u v (st0 n 0 X) := (st0_ren (by omega) (by omega)).symm
  conv => lhs; rw [hst]
  refine play_ren (n := n) (okay_of (by rw [h]) hn) (fun b hb i hi => ((small_all h b hb).2 i hi).1.2) (by omega) (by omega) _ 0 _ (Nat.lt_succ_self _) (by omega) ?_
  exact laidL_len _ _ _
theorem wpList_load_rowG {ops : Array Oper} {rest : List Oper} {o : Oper} {a : Act} {w : World} {Q : Exit → Act → World → Prop} (hw : Region.wanted o (yielded ops a.tmps) = true) (x : Operand) (ho : o.op = .load 37 x) (g : Nat) (hx : a.eval x = .pointer (some ⟨g, 0, none⟩)) (cs : Array Value) (hg : w.heap[g]? = some (.cells cs 37 (0, 0))) (hi : (Try.prog.info? 37).map (·.size) = some cs.size) (h : wpList Try.prog ops Q rest (a.put o.dst (.agg cs)) w) : wpList Try.prog ops Q (o :: rest) a w := by
  refine wpList_step fun K hK => ?_
  rw [if_pos hw]
  exact wp_load_row 37 x ho g hx 37 cs (0, 0) _ hg Try.underlying37 rfl hi (hK _ _ h)
set_option maxHeartbeats 4000000 in
set_option maxRecDepth 100000 in
theorem renamed_walk (v0 v1 : Value) (sa sb sc : Int) (bs : List Int) (I : Inp) (xa xb : Int) (w : World) (hS : SpecV w v0 sa sb sc bs) (hI : InpV w v1 I) (hxa : 0 ≤ xa ∧ xa < 256) (hxb : 0 ≤ xb ∧ xb < 256) : Calls Try.prog 4 #[v0, v1, .int .u8 xa, .int .u8 xb] w fun e w' => e = .returned (.bool true) ∧ Below w.heap.size w w' := by
  have hS' := hS
  obtain ⟨u, rfl, hsa, hsb, hsc, hu⟩ := hS'
  have hI' := hI
  obtain ⟨a, b, c, rfl, ha, hm, hc⟩ := hI'
  obtain ⟨ua, uc, rfl⟩ := hu.slice
  obtain ⟨aa, ac, rfl⟩ := ha.slice
  obtain ⟨ba, bc, rfl⟩ := hm.slice
  obtain ⟨ca, cc, rfl⟩ := hc.slice
  obtain ⟨pn, hpn, hpl⟩ := made_p sa sb sc bs
  have hbox := law_box w (.int .u8 sa) (.int .u8 sb) (.int .u8 sc) (.slice ua bs.length uc) (.slice aa I.args.length ac) (.slice ba I.mem.length bc) (.slice ca I.ans.length cc) (.int .i64 I.fuel)
  have hsz0 : ((w.alloc (.cells #[.int .u8 sa, .int .u8 sb, .int .u8 sc, .slice ua bs.length uc] 24)).alloc (.cells #[.slice aa I.args.length ac, .slice ba I.mem.length bc, .slice ca I.ans.length cc, .int .i64 I.fuel] 27)).heap.size = w.heap.size + 2 := by simp
  have HA := hide (awake_any ((w.alloc (.cells #[.int .u8 sa, .int .u8 sb, .int .u8 sc, .slice ua bs.length uc] 24)).alloc (.cells #[.slice aa I.args.length ac, .slice ba I.mem.length bc, .slice ca I.ans.length cc, .int .i64 I.fuel] 27)))
  have HBOX := hide hbox
  have HSZ0 := hide hsz0
  clear hbox ha hm hc hu hsa hsb hsc hsz0
  go_enter Try.func4, Try.ntmps4
  go_wp2_with fail
  refine HA.out.mono ?_
  rintro e W1 ⟨rfl, hB1⟩
  obtain ⟨s0, s1, s2, s3, i0, i1, i2, i3, hBw⟩ := HBOX.out W1 hB1
  have hs1 : w.heap.size + 2 ≤ W1.heap.size := by rw [← HSZ0.out]; exact hB1.size
  have HI1 := hide (hI.below hBw)
  have HB1 := hide hBw
  have hS1 := hS.below hBw
  clear HBOX HA hB1 HSZ0 hS hI
  go_wp2_with fail
  refine mt_ok (gs := w.heap.size) rfl rfl s0 s1 s2 s3 hS1 ?_
  clear s0 s1 s2 s3 hS1 hBw
  intro q pf pg B2 W0 uf ug W hqf hqg hpf hpg hne hrf hrg hBf hW0 hKp hBg hB2 hwB2 hBelow
  simp [overlay, dstsOf, ops_mt, hqf, hqg]
  have HF := made_right sa sb sc bs
  generalize made sa sb sc bs = F at *
  have HPN := hide hpn
  clear hpn
  have hsz := sized_all HF
  have f0 : W.cell? ⟨pf, 0, none⟩ = some (.int .i64 F.p) := by rw [cell_of_row _ _ _ _ _ _ hrf]; rfl
  have f1 : W.cell? ⟨pf, 1, none⟩ = some (.int .i64 F.v) := by rw [cell_of_row _ _ _ _ _ _ hrf]; rfl
  have hbv1 : F.v - F.p ≤ 32 := by omega
  have hbv2 : 0 ≤ F.v - F.p := by omega
  have HBW := hide (bel_of HB1.out hBelow)
  by_cases hn2 : F.v - F.p < 2
  · clear hqf hqg hrf hrg hBf hKp hBg hBelow HF
    go_wp2_with fail
    go_ret
    exact ⟨rfl, HBW.out⟩
  · have hn3 : 2 ≤ F.v - F.p := by omega
    have j0 := cell_below hBelow i0
    have j1 := cell_below hBelow i1
    have j2 := cell_below hBelow i2
    have j3 := cell_below hBelow i3
    have HJ := hide (And.intro j0 (And.intro j1 (And.intro j2 j3)))
    have HM := hide (And.intro hrf (And.intro hrg (And.intro hBf (And.intro hW0 (And.intro hKp (And.intro hBg (And.intro hB2 (And.intro hwB2 hBelow))))))))
    have HFF := hide (And.intro HF hsz)
    clear hqf hqg hrf hrg hBf hKp hBg hBelow HF hn2 i0 i1 i2 i3 j0 j1 j2 j3 hW0 hB2 hsz
    go_wp2_with fail
    obtain ⟨nn, hnn⟩ : ∃ nn, F.v - F.p = nn := ⟨_, rfl⟩
    rw [hnn] at hn3 hbv1
    have hta : 0 ≤ xa.tmod nn ∧ xa.tmod nn < nn := by rw [Int.tmod_eq_emod_of_nonneg hxa.1]; exact ⟨Int.emod_nonneg _ (by omega), Int.emod_lt_of_pos _ (by omega)⟩
    have htb : 0 ≤ xb.tmod nn ∧ xb.tmod nn < nn := by rw [Int.tmod_eq_emod_of_nonneg hxb.1]; exact ⟨Int.emod_nonneg _ (by omega), Int.emod_lt_of_pos _ (by omega)⟩
    have hsz := HFF.out.2
    obtain ⟨U, hU⟩ : ∃ U, F.p + xa.tmod nn = U := ⟨_, rfl⟩
    obtain ⟨V, hV⟩ : ∃ V, F.p + xb.tmod nn = V := ⟨_, rfl⟩
    have hUV : (F.p ≤ U ∧ U < F.v) ∧ (F.p ≤ V ∧ V < F.v) := by omega
    refine rn7_ok (pf := pf) (p := F.p) (n := nn) (ya := xa.tmod nn) (yb := xb.tmod nn) (U := U) (V := V) rfl rfl rfl rfl ?_ f0 hxa hxb (by rw [beq_eq_false_iff_ne]; omega) rfl rfl hU hV (by omega) (by omega) ?_
    · rw [← hnn]; rfl
    intro q7 gu gv W5 hq12 hq13 hgu hgv hru hrv hB5
    simp [overlay, dstsOf, ops_rn7, hq12, hq13]
    obtain ⟨hrf, hrg, hBf, hW0, hKp, hBg, hB2, hwB2, hBelow⟩ := HM.out
    obtain ⟨qs, gb, cb, rfl, hqs, hown, hR, hApt, hCur, hZt⟩ := Ap.cur_start hBg (by omega)
    have hC5 := hCur.shift hB5
    have hrf5 := (hB5.block pf (Array.getElem?_eq_some_iff.1 hrf).1).trans hrf
    have hrg5 := (hB5.block pg (Array.getElem?_eq_some_iff.1 hrg).1).trans hrg
    have g2 : W5.cell? ⟨pg, 2, none⟩ = some (.slice (some ⟨gb, 0, none⟩) qs.length cb) := by rw [cell_of_row _ _ _ _ _ _ hrg5]; rfl
    have hZ5 : ∀ b, Ap.Zone qs gb b → ∃ cs t, W5.heap[b]? = some (Obj.cells cs t (0, 0)) ∧ (t = 48 ∨ t = 53 ∨ t = 3) := by
      intro b hb
      obtain ⟨cs, t, h1, h2⟩ := hZt b hb
      exact ⟨cs, t, (hB5.block b (Array.getElem?_eq_some_iff.1 h1).1).trans h1, h2⟩
    have hno : ∀ b cs, W5.heap[b]? = some (Obj.cells cs 31 (0, 0)) → ¬ Ap.Zone qs gb b := by
      intro b cs h1 h2
      obtain ⟨cs', t, h3, h4⟩ := hZ5 b h2
      rw [h1] at h3
      simp only [Option.some.injEq, Obj.cells.injEq] at h3
      rcases h4 with rfl | rfl | rfl
      · exact absurd h3.2.1 (by decide)
      · exact absurd h3.2.1 (by decide)
      · exact absurd h3.2.1 (by decide)
    have hX : Boxes W5 qs gb gu gv U V := ⟨hru, hrv, fun h => by have := hApt.zone h; omega, fun h => by have := hApt.zone h; omega⟩
    have hfz : ∀ b o, Ap.Zone qs gb b → W5.frozen? ⟨b, o, none⟩ = false := by
      intro b o hb
      obtain ⟨cs, t, h1, _⟩ := hZ5 b hb
      exact frozen_of_row _ _ _ _ _ h1
    have hVals : Vals qs := vals_of hR (by rw [hqs]; exact small_all HFF.out.1)
    have hql : qs.length = F.bs.length := by rw [← hqs, List.length_map]
    have hmf : ∀ (fn : Fn) (first cap : Array Value) (w : World), (Instr.makeFunc fn first cap).run Try.prog w = .ok (.func fn first cap) w := fun _ _ _ _ => rfl
    have hqi : (qs.length : Int) ≤ 16 := by omega
    have HALL := hide (And.intro hC5 (And.intro hApt (And.intro hX (And.intro hfz (And.intro hVals (And.intro hrg5 (hno pg _ hrg5)))))))
    have HNF := hide (And.intro hrf5 (And.intro (hno pf _ hrf5) (And.intro hql (And.intro hqs (And.intro hown (And.intro hR hB5))))))
    clear hq12 hq13 hru hrv hrf hrg hBf hW0 hKp hBg hB2 hBelow hqs hown hR hApt hCur hZt hC5 hrf5 hrg5 hZ5 hno hX hfz hVals f0 f1 hB5 hql
    go_wp2_with fail
    refine blk_loop (gu := gu) (gv := gv) (pg := pg) (U := U) (V := V) (v5 := .pointer (some ⟨w.heap.size + 1, 0, none⟩)) (v9 := .pointer (some ⟨pf, 0, none⟩)) (v16 := undef) (v18 := undef) (v67 := undef) (v68 := undef) ?_ HALL.out.1 HALL.out.2.1 HALL.out.2.2.1 HALL.out.2.2.2.1 HALL.out.2.2.2.2.1 (by omega) HALL.out.2.2.2.2.2.1 HALL.out.2.2.2.2.2.2 ?_
    · exact ⟨rfl, rfl, rfl, rfl, rfl, rfl, rfl, rfl, rfl, rfl, rfl, rfl⟩
    intro a' w' v16' v18' v67' v68' hA' hC'
    obtain ⟨ρ, rfl⟩ := hA'.lit
    simp only [clos]
    obtain ⟨hrf, hrg, hBf, hW0, hKp, hBg, hB2, hwB2, hBelow⟩ := HM.out
    obtain ⟨hrf5, hnf, hql, hqs, hown, hR, hB5⟩ := HNF.out
    have hWs : W.heap.size ≤ W5.heap.size := hB5.size
    have hW1s : W1.heap.size ≤ W.heap.size := hBelow.size
    have hrfw : w'.heap[pf]? = _ := (hC'.out pf hnf).trans hrf5
    have hrgw : w'.heap[pg]? = _ := (hC'.out pg HALL.out.2.2.2.2.2.2).trans HALL.out.2.2.2.2.2.1
    have hBel1 : Below W1.heap.size W1 w' := hBelow.trans ((hB5.mono hW1s).trans (hC'.bel.mono hwB2))
    have hlt : ∀ j v, W.cell? ⟨w.heap.size + 1, j, none⟩ = some v → w'.cell? ⟨w.heap.size + 1, j, none⟩ = some v := fun j v h => (hC'.bel.cell (p := ⟨w.heap.size + 1, j, none⟩) (by show w.heap.size + 1 < B2; omega)).trans (cell_below hB5 h)
    obtain ⟨j0, j1, j2, j3⟩ := HJ.out
    have k0 := hlt 0 _ j0
    have k1 := hlt 1 _ j1
    have k2 := hlt 2 _ j2
    have k3 := hlt 3 _ j3
    have hKf : Keeps T41 W0 w' := by
      intro g cs t fr ht h0
      have hg0 : g < W0.heap.size := (Array.getElem?_eq_some_iff.1 h0).1
      have h1 := hKp g cs t fr ht h0
      rw [hC'.bel.block g (by omega), hB5.block g (Array.getElem?_eq_some_iff.1 h1).1]
      exact h1
    have hFv := (hBf.keeps hKf).v
    obtain ⟨fa, fc, rfl⟩ := hFv.slice
    have hGv : BlksV w' (.slice (some ⟨gb, 0, none⟩) qs.length cb) (renF U V F).bs := by
      have h1 := hC'.blks hown hR
      rw [Ap.blksOf_ren hR, hqs] at h1
      exact h1
    have f0 : w'.cell? ⟨pf, 0, none⟩ = some (.int .i64 F.p) := by rw [cell_of_row _ _ _ _ _ _ hrfw]; rfl
    have hIw := HI1.out.below hBel1
    have HIN : Hid (Calls Try.prog 7 #[.agg #[.slice aa I.args.length ac, .slice ba I.mem.length bc, .slice ca I.ans.length cc, .int .i64 I.fuel], .int .i64 F.p] w' fun e w2 => ∃ x, e = .returned x ∧ InpV w2 x (inpOf I pn) ∧ Below w'.heap.size w' w2) := by
      rw [HPN.out]
      exact input_any _ I pn _ hIw hpl
    have HST := hide (And.intro hrfw (And.intro hrgw (And.intro hFv (And.intro hGv (HB1.out.trans (hBel1.mono (by omega)))))))
    obtain ⟨chF, szF⟩ := HFF.out
    have HUV := hide hUV
    have HCHF := hide (And.intro chF szF)
    clear hC' hA' hrf hrg hBf hW0 hKp hBg hB2 hwB2 hBelow hrf5 hnf hql hqs hown hR hB5 hWs hW1s hrfw hrgw hBel1 hlt j0 j1 j2 j3 hKf hFv hGv hIw HM HNF HALL HJ HI1 hUV hU hV hta htb hnn hsz chF szF hn3 hbv1 hbv2 hs1 hgu hgv hpf hpg hne hqi hmf g2
    go_wp2_with fail
    refine HIN.out.mono ?_
    clear HIN k0 k1 k2 k3 f0
    rintro e W6 ⟨x, rfl, hX, hB6⟩
    have hX' := hX
    obtain ⟨x0, x1, x2, rfl, hx0, hx1, hx2⟩ := hX'
    obtain ⟨xpa, xpac, rfl⟩ := hx0.slice
    obtain ⟨xpb, xpbc, rfl⟩ := hx1.slice
    obtain ⟨xpc, xpcc, rfl⟩ := hx2.slice
    have hfu : 0 ≤ (inpOf I pn).fuel ∧ (inpOf I pn).fuel < 400 := by rw [show (inpOf I pn).fuel = (I.fuel % 18446744073709551616) % 400 from rfl]; omega
    have hxl : Hid ((inpOf I pn).args.length = pn) := argsOf_len _ _
    generalize inpOf I pn = X at *
    obtain ⟨hrfw, hrgw, hFv, hGv, hBw'⟩ := HST.out
    have hrf6 := (hB6.block pf (Array.getElem?_eq_some_iff.1 hrfw).1).trans hrfw
    have hrg6 := (hB6.block pg (Array.getElem?_eq_some_iff.1 hrgw).1).trans hrgw
    have hbb := bel1' W6 (.cells #[.slice xpa X.args.length xpac, .slice xpb X.mem.length xpbc, .slice xpc X.ans.length xpcc, .int .i64 X.fuel] 27)
    have hrf7 := (hbb.block pf (Array.getElem?_eq_some_iff.1 hrf6).1).trans hrf6
    have hrg7 := (hbb.block pg (Array.getElem?_eq_some_iff.1 hrg6).1).trans hrg6
    obtain ⟨f0, f1, f2, _⟩ := box3 hrf7
    have hFA : FunV (W6.alloc (.cells #[.slice xpa X.args.length xpac, .slice xpb X.mem.length xpbc, .slice xpc X.ans.length xpcc, .int .i64 X.fuel] 27)) (.agg #[.int .i64 F.p, .int .i64 F.v, .slice fa F.bs.length fc]) F := ⟨_, rfl, (hFv.below hB6).below hbb⟩
    have hGA : FunV (W6.alloc (.cells #[.slice xpa X.args.length xpac, .slice xpb X.mem.length xpbc, .slice xpc X.ans.length xpcc, .int .i64 X.fuel] 27)) (.agg #[.int .i64 F.p, .int .i64 F.v, .slice (some ⟨gb, 0, none⟩) qs.length cb]) (renF U V F) := ⟨_, rfl, (hGv.below hB6).below hbb⟩
    have hXA := hX.below hbb
    have hszF := HCHF.out.2
    obtain ⟨vn, hvn⟩ : ∃ vn : Nat, F.v = (vn : Int) := ⟨F.v.toNat, by omega⟩
    obtain ⟨r1, r2, r3⟩ := run_ren HCHF.out.1 hvn HPN.out hxl.out (by omega) HUV.out.1 HUV.out.2
    have HRR := hide (And.intro r1 (And.intro r2 r3))
    have HC1 := hide (run_any F X _ _ _ hFA hXA)
    have HRX := hide (heap_alloc_new W6 (.cells #[.slice xpa X.args.length xpac, .slice xpb X.mem.length xpbc, .slice xpc X.ans.length xpcc, .int .i64 X.fuel] 27))
    have HST7 := hide (And.intro hrg7 (And.intro hGA (And.intro hXA (bel_of hBw' (bel_of hB6 hbb)))))
    obtain ⟨Z, hz, hzs⟩ := z37
    have HZ := hide (And.intro hz hzs)
    clear hz hzs hX hx0 hx1 hx2 hB6 hrfw hrgw hFv hGv hBw' hrf6 hrg6 hbb hrf7 hrg7 hFA hGA hXA hszF hvn r1 r2 r3 HST hfu
    go_wp2_with fail
    refine HC1.out.mono ?_
    clear HC1 f0 f1 f2
    generalize W6.alloc (.cells #[.slice xpa X.args.length xpac, .slice xpb X.mem.length xpbc, .slice xpc X.ans.length xpcc, .int .i64 X.fuel] 27) = A3 at *
    generalize W6.heap.size = gx at *
    rintro e W8 ⟨x, rfl, hOut, hB8⟩
    rw [HRR.out.1]
    obtain ⟨OA, cva, rfl, hOA, hla, hoa, hca, hma⟩ := out_var hOut
    have HOA := hide (And.intro hOA (And.intro hla (And.intro hoa (And.intro hca hma))))
    have HB8 := hide hB8
    clear hOA hla hoa hca hma hOut hB8
    obtain ⟨hrg7, hGA, hXA, hBA⟩ := HST7.out
    have hrg8 := (HB8.out.block pg (Array.getElem?_eq_some_iff.1 hrg7).1).trans hrg7
    have hrx8 := (HB8.out.block gx (Array.getElem?_eq_some_iff.1 HRX.out).1).trans HRX.out
    have HR8 := hide (And.intro hrg8 (And.intro hrx8 (And.intro hGA (And.intro hXA hBA))))
    clear hrg7 hGA hXA hBA hrg8 hrx8 HST7 HRX
    go_wp2_with (refine wpList_var 37 21 rfl rfl rfl rfl (.tmp 184) rfl rfl Z OA.toArray HZ.out.1 (Nat.le_of_ble_eq_true rfl) rfl (by simp only [List.size_toArray, HOA.out.2.1]; exact size37) (by simp only [List.size_toArray, HOA.out.2.1]; exact HZ.out.2) HOA.out.2.2.1 ?_; intro ga W9 hga; have hB9 := hga.out.2.2; rw [hga.out.1] at hB9; obtain ⟨hrg8, hrx8, hGA, hXA, hBA⟩ := HR8.out; have hrg9 := (hB9.block pg (Array.getElem?_eq_some_iff.1 hrg8).1).trans hrg8; have hrx9 := (hB9.block gx (Array.getElem?_eq_some_iff.1 hrx8).1).trans hrx8; obtain ⟨g0, g1, g2, _⟩ := box3 hrg9; obtain ⟨y0, y1, y2, y3⟩ := row_cells4 hrx9; clear hrg8 hrx8 hGA hXA hBA hrg9 hrx9)
    obtain ⟨_, _, hGA, hXA, hBA⟩ := HR8.out
    have hBA9 := bel_of HB8.out hB9
    refine (run_any (renF U V F) X _ _ W9 (hGA.below hBA9) (hXA.below hBA9)).mono ?_
    rintro e W10 ⟨x, rfl, hOut, hB10⟩
    rw [HRR.out.2.1]
    rw [HRR.out.2.2] at hOut
    obtain ⟨OB, cvb, rfl, hOB, hlb, hob, hcb, hmb⟩ := out_var hOut
    have hra : W10.heap[ga]? = some (Obj.cells OA.toArray 37 (0, 0)) := (hB10.block ga (Array.getElem?_eq_some_iff.1 hga.out.2.1).1).trans hga.out.2.1
    have hcax := (HOA.out.2.2.2.1.below hB9).below hB10
    have HBW10 := hide (bel_of hBA (bel_of hBA9 hB10))
    have HOB := hide (And.intro hOB (And.intro hlb (And.intro hob (And.intro hcb hmb))))
    have HA6 := hide (And.intro hra hcax)
    generalize runO F X = oa at *
    clear hOB hlb hob hcb hmb hra hcax hB10 hOut hBA9 hBA hGA hXA hB9 g0 g1 g2 y0 y1 y2 y3 HR8
    go_wp2_with (first | (refine wpList_var 37 23 rfl rfl rfl rfl (.tmp 190) rfl rfl Z OB.toArray HZ.out.1 (Nat.le_of_ble_eq_true rfl) rfl (by simp only [List.size_toArray, HOB.out.2.1]; exact size37) (by simp only [List.size_toArray, HOB.out.2.1]; exact HZ.out.2) HOB.out.2.2.1 ?_; intro gq W11 hgq; obtain ⟨za, zb, hcs⟩ := two_outs HOA.out HOB.out HA6.out hgq; clear za zb) | (refine wpList_load_rowG rfl (.tmp 21) rfl ga rfl OA.toArray hcs.out.2.2.1 (by simp only [List.size_toArray, HOA.out.2.1]; exact size37) ?_) | (refine wpList_load_rowG rfl (.tmp 23) rfl gq rfl OB.toArray hcs.out.2.2.2.1 (by simp only [List.size_toArray, HOB.out.2.1]; exact size37) ?_))
    refine (same_any oa (.agg OA.toArray) (.agg OB.toArray) _ ⟨cva, by rw [HOA.out.1], hcs.out.1.v, HOA.out.2.2.2.2⟩ ⟨cvb, by rw [HOB.out.1], hcs.out.2.1.v, HOB.out.2.2.2.2⟩).mono ?_
    rintro e W14 ⟨rfl, hB14⟩
    have HB14 := hide (bel_of HBW10.out (bel_of hcs.out.2.2.2.2 hB14))
    clear hB14 hcs
    go_wp2_with fail
    go_ret
    exact ⟨rfl, HB14.out⟩
end Go.Proofs.Ytljnngblhfhhaab
