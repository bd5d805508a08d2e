/- FlowStays: behind it no Join changes anything. -/
import Derived.Test.YtblcbccchlljhaaRs
namespace Go.Proofs.Ytblcbccchlljhaa
open Go.RowKit Ir Wy

theorem z51 (W : World) : (zeroValue 51).run Try.prog W = .ok (.agg #[.int .i64 0, .nilFunc, .nilFunc, .nilFunc, .nilFunc]) W := by kernel_rfl
theorem sz51 {x0 x1 x2 x3 x4 : Value} : (Try.prog.info? 51).map (·.size) = some (#[x0, x1, x2, x3, x4] : Array Value).size := by kernel_rfl
theorem one51 (x0 : Int) (f1 f2 f3 f4 : Fn) (a1 a2 a3 a4 c1 c2 c3 c4 : Array Value) : ∀ v ∈ (#[.int .i64 x0, .func f1 a1 c1, .func f2 a2 c2, .func f3 a3 c3, .func f4 a4 c4] : Array Value).toList, v.oneCell' = true := by
  intro v hv
  simp at hv
  rcases hv with rfl | rfl | rfl | rfl | rfl <;> rfl
/-- A problem is put into a new box. -/
theorem wpList_store51 {ops : Array Oper} {rest : List Oper} {o : Oper} {a : Act} {w w0 : World} {Q : Exit → Act → World → Prop} (hgd : o.guard = none) (x y : Operand) (ho : o.op = .store 51 x y) (g : Nat) (hx : a.eval x = .pointer (some ⟨g, 0, none⟩)) (x0 : Int) (f1 f2 f3 f4 : Fn) (a1 a2 a3 a4 c1 c2 c3 c4 : Array Value) (hy : a.eval y = .agg #[.int .i64 x0, .func f1 a1 c1, .func f2 a2 c2, .func f3 a3 c3, .func f4 a4 c4])
    (hg : Hid (g = w0.heap.size ∧ w.heap[g]? = some (.cells (Value.agg #[.int .i64 0, .nilFunc, .nilFunc, .nilFunc, .nilFunc]).cells 51 (0, 0)) ∧ Below g w0 w))
    (hK : ∀ w', Hid (w'.heap[g]? = some (.cells #[.int .i64 x0, .func f1 a1 c1, .func f2 a2 c2, .func f3 a3 c3, .func f4 a4 c4] 51 (0, 0))) → Hid (Below w0.heap.size w0 w') → wpList Try.prog ops Q rest (a.put o.dst undef) w') : wpList Try.prog ops Q (o :: rest) a w := by
  have hr : w.heap[g]? = some (.cells #[.int .i64 0, .nilFunc, .nilFunc, .nilFunc, .nilFunc] 51 (0, 0)) := hg.out.2.1
  refine Bg.wpList_store_whole hgd 51 x y ho g 51 _ _ hx hy hr sz51 rfl (one51 x0 f1 f2 f3 f4 a1 a2 a3 a4 c1 c2 c3 c4) ?_
  intro w' h1 h2 h3
  refine hK w' h1 (hide ?_)
  have hb := hg.out.2.2.mono (show w0.heap.size ≤ g by rw [hg.out.1]; exact Nat.le_refl _)
  exact hb.grown h2.out hb.size (fun k e => by cases e; rw [hg.out.1]; exact Nat.le_refl _)
/-- The functions of FlowStays' problem. -/
theorem stays_fns {w3 w4 w5 w6 w8 : World} {back : Bool} {pb gm gl cl : Nat} {al : Option Addr} {es : List En} {ms cs : List Int} {Vm Vl : Nat → Value} {vF : Value} (hvF : fromV back pb = vF) (hin : EndsIn es) (h7 : es.length ≤ 7) (hp : w6.heap[pb]? = some (.cells #[.slice al es.length cl] 26 (0, 0))) (hE : EndsV w5 (.slice al es.length cl) es) (hW : Wst w3 gm gl es.length w4 Vm Vl (fun b => ci (mkL es.length ms ms.length b)) (fun b => ci (mkL es.length cs cs.length b))) (h5 : Below w4.heap.size w4 w5)
    (hm : w5.heap[w4.heap.size]? = some (.cells #[.slice (some ⟨gm, 0, none⟩) es.length es.length] 30 (0, 0))) (hl : w5.heap[w4.heap.size + 1]? = some (.cells #[.slice (some ⟨gl, 0, none⟩) es.length es.length] 30 (0, 0))) (h6 : Below w5.heap.size w5 w6) (h8 : Below w6.heap.size w6 w8) :
    S.FnsOk w8 (sP back es (mset es.length cs) ms cs) vF (.func (.func 25) #[] #[.pointer (some ⟨w4.heap.size + 1, 0, none⟩)]) (.func (.func 13) #[] #[]) (.func (.func 26) #[] #[.pointer (some ⟨w4.heap.size + 1, 0, none⟩), .pointer (some ⟨w4.heap.size, 0, none⟩)]) := by
  subst hvF
  have hB58 := bel_of h6 h8
  have hB48 := bel_of h5 hB58
  have tm := marks_tab hW ((hB58.block _ (heap_lt' hm)).trans hm) hB48
  have tl := marks_tab hW.swap ((hB58.block _ (heap_lt' hl)).trans hl) hB48
  have len : ∀ bs : List Int, ∀ a, (ci (mkL es.length bs bs.length a)).length ≤ 1000 := fun bs a => by
    rw [List.length_map]
    have := (mkL_len es.length bs bs.length a).2
    omega
  exact sP_fns w8 back pb (w4.heap.size + 1) w4.heap.size al cl es ms cs (mset es.length cs) _ _ hin h7 ((h8.block _ (heap_lt' hp)).trans hp) (hE.below hB58) tl tm
    (fun W hW b hb => callV_func Try.func25 rfl rfl (of25 es.length b _ _ W (tl.below hW) hb (len cs b)))
    (fun a v f W hv tl tm ha => callV_func Try.func26 rfl rfl (pass26 es.length a v f _ _ _ _ W hv tl tm ha (len cs a) (len ms a)))
/-- Solve, at FlowStays' problem. -/
theorem stays_solve {w8 : World} {back : Bool} {pb : Nat} {es : List En} {ms cs : List Int} {vF vI vP : Value} (hvF : fromV back pb = vF) (hin : EndsIn es) (h0 : 0 < es.length) (h7 : es.length ≤ 7) {fI fP : Fn} {aI cI aP' cP : Array Value} (hf : S.FnsOk w8 (sP back es (mset es.length cs) ms cs) vF vI (.func (.func 13) #[] #[]) vP) (eI : vI = .func fI aI cI) (eP : vP = .func fP aP' cP) :
    Calls Try.prog 11 #[.agg #[.int .i64 (es.length : Int), vF, vI, .func (.func 13) #[] #[], vP]] w8 fun e w' => ∃ g cap fs, e = .returned (.slice (some ⟨g, 0, none⟩) es.length cap) ∧ w8.heap.size ≤ g ∧ (sP back es (mset es.length cs) ms cs).Come fs ∧ (sP back es (mset es.length cs) ms cs).Still fs ∧ S.FactsAt w' g es.length fs ∧ Below w8.heap.size w8 w' := by
  subst hvF
  exact sP_solve w8 back pb es ms cs (mset es.length cs) hin h0 h7 (mset_fit es.length cs) hf eI eP
set_option maxHeartbeats 8000000 in
set_option maxRecDepth 100000 in
theorem stays_walk (v0 v1 v2 : Value) (back : Bool) (a b c : Int) (bs ms cs : List Int) (w : World) (hs : SpecV w v0 a b c bs) (hm : Byt w v1 ms) (hc : Byt w v2 cs) :
    Calls Try.prog 5 #[v0, v1, v2, .bool back] w fun e w' => e = .returned (.bool true) ∧ Below w.heap.size w w' := by
  obtain ⟨h0, h7, hin⟩ := made_ok a b c bs
  obtain ⟨u, rfl, hs1⟩ := hs
  obtain ⟨ao, cap, rfl⟩ := hs1.2.2.2.slice
  have hB1 := bel1' w (.cells #[.int .u8 a, .int .u8 b, .int .u8 c, .slice ao bs.length cap] 24)
  have HS := hide (show SpecV (w.alloc (.cells #[.int .u8 a, .int .u8 b, .int .u8 c, .slice ao bs.length cap] 24)) (.agg #[.int .u8 a, .int .u8 b, .int .u8 c, .slice ao bs.length cap]) a b c bs from ⟨_, rfl, hs1.1, hs1.2.1, hs1.2.2.1, hs1.2.2.2.below hB1⟩)
  have HMs := hide hm
  have HCs := hide hc
  have HB1 := hide hB1
  have hcell := heap_alloc_new w (.cells #[.int .u8 a, .int .u8 b, .int .u8 c, .slice ao bs.length cap] 24)
  have HC := hide hcell
  clear hB1 hs1 hm hc hcell
  go_enter Try.func5, Try.ntmps5
  go_wp2_with fail
  refine (awake_any _).mono ?_
  rintro e w2 ⟨rfl, hB2⟩
  have hrow := (hB2.block _ (heap_lt' HC.out)).trans HC.out
  have k0 : w2.cell? ⟨w.heap.size, 0, none⟩ = some (.int .u8 a) := by rw [cell_of_row _ _ _ _ _ _ hrow]; rfl
  have k1 : w2.cell? ⟨w.heap.size, 1, none⟩ = some (.int .u8 b) := by rw [cell_of_row _ _ _ _ _ _ hrow]; rfl
  have k2 : w2.cell? ⟨w.heap.size, 2, none⟩ = some (.int .u8 c) := by rw [cell_of_row _ _ _ _ _ _ hrow]; rfl
  have k3 : w2.cell? ⟨w.heap.size, 3, none⟩ = some (.slice ao bs.length cap) := by rw [cell_of_row _ _ _ _ _ _ hrow]; rfl
  have HM := hide (made_any _ a b c bs w2 (show SpecV w2 (.agg #[.int .u8 a, .int .u8 b, .int .u8 c, .slice ao bs.length cap]) a b c bs from by
    obtain ⟨u, e, h1, h2, h3, h4⟩ := HS.out
    exact ⟨u, e, h1, h2, h3, h4.below hB2⟩))
  have HB2 := hide (bel_of HB1.out hB2)
  clear hB2 hrow HS HB1 HC
  go_wp2_with fail
  refine HM.out.mono ?_
  rintro e w3 ⟨u, rfl, hO, hB3⟩
  have HE := hide hO.v.ends
  have HB3 := hide (bel_of HB2.out hB3)
  clear hO hB3 HM HB2 k0 k1 k2 k3
  generalize (made a b c bs).bs.map (·.e) = es at *
  obtain ⟨al, cl, rfl⟩ := HE.out.slice
  have hf28 := run_f28 (made a b c bs).p (made a b c bs).v al es.length cl
  have hmf : ∀ (fn : Fn) (first cap : Array Value) (w : World), (Instr.makeFunc fn first cap).run Try.prog w = .ok (.func fn first cap) w := fun _ _ _ _ => rfl
  go_wp2_with (go_at_call 9; refine (marks_any w3 al es.length cl v1 v2 ms cs h0 (by omega) (HMs.out.below HB3.out) (HCs.out.below HB3.out)).mono ?_; rintro e w4 ⟨gm, gl, Vm, Vl, rfl, hW4⟩; have HW4 := hide hW4; clear hW4)
  have HW5 := hide ((bel1' w4 (.cells #[.slice (some ⟨gm, 0, none⟩) es.length es.length] 30)).trans ((bel1' (w4.alloc (.cells #[.slice (some ⟨gm, 0, none⟩) es.length es.length] 30)) (.cells #[.slice (some ⟨gl, 0, none⟩) es.length es.length] 30)).mono (by simp)))
  have HPM := hide ((bel1' (w4.alloc (.cells #[.slice (some ⟨gm, 0, none⟩) es.length es.length] 30)) (.cells #[.slice (some ⟨gl, 0, none⟩) es.length es.length] 30)).block w4.heap.size (by simp) |>.trans (heap_alloc_new w4 _))
  have HPL := heap_alloc_new (w4.alloc (.cells #[.slice (some ⟨gm, 0, none⟩) es.length es.length] 30)) (.cells #[.slice (some ⟨gl, 0, none⟩) es.length es.length] 30)
  rw [World.size_alloc] at HPL
  have HPL := hide HPL
  generalize (w4.alloc (.cells #[.slice (some ⟨gm, 0, none⟩) es.length es.length] 30)).alloc (.cells #[.slice (some ⟨gl, 0, none⟩) es.length es.length] 30) = w5 at *
  refine (ahead_new w5 al es.length cl back).mono ?_
  rintro e w6 ⟨pb, fb, rfl, hfb, hp6, hB6⟩
  have HP6 := hide hp6
  have HB6 := hide hB6
  have HFB := hide hfb
  clear hp6 hB6 hfb
  have HE5 := hide ((HE.out.below HW4.out.below).below HW5.out)
  have HB5 := hide (bel_of (bel_of HB3.out HW4.out.below) HW5.out)
  go_wp2_with (first | (refine Bg.wpList_newv 12 rfl rfl 51 rfl (.agg #[.int .i64 0, .nilFunc, .nilFunc, .nilFunc, .nilFunc]) z51 ?_; intro pp w7 h7') | (refine wpList_store51 rfl (.tmp 12) (.tmp 37) rfl pp rfl _ _ _ _ _ _ _ _ _ _ _ _ _ rfl h7' ?_; intro w8 h8 h9; have HFN := hide (stays_fns (back := back) HFB.out hin h7 HP6.out HE5.out HW4.out HW5.out HPM.out HPL.out HB6.out h9.out); have HSO := hide (stays_solve HFB.out hin h0 h7 HFN.out rfl rfl); clear h7') | (refine Bg.wpList_load_row rfl 51 (.tmp 12) rfl pp rfl 51 _ _ h8.out Try.underlying51 rfl sz51 ?_) | (go_at_call 11; refine HSO.out.mono ?_; rintro e w9 ⟨g, cap, fs, rfl, hg, hCo, hSt, hFa, hB9⟩))
  have HG := hide hg
  have HCO := hide hCo
  have HST := hide hSt
  have HB8 := hide (bel_of (bel_of HB5.out HB6.out) h9.out)
  have HF9 := hide hFa
  have HB9 := hide hB9
  have HPN : Hid ((sP back es (mset es.length cs) ms cs).Ok (fun fs => Fl.sum es.length fun b => left (fs b) 4096)) := hide (Fl.sets_ok (sP_fit hin (mset_fit es.length cs) ms))
  clear hg hCo hSt hFa hB9 HSO hf28 hmf
  go_loopw [14, 16, 42] (fun _ _ iv wr => ∃ b : Nat, b ≤ es.length ∧ iv = .int .i64 b ∧ Hid (S.FactsAt wr g es.length fs) ∧ Hid (Below w8.heap.size w8 wr)) (fun _ _ iv _ => es.length - (intOf iv).toNat)
  case atStart => exact ⟨0, by omega, rfl, HF9, HB9⟩
  case round =>
    obtain ⟨b, hb, rfl, hF, hB⟩ := hrel
    by_cases hbl : b < es.length
    · have hbl' : (b : Int) < (es.length : Int) := by omega
      have H8r := hide ((hB.out.block pp (heap_lt' h8.out)).trans h8.out)
      have k1 : wr.cell? ⟨pp, 1, none⟩ = some (.func (.func fb) #[] #[.pointer (some ⟨pb, 0, none⟩)]) := (cell_of_row _ _ _ _ _ _ H8r.out).trans rfl
      have hcall := HFN.out.frm wr hB.out b hbl
      go_wp2_with (refine wpList_callv rfl (.tmp 46) #[.tmp 47] #[3] rfl (.func (.func fb) #[] #[.pointer (some ⟨pb, 0, none⟩)]) rfl #[.int .i64 (b : Int)] (by simp [Act.eval]) ?_)
      refine hcall.mono ?_
      rintro e w10 ⟨u, rfl, hu, hB10⟩
      obtain ⟨au, cu, rfl⟩ := hu.slice
      have hlc : (ci (frmE back es b)).length = (frmE back es b).length := List.length_map _
      have hu' : ArgsO wr.heap.size w10 (.slice au (ci (frmE back es b)).length cu) (ci (frmE back es b)) := hu
      rw [hlc] at hu'
      have HU := hide hu'
      have HF10 := hide (hF.out.below hB10)
      have HB10 := hide (bel_of hB.out hB10)
      have hgw := hide ((hF.out b hbl).lt)
      have hfl := frmE_len (back := back) h7 b
      clear hcall hu hu' hB10 k1
      show ∃ u, Ending.returned (Value.slice au (ci (frmE back es b)).length cu) = .returned u ∧ _
      rw [hlc]
      refine ⟨_, rfl, ?_⟩
      go_wp2_with fail
      go_loopw [16, 50] (fun _ jv wq => ∃ j : Nat, j ≤ (frmE back es b).length ∧ jv = .int .i64 j ∧ Hid (S.FactsAt wq g es.length fs) ∧ Hid (Below w8.heap.size w8 wq) ∧ Hid (w10.grownBy wq (some g))) (fun _ jv _ => (frmE back es b).length - (intOf jv).toNat)
      case atStart => exact ⟨0, by omega, rfl, HF10, HB10, hide (Bg.gb_refl _ _)⟩
      case round =>
        rename World => wq
        obtain ⟨j, hj, rfl, hFq, hBq, hGq⟩ := hrel
        by_cases hjl : j < (frmE back es b).length
        · have hjl' : (j : Int) < ((frmE back es b).length : Int) := by omega
          have hrow := HU.out.stays (w' := wq) fun k hk => hGq.out.block k (HU.out.lt k hk).2 (fun e => by have := (HU.out.lt k hk).1; have := hgw.out; simp at e; omega)
          obtain ⟨gu, ou, rfl, hcu⟩ := hrow.v.at j (by rw [hlc]; exact hjl)
          rw [ci_getD hjl] at hcu
          have hmem : (frmE back es b).getD j 0 ∈ frmE back es b := by rw [getD_get _ _ _ hjl]; exact List.getElem_mem hjl
          have han := frmE_lt hin hbl _ hmem
          generalize (frmE back es b).getD j 0 = x at *
          have HM := hide hmem
          have H8q := hide ((hBq.out.block pp (heap_lt' h8.out)).trans h8.out)
          have hdoes := hide (HST.out b hbl x hmem)
          clear hrow hmem
          go_wp2_with fail
          refine S.t13_ok HFN.out g cap b x pp fs 51 rfl rfl rfl rfl rfl H8q.out hBq.out HG.out HCO.out hbl han HM.out hFq.out ?_
          intro s W hs67 hFW hgW
          rw [HPN.out.stay fs b x HCO.out hbl han HM.out hdoes.out] at hFW
          rw [hdoes.out] at hs67
          have HFW := hide hFW
          have HGW := hide (hGq.out.trans hgW)
          have HBW := hide (hBq.out.grown hgW hBq.out.size (fun k e => by cases e; exact HG.out))
          clear hFW hgW
          simp [overlay, dstsOf, S.ops_t13, hs67]
          clear hs67
          go_wp2_with fail
          go_roundw
          case rel => exact ⟨j + 1, by omega, by go_num, HFW, HBW, HGW⟩
          case measure => simp [intOf]; omega
        · obtain rfl : j = (frmE back es b).length := by omega
          have H8q := hide ((hBq.out.block pp (heap_lt' h8.out)).trans h8.out)
          have k2 : wq.cell? ⟨pp, 2, none⟩ = some (.func (.func 25) #[] #[.pointer (some ⟨w4.heap.size + 1, 0, none⟩)]) := (cell_of_row _ _ _ _ _ _ H8q.out).trans rfl
          have hfirst := hide (HFN.out.first wq hBq.out b hbl)
          go_wp2_with (refine wpList_callv rfl (.tmp 70) #[.tmp 71] #[3] rfl (.func (.func 25) #[] #[.pointer (some ⟨w4.heap.size + 1, 0, none⟩)]) rfl #[.int .i64 (b : Int)] (by simp [Act.eval]) ?_)
          refine hfirst.out.mono ?_
          rintro e w11 ⟨u, rfl, hu, hB11⟩
          obtain ⟨c6, rfl, s6⟩ := hu
          refine ⟨_, rfl, ?_⟩
          have HF11 := hide (hFq.out.below hB11)
          have HB11 := hide (bel_of hBq.out hB11)
          clear hB11 hfirst k2
          go_wp2_with (first | (refine Bg.wpList_new 17 rfl rfl 40 rfl Bg.z64 Bg.z27 ?_; intro px w12 h12) | (refine Bg.wpList_store_whole rfl 40 (.tmp 17) (.tmp 72) rfl px 40 Bg.z64 c6 rfl rfl h12.out.2.1 (by rw [s6.1]; exact Bg.info27) (by rw [s6.1]; rfl) s6.cells ?_; intro w13 h13 h14 h15))
          have hpx := h12.out.1
          have hg11 := (HF11.out b hbl).lt
          have HF12 : S.FactsAt w12 g es.length fs := HF11.out.below (Bg.gb_to (Bg.gb_at h12.out))
          have HF13 := hide (HF12.eq (h14.out.block g (HF12 b hbl).lt (by simp; omega)))
          have HB13 := hide ((bel_of HB11.out (Bg.gb_to (Bg.gb_at h12.out))).grown h14.out (bel_of HB11.out (Bg.gb_to (Bg.gb_at h12.out))).size (fun k e => by cases e; have := HB11.out.size; omega))
          have hsub : ∀ y, mset es.length cs b y = true → fs b y = true := fun y hy => Fl.sets_first HCO.out b y hy
          have hun : Fl.un (fs b) (mset es.length cs b) = fs b := by
            funext y
            unfold Fl.un
            cases e : mset es.length cs b y
            · simp
            · rw [hsub y e]; rfl
          have hsm := hide (Fl.sm_sub hsub)
          have hj : Hid (S.joined fs b (mset es.length cs b) = fs) := hide (by
            funext x
            unfold S.joined
            split
            · rename_i e; rw [e, hun]
            · rfl)
          clear hpx hg11 HF12 hsub hun h12 h14 h15
          refine S.t17_ok g es.length cap b px fs (mset es.length cs b) rfl rfl rfl rfl c6 h13.out s6 hbl HF13.out ?_
          intro s W hs77 hFW hgW
          rw [hj.out] at hFW
          rw [hsm.out] at hs77
          have HFW := hide hFW
          have HBW := hide (HB13.out.grown hgW HB13.out.size (fun k e => by cases e; exact HG.out))
          clear hFW hgW
          simp [overlay, dstsOf, S.ops_t17, hs77]
          clear hs77
          go_wp2_with fail
          go_roundw
          case rel => exact ⟨b + 1, by omega, by go_num, HFW, HBW⟩
          case measure => simp [intOf]; omega
    · obtain rfl : b = es.length := by omega
      have HE := hide (bel_of HB8.out hB.out)
      go_wp2_with fail
      go_ret
      exact ⟨rfl, HE.out⟩
end Go.Proofs.Ytblcbccchlljhaa
