/- FlowSets: sets that grow, along blocks or against them: just what comes by some way. -/
import Derived.Test.YtblcbccchlljhaaWq
namespace Go.Proofs.Ytblcbccchlljhaa
open Go.RowKit Ir Wy

set_option maxHeartbeats 4000000 in
set_option maxRecDepth 100000 in
theorem sets_walk (v0 v1 v2 : Value) (back : Bool) (a b c : Int) (bs ms cs : List Int) (w : World) (hs : SpecV w v0 a b c bs) (hm : Byt w v1 ms) (hc : Byt w v2 cs) :
    Calls Try.prog 3 #[v0, v1, v2, .bool back] w fun e w' => e = .returned (.bool true) ∧ Below w.heap.size w w' := by
  obtain ⟨h0, h7, hin⟩ := made_ok a b c bs
  obtain ⟨u, rfl, hs1⟩ := hs
  obtain ⟨ao, cap, rfl⟩ := hs1.2.2.2.slice
  have hB1 := bel1' w (.cells #[.int .u8 a, .int .u8 b, .int .u8 c, .slice ao bs.length cap] 24)
  have HS := hide (show SpecV (w.alloc (.cells #[.int .u8 a, .int .u8 b, .int .u8 c, .slice ao bs.length cap] 24)) (.agg #[.int .u8 a, .int .u8 b, .int .u8 c, .slice ao bs.length cap]) a b c bs from ⟨_, rfl, hs1.1, hs1.2.1, hs1.2.2.1, hs1.2.2.2.below hB1⟩)
  have HMs := hide hm
  have HCs := hide hc
  have HB1 := hide hB1
  have hcell := heap_alloc_new w (.cells #[.int .u8 a, .int .u8 b, .int .u8 c, .slice ao bs.length cap] 24)
  have HC := hide hcell
  clear hB1 hs1 hm hc hcell
  go_enter Try.func3, Try.ntmps3
  go_wp2_with fail
  refine (awake_any _).mono ?_
  rintro e w2 ⟨rfl, hB2⟩
  have hrow := (hB2.block _ (heap_lt' HC.out)).trans HC.out
  have k0 : w2.cell? ⟨w.heap.size, 0, none⟩ = some (.int .u8 a) := by rw [cell_of_row _ _ _ _ _ _ hrow]; rfl
  have k1 : w2.cell? ⟨w.heap.size, 1, none⟩ = some (.int .u8 b) := by rw [cell_of_row _ _ _ _ _ _ hrow]; rfl
  have k2 : w2.cell? ⟨w.heap.size, 2, none⟩ = some (.int .u8 c) := by rw [cell_of_row _ _ _ _ _ _ hrow]; rfl
  have k3 : w2.cell? ⟨w.heap.size, 3, none⟩ = some (.slice ao bs.length cap) := by rw [cell_of_row _ _ _ _ _ _ hrow]; rfl
  have HM := hide (made_any _ a b c bs w2 (show SpecV w2 (.agg #[.int .u8 a, .int .u8 b, .int .u8 c, .slice ao bs.length cap]) a b c bs from by
    obtain ⟨u, e, h1, h2, h3, h4⟩ := HS.out
    exact ⟨u, e, h1, h2, h3, h4.below hB2⟩))
  have HB2 := hide (bel_of HB1.out hB2)
  clear hB2 hrow HS HB1 HC
  go_wp2_with fail
  refine HM.out.mono ?_
  rintro e w3 ⟨u, rfl, hO, hB3⟩
  have HE := hide hO.v.ends
  have HB3 := hide (bel_of HB2.out hB3)
  clear hO hB3 HM HB2 k0 k1 k2 k3
  generalize (made a b c bs).bs.map (·.e) = es at *
  obtain ⟨al, cl, rfl⟩ := HE.out.slice
  have hf28 := run_f28 (made a b c bs).p (made a b c bs).v al es.length cl
  have hmf : ∀ (fn : Fn) (first cap : Array Value) (w : World), (Instr.makeFunc fn first cap).run Try.prog w = .ok (.func fn first cap) w := fun _ _ _ _ => rfl
  go_wp2_with (go_at_call 9; refine (marks_any w3 al es.length cl v1 v2 ms cs h0 (by omega) (HMs.out.below HB3.out) (HCs.out.below HB3.out)).mono ?_; rintro e w4 ⟨gm, gl, Vm, Vl, rfl, hW4⟩; have HW4 := hide hW4; clear hW4)
  have HW5 := hide ((bel1' w4 (.cells #[.slice (some ⟨gm, 0, none⟩) es.length es.length] 30)).trans ((bel1' (w4.alloc (.cells #[.slice (some ⟨gm, 0, none⟩) es.length es.length] 30)) (.cells #[.slice (some ⟨gl, 0, none⟩) es.length es.length] 30)).mono (by simp)))
  have HPM := hide ((bel1' (w4.alloc (.cells #[.slice (some ⟨gm, 0, none⟩) es.length es.length] 30)) (.cells #[.slice (some ⟨gl, 0, none⟩) es.length es.length] 30)).block w4.heap.size (by simp) |>.trans (heap_alloc_new w4 _))
  have HPL := heap_alloc_new (w4.alloc (.cells #[.slice (some ⟨gm, 0, none⟩) es.length es.length] 30)) (.cells #[.slice (some ⟨gl, 0, none⟩) es.length es.length] 30)
  rw [World.size_alloc] at HPL
  have HPL := hide HPL
  generalize (w4.alloc (.cells #[.slice (some ⟨gm, 0, none⟩) es.length es.length] 30)).alloc (.cells #[.slice (some ⟨gl, 0, none⟩) es.length es.length] 30) = w5 at *
  refine (ahead_new w5 al es.length cl back).mono ?_
  rintro e w6 ⟨pb, fb, rfl, hfb, hp6, hB6⟩
  have HP6 := hide hp6
  have HFB := hide hfb
  have HE6 := hide (((HE.out.below HW4.out.below).below HW5.out).below hB6)
  have HTM := hide ((marks_tab HW4.out HPM.out HW5.out).below hB6)
  have HTL := hide ((marks_tab HW4.out.swap HPL.out HW5.out).below hB6)
  have HB6 := hide (bel_of (bel_of (bel_of HB3.out HW4.out.below) HW5.out) hB6)
  clear hp6 hB6 hfb HE HMs HCs HW4 HW5 HPM HPL HB3 hf28
  have HSO := hide (sets_solve HFB.out hin h0 h7 HP6.out HE6.out HTL.out HTM.out)
  go_wp2_with (go_at_call 11; refine HSO.out.mono ?_; rintro e w9 ⟨g, cap, fs, rfl, hg, hCo, hSt, hFa, hB9⟩; have HEND := hide (fun y b hb => sets_end (back := back) hin hCo hSt y b hb); have HF9 := hide hFa; have HP9 := hide ((hB9.block _ (heap_lt' HP6.out)).trans HP6.out); have HE9 := hide (HE6.out.below hB9); have HTM9 := hide (HTM.out.below hB9); have HTL9 := hide (HTL.out.below hB9); have HB9 := hide (bel_of HB6.out hB9); clear hg hCo hSt hFa hB9)
  obtain ⟨i4, hi4, hz4, hs4, hb4⟩ := info_parts info4w
  have HFR := hide (from_ok w9 back pb al cl es hin h7 HP9.out HE9.out)
  rw [HFB.out] at HFR
  clear HSO HP6 HFB HE6 HTM HTL HB6 HP9 HE9 hmf HPL
  generalize w4.heap.size = pm at *
  go_loopw [14, 15, 16, 18, 19, 46] (fun _ _ _ _ _ iv wr => ∃ y : Nat, y ≤ 20 ∧ iv = .int .i64 y ∧ Hid (Below w9.heap.size w9 wr)) (fun _ _ _ _ _ iv _ => 20 - (intOf iv).toNat)
  case atStart => exact ⟨0, by omega, rfl, hide (Below.refl _ _)⟩
  case round =>
    obtain ⟨y, hy, rfl, hBy⟩ := hrel
    by_cases hyl : y < 20
    · have hyl' : (y : Int) < 20 := by omega
      go_wp2_with (at_make; go_must (refine wpList_make_full wr rfl (.tmp 50) (.tmp 50) 52 rfl wr.heap.size 4 i4 (.bool false) 1 Try.underlying52 hi4 hz4 hs4 .i64 .i64 _ _ es.length rfl rfl rfl rfl (by rw [hb4]; omega) (by unfold maxLen; omega) (Nat.le_refl _) ?_; intro w11 ho11 hg11; have HO11 := hide (run_marks ho11 hg11); clear ho11 hg11))
      have HSB := hide hBy.out.size
      have HS11 := hide HO11.out.1
      have HB11 := hide (bel_of hBy.out HO11.out.2)
      clear HO11 hBy
      generalize wr.heap.size = sb at *
      go_loopw [16, 18, 54] (fun _ _ iv wq => ∃ r : Nat, r ≤ es.length ∧ iv = .int .i64 r ∧ Hid (BoolsAt wq sb es.length (Fl.mks (seedF es.length ms y) (keepF es.length cs y) (frmE back es) es.length r)) ∧ Hid (Below w9.heap.size w9 wq)) (fun _ _ iv _ => es.length - (intOf iv).toNat)
      case atStart => exact ⟨0, by omega, rfl, HS11, HB11⟩
      case round =>
        rename World => w12
        obtain ⟨r, hr, rfl, hO12, hB12⟩ := hrel
        by_cases hrl : r < es.length
        · have hrl' : (r : Int) < (es.length : Int) := by omega
          clear HS11 HB11
          go_wp2_with fail
          go_loopw [16, 18, 58] (fun _ _ iv wq => ∃ b : Nat, b ≤ es.length ∧ iv = .int .i64 b ∧ Hid (BoolsAt wq sb es.length ((List.range b).foldl (Fl.mkb (seedF es.length ms y) (keepF es.length cs y) (frmE back es)) (Fl.mks (seedF es.length ms y) (keepF es.length cs y) (frmE back es) es.length r))) ∧ Hid (Below w9.heap.size w9 wq)) (fun _ _ iv _ => es.length - (intOf iv).toNat)
          case atStart => exact ⟨0, by omega, rfl, hO12, hB12⟩
          case round =>
            rename World => w13
            obtain ⟨b, hb, rfl, hO13, hB13⟩ := hrel
            by_cases hbl : b < es.length
            · have hbl' : (b : Int) < (es.length : Int) := by omega
              have hcall := HFR.out w13 hB13.out b hbl
              clear hO12 hB12
              go_wp2_with (refine wpList_callv rfl (.tmp 61) #[.tmp 62] #[3] rfl (.func (.func fb) #[] #[.pointer (some ⟨pb, 0, none⟩)]) rfl #[.int .i64 (b : Int)] (by simp [Act.eval]) ?_)
              refine hcall.mono ?_
              rintro e w14 ⟨u, rfl, hu, hB14⟩
              obtain ⟨au, cu, rfl⟩ := hu.slice
              have hlc : (ci (frmE back es b)).length = (frmE back es b).length := List.length_map _
              have hu' : ArgsO w13.heap.size w14 (.slice au (ci (frmE back es b)).length cu) (ci (frmE back es b)) := hu
              rw [hlc] at hu'
              have HU := hide hu'
              have HO14 := hide (hO13.out.below hB14)
              have HB14 := hide (bel_of hB13.out hB14)
              have hgw := hide (hO13.out.lt)
              have hfl := frmE_len (back := back) h7 b
              clear hcall hu hu' hB14 hO13 hB13
              show ∃ u, Ending.returned (Value.slice au (ci (frmE back es b)).length cu) = .returned u ∧ _
              rw [hlc]
              refine ⟨_, rfl, ?_⟩
              generalize hO0 : (List.range b).foldl (Fl.mkb (seedF es.length ms y) (keepF es.length cs y) (frmE back es)) (Fl.mks (seedF es.length ms y) (keepF es.length cs y) (frmE back es) es.length r) = O0 at *
              replace hO0 := hide hO0
              go_wp2_with fail
              go_loopw [18, 65] (fun _ jv wq => ∃ j : Nat, j ≤ (frmE back es b).length ∧ jv = .int .i64 j ∧ Hid (BoolsAt wq sb es.length (((frmE back es b).take j).foldl (fun o a => Fl.mkd (seedF es.length ms y) (keepF es.length cs y) o b a) O0)) ∧ Hid (w14.grownBy wq (some sb))) (fun _ jv _ => (frmE back es b).length - (intOf jv).toNat)
              case atStart => exact ⟨0, by omega, rfl, HO14, hide (Bg.gb_refl _ _)⟩
              case round =>
                rename World => wq
                obtain ⟨j, hj, rfl, hOq, hGq⟩ := hrel
                by_cases hjl : j < (frmE back es b).length
                · have hjl' : (j : Int) < ((frmE back es b).length : Int) := by omega
                  have hrow := HU.out.stays (w' := wq) fun k hk => hGq.out.block k (HU.out.lt k hk).2 (fun e => by have := (HU.out.lt k hk).1; have := hgw.out; simp at e; omega)
                  obtain ⟨gu, ou, rfl, hcu⟩ := hrow.v.at j (by rw [hlc]; exact hjl)
                  rw [ci_getD hjl] at hcu
                  have HNX := hide (fold_next (fun o a => Fl.mkd (seedF es.length ms y) (keepF es.length cs y) o b a) (frmE back es b) O0 hjl)
                  have hmem : (frmE back es b).getD j 0 ∈ frmE back es b := by rw [getD_get _ _ _ hjl]; exact List.getElem_mem hjl
                  have han := frmE_lt hin hbl _ hmem
                  generalize ((frmE back es b).take j).foldl (fun o a => Fl.mkd (seedF es.length ms y) (keepF es.length cs y) o b a) O0 = o at *
                  generalize (frmE back es b).getD j 0 = x at *
                  have han' : (x : Int) < (es.length : Int) := by omega
                  have HBq := hide (HB14.out.grown hGq.out HB14.out.size (fun k e => by cases e; exact HSB.out))
                  obtain ⟨gm', hgm, hrm⟩ := tab_in (HTM9.out.below HBq.out)
                  obtain ⟨um, cum, hi1⟩ := hrm x han
                  obtain ⟨gl', hgl, hrl2⟩ := tab_in (HTL9.out.below HBq.out)
                  obtain ⟨ul, cul, hi2⟩ := hrl2 x han
                  have HI1 := hide (hi1 y)
                  have HI2 := hide (hi2 y)
                  have c1 : wq.cell? ⟨pm, 0, none⟩ = some (.slice (some ⟨gm', 0, none⟩) es.length es.length) := (cell_of_row _ _ _ _ _ _ hgm).trans rfl
                  have c2 : wq.cell? ⟨pm + 1, 0, none⟩ = some (.slice (some ⟨gl', 0, none⟩) es.length es.length) := (cell_of_row _ _ _ _ _ _ hgl).trans rfl
                  have c3 := (hOq.out.cell x han).1
                  have c4 := (hOq.out.cell b hbl).1
                  have c5 := (hOq.out.cell b hbl).2
                  clear hrow hmem hgm hgl hrm hrl2 hi1 hi2 hlc HU HO14 hgw
                  cases e1 : mset es.length ms x y
                  · rw [e1] at HI1
                    cases e2 : o x
                    · rw [e2] at c3
                      rw [mkd_no (by simp [e1, e2])] at HNX
                      go_wp2_with (first | (go_at_call 18; refine (HI1.out).mono ?_; rintro e w15 ⟨rfl, rfl⟩; clear HI1) | (go_at_call 18; refine (HI2.out).mono ?_; rintro e w16 ⟨rfl, rfl⟩; clear HI2))
                      go_roundw
                      case rel => exact ⟨j + 1, by omega, by go_num, hide (by rw [HNX.out]; exact hOq.out), hGq⟩
                      case measure => simp [intOf]; omega
                    · rw [e2] at c3
                      cases e3 : mset es.length cs x y
                      · rw [e3] at HI2
                        rw [mkd_yes (by simp [e2, e3])] at HNX
                        go_wp2_with (first | (go_at_call 18; refine (HI1.out).mono ?_; rintro e w15 ⟨rfl, rfl⟩; clear HI1) | (go_at_call 18; refine (HI2.out).mono ?_; rintro e w16 ⟨rfl, rfl⟩; clear HI2))
                        go_roundw
                        case rel => exact ⟨j + 1, by omega, by go_num, hide (by rw [HNX.out]; exact hOq.out.set b hbl), hide (hGq.out.trans (Bg.gb_set _ _ _ _))⟩
                        case measure => simp [intOf]; omega
                      · rw [e3] at HI2
                        rw [mkd_no (by simp [e1, e3])] at HNX
                        go_wp2_with (first | (go_at_call 18; refine (HI1.out).mono ?_; rintro e w15 ⟨rfl, rfl⟩; clear HI1) | (go_at_call 18; refine (HI2.out).mono ?_; rintro e w16 ⟨rfl, rfl⟩; clear HI2))
                        go_roundw
                        case rel => exact ⟨j + 1, by omega, by go_num, hide (by rw [HNX.out]; exact hOq.out), hGq⟩
                        case measure => simp [intOf]; omega
                  · rw [e1] at HI1
                    rw [mkd_yes (by simp [e1])] at HNX
                    go_wp2_with (first | (go_at_call 18; refine (HI1.out).mono ?_; rintro e w15 ⟨rfl, rfl⟩; clear HI1) | (go_at_call 18; refine (HI2.out).mono ?_; rintro e w16 ⟨rfl, rfl⟩; clear HI2))
                    go_roundw
                    case rel => exact ⟨j + 1, by omega, by go_num, hide (by rw [HNX.out]; exact hOq.out.set b hbl), hide (hGq.out.trans (Bg.gb_set _ _ _ _))⟩
                    case measure => simp [intOf]; omega
                · obtain rfl : j = (frmE back es b).length := by omega
                  have HBq := hide (HB14.out.grown hGq.out HB14.out.size (fun k e => by cases e; exact HSB.out))
                  have HOn : Hid (BoolsAt wq sb es.length ((List.range (b + 1)).foldl (Fl.mkb (seedF es.length ms y) (keepF es.length cs y) (frmE back es)) (Fl.mks (seedF es.length ms y) (keepF es.length cs y) (frmE back es) es.length r))) := hide (by
                    rw [fold_range, hO0.out]
                    have h := hOq.out
                    rw [List.take_length] at h
                    exact h)
                  go_wp2_with fail
                  go_roundw
                  case rel => exact ⟨b + 1, by omega, by go_num, HOn, HBq⟩
                  case measure => simp [intOf]; omega
            · obtain rfl : b = es.length := by omega
              go_wp2_with fail
              go_roundw
              case rel => exact ⟨r + 1, by omega, by go_num, hO13, hB13⟩
              case measure => simp [intOf]; omega
        · obtain rfl : r = es.length := by omega
          go_wp2_with fail
          go_loopw [19, 98] (fun _ iv wq => ∃ b : Nat, b ≤ es.length ∧ iv = .int .i64 b ∧ Hid (BoolsAt wq sb es.length (Fl.mks (seedF es.length ms y) (keepF es.length cs y) (frmE back es) es.length es.length)) ∧ Hid (Below w9.heap.size w9 wq)) (fun _ iv _ => es.length - (intOf iv).toNat)
          case atStart => exact ⟨0, by omega, rfl, hO12, hB12⟩
          case round =>
            rename World => wq
            obtain ⟨b, hb, rfl, hOq, hBq⟩ := hrel
            by_cases hbl : b < es.length
            · have hbl' : (b : Int) < (es.length : Int) := by omega
              go_wp2_with fail
              refine S.s29_ok g es.length cap sb b y fs _ rfl rfl rfl rfl rfl hbl (by omega) (HF9.out.below hBq.out) hOq.out (HEND.out y b hbl) ?_
              intro s W hs111 hBW
              have HOW := hide (hOq.out.below hBW)
              have HBW := hide (bel_of hBq.out hBW)
              clear hBW
              simp [overlay, dstsOf, S.ops_s29, hs111]
              clear hs111
              go_wp2_with fail
              go_roundw
              case rel => exact ⟨b + 1, by omega, by go_num, HOW, HBW⟩
              case measure => simp [intOf]; omega
            · obtain rfl : b = es.length := by omega
              go_wp2_with fail
              go_roundw
              case rel => exact ⟨y + 1, by omega, by go_num, hBq⟩
              case measure => simp [intOf]; omega
    · obtain rfl : y = 20 := by omega
      have HX := hide (bel_of HB9.out hBy.out)
      go_wp2_with fail
      go_ret
      exact ⟨rfl, HX.out⟩
end Go.Proofs.Ytblcbccchlljhaa
