/- FlowMore: with more that blocks add no fact is less. -/
import Derived.Test.YtblcbccchlljhaaWb
namespace Go.Proofs.Ytblcbccchlljhaa
open Go.RowKit Ir Wy

set_option maxHeartbeats 1000000 in
set_option maxRecDepth 100000 in
theorem more_walk (v0 v1 v2 v3 : Value) (back : Bool) (a b c : Int) (bs ms ns cs : List Int) (w : World) (hs : SpecV w v0 a b c bs) (hm : Byt w v1 ms) (hn : Byt w v2 ns) (hc : Byt w v3 cs) (hns : ns.length ≤ 140737488351232) :
    Calls Try.prog 6 #[v0, v1, v2, v3, .bool back] w fun e w' => e = .returned (.bool true) ∧ Below w.heap.size w w' := by
  obtain ⟨h0, h7, hin⟩ := made_ok a b c bs
  obtain ⟨u, rfl, hs1⟩ := hs
  obtain ⟨ao, cap, rfl⟩ := hs1.2.2.2.slice
  obtain ⟨am, cm, rfl⟩ := hm.slice
  obtain ⟨an, cn, rfl⟩ := hn.slice
  obtain ⟨ac, cc, rfl⟩ := hc.slice
  obtain ⟨hcell, hcellc, hcellk, hB1⟩ := three w (.cells #[.int .u8 a, .int .u8 b, .int .u8 c, .slice ao bs.length cap] 24) (.cells #[.slice ac cs.length cc] 22) (.cells #[.bool back] 4)
  have hmf : ∀ (fn : Fn) (first cap : Array Value) (w : World), (Instr.makeFunc fn first cap).run Try.prog w = .ok (.func fn first cap) w := fun _ _ _ _ => rfl
  have HMs := hide hm
  have HNs := hide hn
  have HCs := hide hc
  have HS1 := hide hs1
  have HB1 := hide hB1
  have HC := hide hcell
  have HCC := hide hcellc
  have HCK := hide hcellk
  clear hB1 hs1 hm hn hc hcell hcellc hcellk
  go_enter Try.func6, Try.ntmps6
  go_wp2_with fail
  refine (awake_any _).mono ?_
  rintro e w2 ⟨rfl, hB2⟩
  have hrow := (hB2.block _ (heap_lt' HC.out)).trans HC.out
  have HCC2 := hide ((hB2.block _ (heap_lt' HCC.out)).trans HCC.out)
  have HCK2 := hide ((hB2.block _ (heap_lt' HCK.out)).trans HCK.out)
  have k0 : w2.cell? ⟨w.heap.size, 0, none⟩ = some (.int .u8 a) := by rw [cell_of_row _ _ _ _ _ _ hrow]; rfl
  have k1 : w2.cell? ⟨w.heap.size, 1, none⟩ = some (.int .u8 b) := by rw [cell_of_row _ _ _ _ _ _ hrow]; rfl
  have k2 : w2.cell? ⟨w.heap.size, 2, none⟩ = some (.int .u8 c) := by rw [cell_of_row _ _ _ _ _ _ hrow]; rfl
  have k3 : w2.cell? ⟨w.heap.size, 3, none⟩ = some (.slice ao bs.length cap) := by rw [cell_of_row _ _ _ _ _ _ hrow]; rfl
  have HB2 := hide (bel_of HB1.out hB2)
  have HM := hide (made_any _ a b c bs w2 (show SpecV w2 (.agg #[.int .u8 a, .int .u8 b, .int .u8 c, .slice ao bs.length cap]) a b c bs from ⟨_, rfl, HS1.out.1, HS1.out.2.1, HS1.out.2.2.1, HS1.out.2.2.2.below HB2.out⟩))
  clear hB2 hrow HS1 HB1 HC HCC HCK
  go_wp2_with fail
  refine HM.out.mono ?_
  rintro e w3 ⟨u, rfl, hO, hB3⟩
  have HE := hide hO.v.ends
  have HCC3 := hide ((hB3.block _ (heap_lt' HCC2.out)).trans HCC2.out)
  have HCK3 := hide ((hB3.block _ (heap_lt' HCK2.out)).trans HCK2.out)
  have HB3 := hide (bel_of HB2.out hB3)
  clear hO hB3 HM HB2 k0 k1 k2 k3 HCC2 HCK2
  generalize (made a b c bs).bs.map (·.e) = es at *
  obtain ⟨al, cl, rfl⟩ := HE.out.slice
  have hf28 := run_f28 (made a b c bs).p (made a b c bs).v al es.length cl
  replace hmf := hide hmf
  have HCAP : ∀ W, Hid (W.heap[w3.heap.size]? = some (.cells #[.slice al es.length cl] 26 (0, 0))) → Hid (Below w3.heap.size w3 W) → Hid (Cap W w3.heap.size (w.heap.size + 1) (w.heap.size + 2) al cl es (.slice ac cs.length cc) cs back) := fun W hl hB => hide ⟨hl.out, (hB.out.block _ (heap_lt' HCC3.out)).trans HCC3.out, (hB.out.block _ (heap_lt' HCK3.out)).trans HCK3.out, HE.out.below hB.out, (HCs.out.below HB3.out).below hB.out⟩
  replace HCAP := hide HCAP
  by_cases h15 : (15 : Int) < (ms.length : Int)
  · have hmf := hmf.out
    have HX := hide (bel_of HB3.out (bel1' w3 (.cells #[.slice al es.length cl] 26)))
    go_wp2_with fail
    go_ret
    exact ⟨rfl, HX.out⟩
  · have HL4 := hide (heap_alloc_new w3 (.cells #[.slice al es.length cl] 26))
    have HB4 := hide (bel1' w3 (.cells #[.slice al es.length cl] 26))
    replace hmf := hmf.out
    replace HCAP := HCAP.out
    go_wp2_with fail
    generalize w3.alloc (.cells #[.slice al es.length cl] 26) = w4 at *
    have HM4 := hide ((HMs.out.below HB3.out).below HB4.out)
    have HN4 := hide ((HNs.out.below HB3.out).below HB4.out)
    have HCP := hide (HCAP w4 HL4 HB4).out
    have HB4 := hide (bel_of HB3.out HB4.out)
    clear HCAP HCC3 HCK3 HMs HNs HCs HE hf28 HB3
    refine (solve27 w4 _ _ _ al cl es _ _ ms cs back hin h0 h7 HCP.out HM4.out).mono ?_
    rintro e w5 ⟨gf, capf, fs, rfl, hg5, hC5, hS5, hF5, hB5⟩
    have HC5 := hide hC5
    have HF5 := hide hF5
    have HG5 := hide ((hF5 0 h0).lt)
    have HB5 := hide (bel_of HB4.out hB5)
    have HM5 := hide (HM4.out.below hB5)
    have HN5 := hide (HN4.out.below hB5)
    have HCP5 := hide (HCP.out.below hB5)
    clear hg5 hC5 hS5 hF5 hB5 HM4 HN4 HCP
    have hml : ms.length ≤ 15 := by omega
    go_wp2_with (first | (at_builtin; refine wpList_append_byt _ rfl (.tmp 29) (.tmp 30) rfl w5.heap.size (.slice (some ⟨w5.heap.size, 0, none⟩) 0 0) [] rfl (BytO.made w5 (Nat.le_refl _)) _ ms rfl (HM5.out.below (bel1' _ _)) (by simp; omega) (by simp) ?_; intro v6 w6 h6 g6; have H6 := hide h6; have HB6 := hide ((bel1' w5 (.cells #[] 5)).grown g6 (by simp) (fun k e => by cases e; exact Nat.le_refl _)); clear h6 g6) | (at_builtin; refine wpList_append_byt _ rfl (.tmp 31) (.tmp 32) rfl w5.heap.size v6 ([] ++ ms) rfl H6.out _ ns rfl (HN5.out.below HB6.out) (by simp; omega) HB6.out.size ?_; intro v7 w7 h7' g7; have H7 := hide h7'; have HB7 := hide (HB6.out.grown g7 HB6.out.size (fun k e => (H6.out.lt k e).1)); clear h7' g7 H6 HB6))
    have HM7 := hide (H7.out.v fun x hx => (by
      rcases List.mem_append.1 hx with h | h
      · exact byt_range HM5.out x h
      · exact byt_range HN5.out x h : 0 ≤ x ∧ x < 256))
    have HCP7 := hide (HCP5.out.below HB7.out)
    have HF7 := hide (HF5.out.below HB7.out)
    have HG7 := hide (Nat.lt_of_lt_of_le HG5.out HB7.out.size)
    have HBW := hide (bel_of HB5.out HB7.out)
    clear H7 HB7 HM5 HN5 HCP5 HF5 HG5 HB5
    refine (solve27 w7 _ _ _ al cl es _ _ (ms ++ ns) cs back hin h0 h7 HCP7.out HM7.out).mono ?_
    rintro e w8 ⟨gm, capm, gs, rfl, hg8, hC8, hS8, hF8, hB8⟩
    have HSUB := hide (more_sub (back := back) hin HC5.out hC8 hS8)
    have HF8 := hide hF8
    have HF78 := hide (HF7.out.below hB8)
    have HNE := hide (Nat.lt_of_lt_of_le HG7.out hg8)
    have HGM := hide (Nat.le_trans HBW.out.size hg8)
    have HL8 := hide ((hB8.block _ (heap_lt' HCP7.out.l)).trans HCP7.out.l)
    have HB8 := hide (bel_of HBW.out hB8)
    have k1 : w8.cell? ⟨w3.heap.size, 0, none⟩ = some (.slice al es.length cl) := (cell_of_row _ _ _ _ _ _ HL8.out).trans rfl
    have HLM := hide (Nat.lt_of_lt_of_le (heap_lt' HCP7.out.l) hg8)
    clear hg8 hC8 hS8 hF8 hB8 HM7 HCP7 HF7 HG7 HBW HC5 hmf HL4 HB4
    go_wp2_with fail
    go_loopw [15, 37] (fun _ iv wr => ∃ b : Nat, b ≤ es.length ∧ iv = .int .i64 b ∧ Hid (S.FactsAt wr gm es.length gs) ∧ Hid (w8.grownBy wr (some gm))) (fun _ iv _ => es.length - (intOf iv).toNat)
    case atStart => exact ⟨0, by omega, rfl, HF8, hide (Bg.gb_refl _ _)⟩
    case round =>
      obtain ⟨b, hb, rfl, hF, hGr⟩ := hrel
      have HB := hide (HB8.out.grown hGr.out HB8.out.size (fun k e => by cases e; exact HGM.out))
      by_cases hbl : b < es.length
      · have hbl' : (b : Int) < (es.length : Int) := by omega
        have HFf := hide (HF78.out.eq (hGr.out.block gf (HF78.out 0 h0).lt (by have := HNE.out; simp; omega)))
        have hun : Fl.un (gs b) (fs b) = gs b := by
          funext y
          unfold Fl.un
          cases e : fs b y
          · simp
          · rw [HSUB.out b y e]; rfl
        have hsm := hide (Fl.sm_sub (HSUB.out b))
        have hj : Hid (S.joined gs b (fs b) = gs) := hide (by
          funext x
          unfold S.joined
          split
          · rename_i e; rw [e, hun]
          · rfl)
        clear hun
        go_wp2_with fail
        refine S.t11_ok gm es.length capm gf capf b gs fs rfl rfl rfl rfl hbl hF.out HFf.out ?_
        intro s W hs47 hFW hgW
        rw [hj.out] at hFW
        rw [hsm.out] at hs47
        have HFW := hide hFW
        have HGW := hide (hGr.out.trans hgW)
        clear hFW hgW
        simp [overlay, dstsOf, S.ops_t11, hs47]
        clear hs47
        go_wp2_with fail
        go_roundw
        case rel => exact ⟨b + 1, by omega, by go_num, HFW, HGW⟩
        case measure => simp [intOf]; omega
      · obtain rfl : b = es.length := by omega
        have k2 : wr.cell? ⟨w3.heap.size, 0, none⟩ = some (.slice al es.length cl) := (cell_of_row _ _ _ _ _ _ ((hGr.out.block _ (heap_lt' HL8.out) (by have := HLM.out; simp; omega)).trans HL8.out)).trans rfl
        go_wp2_with fail
        go_ret
        exact ⟨rfl, HB.out⟩
end Go.Proofs.Ytblcbccchlljhaa
