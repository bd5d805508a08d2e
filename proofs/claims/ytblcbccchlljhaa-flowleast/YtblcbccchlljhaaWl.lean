/- FlowLeast: least numbers of steps from block 0 on, by facts that fall. -/
import Derived.Test.YtblcbccchlljhaaWk
namespace Go.Proofs.Ytblcbccchlljhaa
open Go.RowKit Ir Wy

set_option maxHeartbeats 4000000 in
set_option maxRecDepth 100000 in
theorem least_walk (v0 : Value) (a b c : Int) (bs : List Int) (w : World) (hs : SpecV w v0 a b c bs) :
    Calls Try.prog 4 #[v0] w fun e w' => e = .returned (.bool true) ∧ Below w.heap.size w w' := by
  obtain ⟨h0, h7, hin⟩ := made_ok a b c bs
  obtain ⟨u, rfl, hs1⟩ := hs
  obtain ⟨ao, cap, rfl⟩ := hs1.2.2.2.slice
  have hB1 := bel1' w (.cells #[.int .u8 a, .int .u8 b, .int .u8 c, .slice ao bs.length cap] 24)
  have HS := hide (show SpecV (w.alloc (.cells #[.int .u8 a, .int .u8 b, .int .u8 c, .slice ao bs.length cap] 24)) (.agg #[.int .u8 a, .int .u8 b, .int .u8 c, .slice ao bs.length cap]) a b c bs from ⟨_, rfl, hs1.1, hs1.2.1, hs1.2.2.1, hs1.2.2.2.below hB1⟩)
  have HB1 := hide hB1
  have hcell := heap_alloc_new w (.cells #[.int .u8 a, .int .u8 b, .int .u8 c, .slice ao bs.length cap] 24)
  have HC := hide hcell
  clear hB1 hs1 hcell
  go_enter Try.func4, Try.ntmps4
  go_wp2_with fail
  refine (awake_any _).mono ?_
  rintro e w2 ⟨rfl, hB2⟩
  have hrow := (hB2.block _ (heap_lt' HC.out)).trans HC.out
  have k0 : w2.cell? ⟨w.heap.size, 0, none⟩ = some (.int .u8 a) := by rw [cell_of_row _ _ _ _ _ _ hrow]; rfl
  have k1 : w2.cell? ⟨w.heap.size, 1, none⟩ = some (.int .u8 b) := by rw [cell_of_row _ _ _ _ _ _ hrow]; rfl
  have k2 : w2.cell? ⟨w.heap.size, 2, none⟩ = some (.int .u8 c) := by rw [cell_of_row _ _ _ _ _ _ hrow]; rfl
  have k3 : w2.cell? ⟨w.heap.size, 3, none⟩ = some (.slice ao bs.length cap) := by rw [cell_of_row _ _ _ _ _ _ hrow]; rfl
  have HM := hide (made_any _ a b c bs w2 (show SpecV w2 (.agg #[.int .u8 a, .int .u8 b, .int .u8 c, .slice ao bs.length cap]) a b c bs from by
    obtain ⟨u, e, h1, h2, h3, h4⟩ := HS.out
    exact ⟨u, e, h1, h2, h3, h4.below hB2⟩))
  have HB2 := hide (bel_of HB1.out hB2)
  clear hB2 hrow HS HB1 HC
  go_wp2_with fail
  refine HM.out.mono ?_
  rintro e w3 ⟨u, rfl, hO, hB3⟩
  have HE := hide hO.v.ends
  have HB3 := hide (bel_of HB2.out hB3)
  clear hO hB3 HM HB2 k0 k1 k2 k3
  generalize (made a b c bs).bs.map (·.e) = es at *
  obtain ⟨al, cl, rfl⟩ := HE.out.slice
  have hf28 := run_f28 (made a b c bs).p (made a b c bs).v al es.length cl
  go_wp2_with fail
  refine (ahead_new w3 al es.length cl false).mono ?_
  rintro e w6 ⟨pb, fb, rfl, hfb, hp6, hB6⟩
  have HSO := hide (least_solve hfb hin h0 h7 hp6 (HE.out.below hB6))
  have HE6 := hide (HE.out.below hB6)
  have HB6 := hide (bel_of HB3.out hB6)
  clear hfb hp6 hB6 HE HB3 hf28
  go_wp2_with (go_at_call 20; refine HSO.out.mono ?_; rintro e w9 ⟨g, cap, d, rfl, hg, hCo, hSt, hFa, hB9⟩; have HF9 := hide hFa; have HE9 := hide (HE6.out.below hB9); have HB9 := hide (bel_of HB6.out hB9); have HCO := hide hCo; have HST := hide hSt; clear hg hCo hSt hFa hB9)
  have HNX := hide hin.nx
  have HBF := hide (Fl.Bf.start (nxE es) h0)
  have HSN := hide (Sn.first (Below.refl w9.heap.size w9))
  clear HSO HE6 HB6
  go_wp2_with fail
  have HN9 := hide (h7)
  go_loopw [5, 6, 7, 8, 10, 12] (fun vr iv vs _ _ _ wr => ∃ (k : Nat) (row seen : List Nat), iv = .int .i64 k ∧ k ≤ es.length ∧ Hid (Fl.Bf (nxE es) es.length k row seen) ∧ Hid (Sn w9 wr vs (.slice none 0 0) seen []) ∧ Hid (Rw w9 wr vs (.slice none 0 0) vr row)) (fun _ iv _ _ _ _ _ => es.length + 1 - (intOf iv).toNat)
  case atStart => exact ⟨0, [0], [0], rfl, by omega, HBF, hide HSN.out.1, hide HSN.out.2⟩
  case round =>
    obtain ⟨k, row, seen, rfl, hk, hBF, hSn, hRw⟩ := hrel
    clear HBF HSN
    obtain ⟨ar, cr, hvr⟩ := hRw.out.own.slice
    obtain ⟨asn, cs, hvs⟩ := hSn.out.s.slice
    rw [List.length_map] at hvr hvs
    subst hvr hvs
    have hrl : row.length ≤ maxLen := by have := hRw.out.own.v.len_le; rwa [List.length_map] at this
    simp only [maxLen] at hrl
    by_cases hr0 : 0 < row.length
    · have hr0' : (0 : Int) < (row.length : Int) := by omega
      have hlong := hBF.out.long (List.length_pos_iff.1 hr0)
      have hsl := Fl.nodup_len hBF.out.nodup hBF.out.lt
      have HTOLD := hide (Fl.Bf.told hBF.out (by omega) HNX.out h0 (fun b a ha => frm_nx es b a ha) (frm_lt es) HCO.out HST.out)
      have HROW := hide (fun x hx => hBF.out.lt x ((hBF.out.seenI x).2 ⟨k, Nat.le_refl _, ((hBF.out.rowI x).1 hx).1⟩) : ∀ x ∈ row, x < es.length)
      have HPL := hide (fun (i j b : Nat) (hb : b < es.length) => puts_len (L := (row.take i).flatMap (nxE es) ++ (nxE es b).take j) hBF.out.nodup hBF.out.lt (fun x hx => by
        rcases List.mem_append.1 hx with h | h
        · obtain ⟨y, hy, hxy⟩ := List.mem_flatMap.1 h
          exact HNX.out y (HROW.out y (List.mem_of_mem_take hy)) x hxy
        · exact HNX.out b hb x (List.mem_of_mem_take h)))
      go_wp2_with fail
      go_loopw [7, 8, 10, 12, 32] (fun vs vn _ _ iv wq => ∃ i : Nat, i ≤ row.length ∧ iv = .int .i64 i ∧ Hid (Sn w9 wq vs vn (seen ++ Fl.puts seen ((row.take i).flatMap (nxE es))) (Fl.puts seen ((row.take i).flatMap (nxE es)))) ∧ Hid (Rw w9 wq vs vn (.slice ar row.length cr) row)) (fun _ _ _ _ iv _ => row.length - (intOf iv).toNat)
      case atStart => exact ⟨0, by omega, rfl, hide (by simpa [Fl.puts] using hSn.out), hRw⟩
      case round =>
        rename World => wq
        obtain ⟨i, hi, rfl, hSq, hRq⟩ := hrel
        clear hSn hRw
        by_cases hil : i < row.length
        · have hil' : (i : Int) < (row.length : Int) := by omega
          obtain ⟨gr, ofr, rfl, hcr⟩ := hRq.out.own.v.at i (by rw [List.length_map]; exact hil)
          rw [ci_getD hil] at hcr
          have hmem : row.getD i 0 ∈ row := by rw [getD_get _ _ _ hil]; exact List.getElem_mem hil
          have hbn := HROW.out _ hmem
          have hdk := HTOLD.out _ hmem
          have HTK := hide (show ((row.take (i + 1)).flatMap (nxE es)) = (row.take i).flatMap (nxE es) ++ nxE es (row.getD i 0) by rw [List.take_succ_eq_append_getElem hil, List.flatMap_append, getD_get _ _ _ hil]; simp)
          have HPB := hide (fun j => HPL.out i j _ hbn)
          generalize row.getD i 0 = b at *
          have hbn' : (b : Int) < (es.length : Int) := by omega
          have hcg := (HF9.out.below hSq.out.bel b hbn).1
          rw [hdk] at hcg
          obtain ⟨gE, oE, rfl, hc⟩ := (HE9.out.below hSq.out.bel).end b hbn
          have hints := hide (hin.ints b)
          generalize hee : es.getD b En.zero = e at *
          obtain ⟨c1, c2, c3, c4⟩ := hc
          clear hmem
          go_wp2_with fail
          refine (next17 e wq).mono ?_
          rintro r w10 ⟨u, rfl, hu, hB10⟩
          rw [← hints.out] at hu
          obtain ⟨au, cu, rfl⟩ := hu.slice
          rw [List.length_map]
          have hu' : ArgsO wq.heap.size w10 (.slice au (nxE es b).length cu) (ci (nxE es b)) := by rw [List.length_map] at hu; exact hu
          have HRU := hide ((hSq.out.row hu').below (Below.refl _ _))
          have HS10 := hide (hSq.out.below hB10)
          have HR10 := hide (hRq.out.below hB10)
          have hnl := nx_len es b
          clear hu hu' hB10 hSq hRq c1 c2 c3 c4 hcr hcg hee hints
          generalize HL0 : (row.take i).flatMap (nxE es) = L0 at *
          go_wp2_with fail
          go_loopw [7, 8, 12, 49] (fun vs vn _ jv ws => ∃ j : Nat, j ≤ (nxE es b).length ∧ jv = .int .i64 j ∧ Hid (Sn w9 ws vs vn (seen ++ Fl.puts seen (L0 ++ (nxE es b).take j)) (Fl.puts seen (L0 ++ (nxE es b).take j))) ∧ Hid (Rw w9 ws vs vn (.slice (some ⟨gr, ofr, none⟩) row.length cr) row) ∧ Hid (Rw w9 ws vs vn (.slice au (nxE es b).length cu) (nxE es b))) (fun _ _ _ jv _ => (nxE es b).length - (intOf jv).toNat)
          case atStart => exact ⟨0, by omega, rfl, hide (by simpa using HS10.out), HR10, HRU⟩
          case round =>
            rename World => ws
            obtain ⟨j, hj, rfl, hSs, hRs, hUs⟩ := hrel
            clear HS10 HR10 HRU
            by_cases hjl : j < (nxE es b).length
            · have hjl' : (j : Int) < ((nxE es b).length : Int) := by omega
              obtain ⟨gu, ofu, rfl, hcu⟩ := hUs.out.own.v.at j (by rw [List.length_map]; exact hjl)
              rw [ci_getD hjl] at hcu
              have HTJ := hide (show L0 ++ (nxE es b).take (j + 1) = (L0 ++ (nxE es b).take j) ++ [(nxE es b).getD j 0] by rw [List.take_succ_eq_append_getElem hjl, getD_get _ _ _ hjl, List.append_assoc])
              have hlen := HPB.out j
              generalize (nxE es b).getD j 0 = x at *
              have HPU := hide (Fl.puts_snoc seen (L0 ++ (nxE es b).take j) x)
              rw [← HTJ.out] at HPU
              generalize hP : Fl.puts seen (L0 ++ (nxE es b).take j) = P at *
              have HIN := hide (in_row _ (seen ++ P) x ws hSs.out.s.v (by omega))
              by_cases hx : x ∈ seen ++ P
              · rw [decide_eq_true hx] at HIN
                rw [Fl.put, if_pos hx] at HPU
                clear hP hx HTJ
                go_wp2_with (go_at_call 18; refine (HIN.out).mono ?_; rintro e w15 ⟨rfl, rfl⟩)
                go_roundw
                case rel => exact ⟨j + 1, by omega, by go_num, hide (by rw [HPU.out]; exact hSs.out), hRs, hUs⟩
                case measure => simp [intOf]; omega
              · rw [decide_eq_false hx] at HIN
                rw [Fl.put, if_neg hx] at HPU
                clear hP hx HTJ
                go_wp2_with (first | (go_at_call 18; refine (HIN.out).mono ?_; rintro e w15 ⟨rfl, rfl⟩; clear HIN) | (at_builtin; refine snoc_int (l := ci (seen ++ P)) (x := (x : Int)) (h := w15.heap.size) (B := w9.heap.size) (.tmp 57) (.tmp 59) rfl rfl (hSs.out.s.below (bel1' _ _)) (heap_alloc_new _ _) rfl rfl (by rw [List.length_map]; omega) (by have := hSs.out.bel.size; simp; omega) ?_; intro v5 w5 hO5 hg5 how5; have H5 := hide ((hSs.out.below (bel1' _ _)).snocS hO5 hg5 how5); have HS5 := hide H5.out.1; have HR5 := hide (H5.out.2 _ _ (hRs.out.below (bel1' _ _))); have HU5 := hide (H5.out.2 _ _ (hUs.out.below (bel1' _ _))); clear H5 hO5 hg5 how5 hSs hRs hUs hcu) | (at_builtin; refine snoc_int (l := ci P) (x := (x : Int)) (h := w5.heap.size) (B := w9.heap.size) (.tmp 61) (.tmp 63) rfl rfl (HS5.out.n.below (bel1' _ _)) (heap_alloc_new _ _) rfl rfl (by rw [List.length_map]; rw [List.length_append] at hlen; omega) (by have := HS5.out.bel.size; simp; omega) ?_; intro v7 w7 hO7 hg7 how7; have H7 := hide ((HS5.out.below (bel1' _ _)).snocN hO7 hg7 how7); have HS7 := hide H7.out.1; have HR7 := hide (H7.out.2 _ _ (HR5.out.below (bel1' _ _))); have HU7 := hide (H7.out.2 _ _ (HU5.out.below (bel1' _ _))); clear H7 hO7 hg7 how7 HS5 HR5 HU5))
                go_roundw
                case rel => exact ⟨j + 1, by omega, by go_num, hide (by rw [HPU.out, ← List.append_assoc]; exact HS7.out), HR7, HU7⟩
                case measure => simp [intOf]; omega
            · obtain rfl : j = (nxE es b).length := by omega
              have HSn := hide (hSs.out)
              rw [List.take_length, ← HTK.out] at HSn
              go_wp2_with fail
              go_roundw
              case rel => exact ⟨i + 1, by omega, by go_num, HSn, hRs⟩
              case measure => simp [intOf]; omega
        · obtain rfl : i = row.length := by omega
          have HSn := hide (hSq.out.turn)
          rw [List.take_length] at HSn
          have HBN := hide (hBF.out.next HNX.out)
          have hkl : k + 1 ≤ es.length := by omega
          go_wp2_with fail
          go_roundw
          case rel => exact ⟨k + 1, _, _, by go_num, hkl, HBN, hide HSn.out.1, hide HSn.out.2⟩
          case measure => simp [intOf]; omega
    · have hnil : row = [] := List.eq_nil_of_length_eq_zero (by omega)
      have hr0' : ¬ (0 : Int) < (row.length : Int) := by omega
      have HOTH := hide (Fl.Bf.other (hnil ▸ hBF.out) (fun b a hm => (frm_nx es b a (frm_lt es b a hm)).1 hm) HCO.out)
      have hsl := Fl.nodup_len hBF.out.nodup hBF.out.lt
      clear hnil
      go_wp2_with fail
      go_loopw [13, 72] (fun _ iv wq => ∃ b : Nat, b ≤ es.length ∧ iv = .int .i64 b ∧ Hid (Below wr.heap.size wr wq)) (fun _ iv _ => es.length - (intOf iv).toNat)
      case atStart => exact ⟨0, by omega, rfl, hide (Below.refl _ _)⟩
      case round =>
        rename World => wq
        obtain ⟨b, hb, rfl, hBq⟩ := hrel
        have HSq := hide (hSn.out.below hBq.out)
        by_cases hbl : b < es.length
        · have hbl' : (b : Int) < (es.length : Int) := by omega
          have HIN := hide (in_row _ seen b _ HSq.out.s.v (by omega))
          have hcg := (HF9.out.below HSq.out.bel b hbl).1
          by_cases hx : b ∈ seen
          · rw [decide_eq_true hx] at HIN
            clear hx
            go_wp2_with (go_at_call 18; refine (HIN.out).mono ?_; rintro e w15 ⟨rfl, rfl⟩; clear HIN)
            go_roundw
            case rel => exact ⟨b + 1, by omega, by go_num, hBq⟩
            case measure => simp [intOf]; omega
          · rw [decide_eq_false hx] at HIN
            rw [HOTH.out b hx] at hcg
            clear hx
            go_wp2_with (go_at_call 18; refine (HIN.out).mono ?_; rintro e w15 ⟨rfl, rfl⟩; clear HIN)
            go_roundw
            case rel => exact ⟨b + 1, by omega, by go_num, hBq⟩
            case measure => simp [intOf]; omega
        · obtain rfl : b = es.length := by omega
          have HX := hide (bel_of HB9.out HSq.out.bel)
          go_wp2_with fail
          go_ret
          exact ⟨rfl, HX.out⟩
end Go.Proofs.Ytblcbccchlljhaa
