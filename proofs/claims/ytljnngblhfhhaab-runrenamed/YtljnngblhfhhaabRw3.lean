/- RunRenamed: all instructions of a block, all blocks. -/
import Derived.Test.YtljnngblhfhhaabRw2
namespace Go.Proofs.Ytljnngblhfhhaab
open Go Go.RowKit Ir

theorem own_slice {w : World} {B n sz : Nat} {t : TypeId} {v : Value} {xs : List Value} (h : w.ownsRow B t sz v n xs) : ∃ ao cap, v = .slice ao n cap ∧ (0 < n → ao = some ⟨Ap.ob v, 0, none⟩) := by
  rcases h.2 with ⟨rfl, rfl⟩ | ⟨g, cap, cur, rfl, _⟩
  · exact ⟨none, 0, rfl, fun h => by omega⟩
  · exact ⟨_, cap, rfl, fun _ => rfl⟩
/-- What the rows' values are. -/
structure Vals (qs : List Ap.PB) : Prop where
  rv : ∀ k, k < qs.length → ∃ ao cap, Ap.rv qs k = .slice ao (Ap.nI qs k) cap ∧ (0 < Ap.nI qs k → ao = some ⟨Ap.ob (Ap.rv qs k), 0, none⟩)
  av : ∀ k j, k < qs.length → j < Ap.nI qs k → ∃ ao cap, Ap.av qs k j = .slice ao (Ap.D0 qs k j).args.length cap ∧ (0 < (Ap.D0 qs k j).args.length → ao = some ⟨Ap.ob (Ap.av qs k j), 0, none⟩)
  kind : ∀ k j, k < qs.length → j < Ap.nI qs k → (1 ≤ (Ap.D0 qs k j).k ∧ (Ap.D0 qs k j).k ≤ 6) ∧ (Ap.D0 qs k j).args.length ≤ 3
  few : ∀ k, k < qs.length → Ap.nI qs k ≤ 1000
theorem vals_of {B : Nat} {W : World} {qs : List Ap.PB} (hR : Ap.Rest B W qs) (hch : ∀ b ∈ qs.map (·.1), b.ins.length ≤ 32 ∧ ∀ i ∈ b.ins, (1 ≤ i.k ∧ i.k ≤ 6) ∧ i.args.length ≤ 3) : Vals qs := by
  have hmem : ∀ k, k < qs.length → qs.getD k Ap.zPB ∈ qs := fun k hk => by simp [hk]
  have hmemj : ∀ k j, j < Ap.nI qs k → (qs.getD k Ap.zPB).2.2.getD j Ap.zI ∈ (qs.getD k Ap.zPB).2.2 := by
    intro k j hj
    have hj' : j < (qs.getD k Ap.zPB).2.2.length := hj
    generalize (qs.getD k Ap.zPB).2.2 = l at hj'
    simp [hj']
  refine ⟨fun k hk => own_slice (hR.each _ (hmem k hk)).2.row, fun k j hk hj => own_slice ((hR.each _ (hmem k hk)).2.args _ (hmemj k j hj)), fun k j hk hj => ?_, fun k hk => ?_⟩
  · have h1 := (hR.each _ (hmem k hk)).1
    refine (hch _ (List.mem_map.2 ⟨_, hmem k hk, rfl⟩)).2 _ ?_
    rw [← h1]
    exact List.mem_map.2 ⟨_, hmemj k j hj, rfl⟩
  · have h1 := (hR.each _ (hmem k hk)).1
    have h2 := (hch _ (List.mem_map.2 ⟨_, hmem k hk, rfl⟩)).1
    have h3 := congrArg List.length h1
    rw [List.length_map] at h3
    unfold Ap.nI
    omega
set_option maxHeartbeats 1000000 in
set_option maxRecDepth 100000 in
theorem ins_exit {Q : Exit → Act → World → Prop} {a : Act} {w : World} {nk : Nat} {v5 v9 v10 v14 v16 v18 v55 v56 : Value} (hA : ActR v5 v9 v10 v14 v16 v18 v55 v56 (.int .i64 (nk : Nat)) (.int .i64 (nk : Nat)) a) (hend : ∀ a' : Act, ActR v5 v9 v10 v14 v16 v18 v55 v56 (.int .i64 (nk : Nat)) (.int .i64 (nk : Nat)) a' → Q (.exit 2) a' w) : insB.wp Try.prog Q a w := by
  obtain ⟨ρ, rfl⟩ := hA.lit
  have HEND := hide hend
  clear hend hA
  unfold insB
  go_wp2_with fail
  exact HEND.out _ ⟨rfl, rfl, rfl, rfl, rfl, rfl, rfl, rfl, rfl, rfl, rfl, rfl⟩
theorem ins_loop {Q : Exit → Act → World → Prop} {a0 : Act} {W0 w0 : World} {lo hi gb gu gv kk : Nat} {qs : List Ap.PB} {U V : Int} {D : Nat → Nat → Ins} {E : Nat → En} {v5 v9 v10 v18 v55 v56 : Value} (hA0 : ActR v5 v9 v10 (clos gu gv) (.pointer (some ⟨gb, kk * 5, none⟩)) v18 v55 v56 (.int .i64 (Ap.nI qs kk : Nat)) (.int .i64 (0 : Nat)) a0) (hC0 : Ap.Cur W0 lo qs gb D E w0) (hP : Ap.Apt lo hi qs gb) (hX : Boxes W0 qs gb gu gv U V) (hf : ∀ b o, Ap.Zone qs gb b → W0.frozen? ⟨b, o, none⟩ = false) (hV : Vals qs) (hk : kk < qs.length) (hD : ∀ j, j < Ap.nI qs kk → D kk j = Ap.D0 qs kk j)
    (hend : ∀ (a' : Act) (w' : World) (v18' : Value), ActR v5 v9 v10 (clos gu gv) (.pointer (some ⟨gb, kk * 5, none⟩)) v18' v55 v56 (.int .i64 (Ap.nI qs kk : Nat)) (.int .i64 (Ap.nI qs kk : Nat)) a' → Ap.Cur W0 lo qs gb (fun k j => if k = kk then renI U V (D k j) else D k j) E w' → Q (.exit 2) a' w') : (Code.loop insB).wp Try.prog Q a0 w0 := by
  refine wp_loop (fun a w => ∃ (jj : Nat) (v18 : Value), jj ≤ Ap.nI qs kk ∧ ActR v5 v9 v10 (clos gu gv) (.pointer (some ⟨gb, kk * 5, none⟩)) v18 v55 v56 (.int .i64 (Ap.nI qs kk : Nat)) (.int .i64 (jj : Nat)) a ∧ Ap.Cur W0 lo qs gb (fun k j => if k = kk ∧ j < jj then renI U V (D k j) else D k j) E w) (fun a _ => Ap.nI qs kk - (intOf (a.eval (.tmp 68))).toNat) ⟨0, v18, by omega, hA0, hC0.congr (fun k _ j _ => if_neg (by omega)) (fun _ _ => rfl)⟩ ?_
  rintro a w ⟨jj, v18, hjj, hA, hC⟩
  by_cases hlt : jj < Ap.nI qs kk
  · have hDj : (fun k j => if k = kk ∧ j < jj then renI U V (D k j) else D k j) kk jj = Ap.D0 qs kk jj := by
      show (if kk = kk ∧ jj < jj then renI U V (D kk jj) else D kk jj) = _
      rw [if_neg (by omega)]
      exact hD jj hlt
    have hav := hV.av kk jj hk hlt
    obtain ⟨⟨hk1, hk6⟩, hl3⟩ := hV.kind kk jj hk hlt
    obtain ⟨ao, cap, hrv, hao⟩ := hV.rv kk hk
    rw [hao (by omega)] at hrv
    have hend' : ∀ (a' : Act) (w' : World) (v18' : Value), ActR v5 v9 v10 (clos gu gv) (.pointer (some ⟨gb, kk * 5, none⟩)) v18' v55 v56 (.int .i64 (Ap.nI qs kk : Nat)) (.int .i64 (jj + 1 : Nat)) a' → Ap.Cur W0 lo qs gb (upI (fun k j => if k = kk ∧ j < jj then renI U V (D k j) else D k j) kk jj (renI U V ((fun k j => if k = kk ∧ j < jj then renI U V (D k j) else D k j) kk jj))) E w' → Exit.then (fun a' w' => (∃ (jj : Nat) (v18 : Value), jj ≤ Ap.nI qs kk ∧ ActR v5 v9 v10 (clos gu gv) (.pointer (some ⟨gb, kk * 5, none⟩)) v18 v55 v56 (.int .i64 (Ap.nI qs kk : Nat)) (.int .i64 (jj : Nat)) a' ∧ Ap.Cur W0 lo qs gb (fun k j => if k = kk ∧ j < jj then renI U V (D k j) else D k j) E w') ∧ Ap.nI qs kk - (intOf (a'.eval (.tmp 68))).toNat < Ap.nI qs kk - (intOf (a.eval (.tmp 68))).toNat) Q .normal a' w' := by
      intro a' w' v18' hA' hC'
      refine ⟨⟨jj + 1, v18', hlt, hA', hC'.congr (fun k hk' j hj' => ?_) (fun _ _ => rfl)⟩, ?_⟩
      · rw [hDj]
        unfold upI
        by_cases e : k = kk ∧ j = jj
        · rw [if_pos e, if_pos (by omega), e.1, e.2, hD jj hlt]
        · rw [if_neg e]
          show _ = if k = kk ∧ j < jj then renI U V (D k j) else D k j
          by_cases e2 : k = kk ∧ j < jj
          · rw [if_pos e2, if_pos (by omega)]
          · rw [if_neg e2, if_neg (by omega)]
      · rw [hA'.b68, hA.b68]
        simp only [intOf]
        omega
    have hav' : ∃ ao cap, Ap.av qs kk jj = .slice ao ((fun k j => if k = kk ∧ j < jj then renI U V (D k j) else D k j) kk jj).args.length cap ∧ (0 < ((fun k j => if k = kk ∧ j < jj then renI U V (D k j) else D k j) kk jj).args.length → ao = some ⟨Ap.ob (Ap.av qs kk jj), 0, none⟩) := by rw [hDj]; exact hav
    have hl3' : ((fun k j => if k = kk ∧ j < jj then renI U V (D k j) else D k j) kk jj).args.length ≤ 3 := by rw [hDj]; exact hl3
    have hkk : ∀ n : Int, (Ap.D0 qs kk jj).k = n → ((fun k j => if k = kk ∧ j < jj then renI U V (D k j) else D k j) kk jj).k = n := fun n e => by rw [hDj]; exact e
    by_cases e1 : (Ap.D0 qs kk jj).k = 1
    · exact ins_1 hA hC hP hX hf hk hlt (hV.few kk hk) ⟨_, hrv⟩ hav' hl3' (hkk _ e1) hend'
    by_cases e2 : (Ap.D0 qs kk jj).k = 2
    · exact ins_2 hA hC hP hX hf hk hlt (hV.few kk hk) ⟨_, hrv⟩ hav' hl3' (hkk _ e2) hend'
    by_cases e3 : (Ap.D0 qs kk jj).k = 3
    · exact ins_3 hA hC hP hX hf hk hlt (hV.few kk hk) ⟨_, hrv⟩ hav' hl3' (hkk _ e3) hend'
    by_cases e4 : (Ap.D0 qs kk jj).k = 4
    · exact ins_4 hA hC hP hX hf hk hlt (hV.few kk hk) ⟨_, hrv⟩ hav' hl3' (hkk _ e4) hend'
    by_cases e5 : (Ap.D0 qs kk jj).k = 5
    · exact ins_5 hA hC hP hX hf hk hlt (hV.few kk hk) ⟨_, hrv⟩ hav' hl3' (hkk _ e5) hend'
    · exact ins_6 hA hC hP hX hf hk hlt (hV.few kk hk) ⟨_, hrv⟩ hav' hl3' (hkk _ (by omega)) hend'
  · obtain rfl : jj = Ap.nI qs kk := by omega
    refine ins_exit hA fun a' hA' => ?_
    refine hend a' w v18 hA' (hC.congr (fun k hk' j hj' => ?_) (fun _ _ => rfl))
    by_cases e : k = kk
    · subst e
      rw [if_pos rfl, if_pos ⟨rfl, hj'⟩]
    · rw [if_neg e, if_neg (by omega)]
set_option maxHeartbeats 2000000 in
set_option maxRecDepth 100000 in
theorem blk_step {Q : Exit → Act → World → Prop} {a : Act} {W0 w : World} {lo hi gb gu gv kk pg cb : Nat} {qs : List Ap.PB} {U V p vv : Int} {D : Nat → Nat → Ins} {E : Nat → En} {v5 v9 v16 v18 v67 v68 : Value} (hA : ActR v5 v9 (.pointer (some ⟨pg, 0, none⟩)) (clos gu gv) v16 v18 (.int .i64 (qs.length : Nat)) (.int .i64 (kk : Nat)) v67 v68 a) (hC : Ap.Cur W0 lo qs gb D E w) (hP : Ap.Apt lo hi qs gb) (hX : Boxes W0 qs gb gu gv U V) (hf : ∀ b o, Ap.Zone qs gb b → W0.frozen? ⟨b, o, none⟩ = false) (hV : Vals qs) (hk : kk < qs.length) (hkl : qs.length ≤ 1000) (hD : ∀ j, j < Ap.nI qs kk → D kk j = Ap.D0 qs kk j) (hg : W0.heap[pg]? = some (Obj.cells #[.int .i64 p, .int .i64 vv, .slice (some ⟨gb, 0, none⟩) qs.length cb] 31 (0, 0))) (hng : ¬ Ap.Zone qs gb pg)
    (hend : ∀ (a' : Act) (w' : World) (v16' v18' v67' v68' : Value), ActR v5 v9 (.pointer (some ⟨pg, 0, none⟩)) (clos gu gv) v16' v18' (.int .i64 (qs.length : Nat)) (.int .i64 (kk + 1 : Nat)) v67' v68' a' → Ap.Cur W0 lo qs gb (fun k j => if k = kk then renI U V (D k j) else D k j) (fun k => if k = kk then renE U V (E k) else E k) w' → Q .normal a' w') : blkB.wp Try.prog Q a w := by
  obtain ⟨ρ, rfl⟩ := hA.lit
  have hgw := (hC.out pg hng).trans hg
  have cg : w.cell? ⟨pg, 2, none⟩ = some (.slice (some ⟨gb, 0, none⟩) qs.length cb) := by rw [cell_of_row _ _ _ _ _ _ hgw]; rfl
  obtain ⟨ao, cap, hrv, hao⟩ := hV.rv kk hk
  have hcb := hC.blk kk hk 0 (by omega)
  have eb : Ap.ecell (E kk) (Ap.rv qs kk) 0 = Ap.rv qs kk := rfl
  rw [eb, hrv, Nat.add_zero] at hcb
  have hkl2 : (kk : Int) < (qs.length : Int) := by omega
  have hkb : (kk : Int) ≤ 1000 := by omega
  have HC := hide hC
  have HEND := hide hend
  simp only [clos]
  clear hC hA hgw hrv hao eb hend
  unfold blkB
  go_wp2_with fail
  clear hcb cg
  refine ins_loop (kk := kk) (gu := gu) (gv := gv) (U := U) (V := V) (v5 := v5) (v9 := v9) (v10 := .pointer (some ⟨pg, 0, none⟩)) (v18 := v18) (v55 := .int .i64 (qs.length : Nat)) (v56 := .int .i64 (kk : Nat)) ?_ HC.out hP hX hf hV hk hD ?_
  · exact ⟨rfl, rfl, rfl, rfl, rfl, rfl, rfl, rfl, rfl, rfl, rfl, rfl⟩
  intro a' w' v18' hA' hC'
  obtain ⟨ρ2, rfl⟩ := hA'.lit
  have b1 := hC'.blk kk hk 1 (by omega)
  have b2 := hC'.blk kk hk 2 (by omega)
  have e1 : Ap.ecell (E kk) (Ap.rv qs kk) 1 = .int .u8 (E kk).k := rfl
  have e2 : Ap.ecell (E kk) (Ap.rv qs kk) 2 = .int .i64 (E kk).a := rfl
  rw [e1] at b1
  rw [e2] at b2
  simp only [clos]
  by_cases hk1 : (E kk).k = 1
  · have HC2 : Hid (Ap.Cur W0 lo qs gb (fun k j => if k = kk then renI U V (D k j) else D k j) (fun k => if k = kk then renE U V (E k) else E k) w') := hC'.congr (fun _ _ _ _ => rfl) (fun k _ => by
      split
      · rename_i e
        rw [e]
        unfold renE
        rw [if_pos hk1]
      · rfl)
    rw [hk1] at b1
    clear hC' hA' e1 e2 b2 hk1
    go_wp2_with fail
    refine HEND.out _ _ _ _ _ _ ⟨rfl, rfl, rfl, rfl, rfl, rfl, rfl, rfl, ?_, rfl, rfl, rfl⟩ HC2.out
    rfl
  · have hkb1 : ((E kk).k == 1) = false := by rw [beq_eq_false_iff_ne]; exact hk1
    obtain ⟨cu, cv⟩ := hX.cells hC'
    have HCL := hide (as_any gu gv U V (E kk).a w' cu cv)
    have hfr : w'.frozen? ⟨gb, kk * 5 + 2, none⟩ = false := (hC'.fro _).trans (hf _ _ (.inl rfl))
    have hC2 := hC'.setE hP (x := swp U V (E kk).a) hk
    have HC2 : Hid (Ap.Cur W0 lo qs gb (fun k j => if k = kk then renI U V (D k j) else D k j) (fun k => if k = kk then renE U V (E k) else E k) (w'.setCell ⟨gb, kk * 5 + 2, none⟩ (.int .i64 (swp U V (E kk).a)))) := hC2.congr (fun _ _ _ _ => rfl) (fun k _ => by
      split
      · rename_i e
        rw [e]
        unfold renE
        rw [if_neg hk1]
      · rfl)
    obtain ⟨ek, hek⟩ : ∃ ek, (E kk).k = ek := ⟨_, rfl⟩
    obtain ⟨ea, hea⟩ : ∃ ea, (E kk).a = ea := ⟨_, rfl⟩
    rw [hek] at b1 hkb1
    rw [hea] at b2 HCL HC2
    clear hC' hC2 hA' e1 e2 hk1 hek hea cu cv
    go_wp2_with fail
    refine HCL.out.mono ?_
    rintro e w9 ⟨rfl, rfl⟩
    go_wp2_with fail
    refine HEND.out _ _ _ _ _ _ ⟨rfl, rfl, rfl, rfl, rfl, rfl, rfl, rfl, ?_, rfl, rfl, rfl⟩ HC2.out
    rfl
set_option maxHeartbeats 1000000 in
set_option maxRecDepth 100000 in
theorem blk_exit {Q : Exit → Act → World → Prop} {a : Act} {w : World} {nb : Nat} {v5 v9 v10 v14 v16 v18 v67 v68 : Value} (hA : ActR v5 v9 v10 v14 v16 v18 (.int .i64 (nb : Nat)) (.int .i64 (nb : Nat)) v67 v68 a) (hend : ∀ a' : Act, ActR v5 v9 v10 v14 v16 v18 (.int .i64 (nb : Nat)) (.int .i64 (nb : Nat)) v67 v68 a' → Q (.exit 0) a' w) : blkB.wp Try.prog Q a w := by
  obtain ⟨ρ, rfl⟩ := hA.lit
  have HEND := hide hend
  clear hend hA
  unfold blkB
  go_wp2_with fail
  exact HEND.out _ ⟨rfl, rfl, rfl, rfl, rfl, rfl, rfl, rfl, rfl, rfl, rfl, rfl⟩
theorem blk_loop {Q : Exit → Act → World → Prop} {a0 : Act} {W0 w0 : World} {lo hi gb gu gv pg cb : Nat} {qs : List Ap.PB} {U V p vv : Int} {v5 v9 v16 v18 v67 v68 : Value} (hA0 : ActR v5 v9 (.pointer (some ⟨pg, 0, none⟩)) (clos gu gv) v16 v18 (.int .i64 (qs.length : Nat)) (.int .i64 (0 : Nat)) v67 v68 a0) (hC0 : Ap.Cur W0 lo qs gb (Ap.D0 qs) (Ap.E0 qs) w0) (hP : Ap.Apt lo hi qs gb) (hX : Boxes W0 qs gb gu gv U V) (hf : ∀ b o, Ap.Zone qs gb b → W0.frozen? ⟨b, o, none⟩ = false) (hV : Vals qs) (hkl : qs.length ≤ 1000) (hg : W0.heap[pg]? = some (Obj.cells #[.int .i64 p, .int .i64 vv, .slice (some ⟨gb, 0, none⟩) qs.length cb] 31 (0, 0))) (hng : ¬ Ap.Zone qs gb pg)
    (hend : ∀ (a' : Act) (w' : World) (v16' v18' v67' v68' : Value), ActR v5 v9 (.pointer (some ⟨pg, 0, none⟩)) (clos gu gv) v16' v18' (.int .i64 (qs.length : Nat)) (.int .i64 (qs.length : Nat)) v67' v68' a' → Ap.Cur W0 lo qs gb (fun k j => renI U V (Ap.D0 qs k j)) (fun k => renE U V (Ap.E0 qs k)) w' → Q (.exit 0) a' w') : (Code.loop blkB).wp Try.prog Q a0 w0 := by
  refine wp_loop (fun a w => ∃ (kk : Nat) (v16 v18 v67 v68 : Value), kk ≤ qs.length ∧ ActR v5 v9 (.pointer (some ⟨pg, 0, none⟩)) (clos gu gv) v16 v18 (.int .i64 (qs.length : Nat)) (.int .i64 (kk : Nat)) v67 v68 a ∧ Ap.Cur W0 lo qs gb (fun k j => if k < kk then renI U V (Ap.D0 qs k j) else Ap.D0 qs k j) (fun k => if k < kk then renE U V (Ap.E0 qs k) else Ap.E0 qs k) w) (fun a _ => qs.length - (intOf (a.eval (.tmp 56))).toNat) ⟨0, _, _, _, _, by omega, hA0, hC0.congr (fun k _ j _ => if_neg (by omega)) (fun k _ => if_neg (by omega))⟩ ?_
  rintro a w ⟨kk, v16, v18, v67, v68, hkk, hA, hC⟩
  by_cases hlt : kk < qs.length
  · refine blk_step hA hC hP hX hf hV hlt hkl (fun j _ => if_neg (by omega)) hg hng ?_
    intro a' w' v16' v18' v67' v68' hA' hC'
    refine ⟨⟨kk + 1, v16', v18', v67', v68', hlt, hA', hC'.congr (fun k _ j _ => ?_) (fun k _ => ?_)⟩, ?_⟩
    · by_cases e : k = kk
      · rw [if_pos e, if_pos (by omega), if_neg (by omega)]
      · rw [if_neg e]
        by_cases e2 : k < kk
        · rw [if_pos e2, if_pos (by omega)]
        · rw [if_neg e2, if_neg (by omega)]
    · by_cases e : k = kk
      · rw [if_pos e, if_pos (by omega), if_neg (by omega)]
      · rw [if_neg e]
        by_cases e2 : k < kk
        · rw [if_pos e2, if_pos (by omega)]
        · rw [if_neg e2, if_neg (by omega)]
    · rw [hA'.b56, hA.b56]
      simp only [intOf]
      omega
  · obtain rfl : kk = qs.length := by omega
    refine blk_exit hA fun a' hA' => ?_
    exact hend a' w _ _ _ _ hA' (hC.congr (fun k hk j _ => (if_pos hk).symm) (fun k hk => (if_pos hk).symm))
end Go.Proofs.Ytljnngblhfhhaab
