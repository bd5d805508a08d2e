/- wire.Cert: a certificate as bytes. -/
import Derived.Test.YtbjnhicikkjadaaPb
namespace Go.Proofs.Ytbjnhicikkjadaa
open Go.RowKit Ir Wire

/-- A pair, pairs, lists of pairs in memory. -/
def Pair.zero : Pair := ⟨0, 0⟩
def PrAt (w : World) (b off : Nat) (p : Pair) : Prop := w.cell? ⟨b, off, none⟩ = some (.int .i64 p.v) ∧ w.cell? ⟨b, off + 1, none⟩ = some (.int .i64 p.l)
theorem PrAt.below {w w' : World} {b off : Nat} {p : Pair} (h : PrAt w b off p) (hB : Below w.heap.size w w') : PrAt w' b off p := ⟨cell_below hB h.1, cell_below hB h.2⟩
def PrsV (w : World) (v : Value) (ps : List Pair) : Prop := SlV 2 PrAt Pair.zero w v ps
theorem PrsV.below {w w' : World} {v : Value} {ps : List Pair} (h : PrsV w v ps) (hB : Below w.heap.size w w') : PrsV w' v ps := SlV.mono h fun _ _ _ h => h.below hB
def LsAt (w : World) (b off : Nat) (ps : List Pair) : Prop := ∃ u, w.cell? ⟨b, off, none⟩ = some u ∧ PrsV w u ps
theorem LsAt.below {w w' : World} {b off : Nat} {ps : List Pair} (h : LsAt w b off ps) (hB : Below w.heap.size w w') : LsAt w' b off ps := by
  obtain ⟨u, h1, h2⟩ := h
  exact ⟨u, cell_below hB h1, h2.below hB⟩
def CerV (w : World) (v : Value) (l : List (List Pair)) : Prop := SlV 1 LsAt [] w v l
theorem CerV.below {w w' : World} {v : Value} {l : List (List Pair)} (h : CerV w v l) (hB : Below w.heap.size w w') : CerV w' v l := SlV.mono h fun _ _ _ h => h.below hB

def isF (n : Int) : Bool := decide (0 ≤ n ∧ n ≤ 4095)
def okP (p : Pair) : Bool := isF p.v && isF p.l
def okL (l : List Pair) : Bool := l.all okP
/-- What Cert answers. -/
def cerA (l : List (List Pair)) : List Int × Int := if 16 < l.length then ([], 9) else if l.all okL then (cerB l, 0) else ([], 2)
theorem okP_in {p : Pair} (h : okP p = true) : (0 ≤ p.v ∧ p.v < 4096) ∧ 0 ≤ p.l ∧ p.l < 4096 := by
  simp [okP, isF] at h
  omega
set_option maxRecDepth 100000 in
theorem isField_any (n : Int) (w : World) : Calls Try.prog 50 #[.int .i64 n] w fun e w' => e = .returned (.bool (isF n)) ∧ w' = w := by
  by_cases h1 : 0 ≤ n
  · by_cases h2 : n ≤ 4095
    · have e : isF n = true := by simp [isF, h1, h2]
      rw [e]
      clear e
      go_enter Try.func50, Try.ntmps50
      go_wp2
      go_ret
      exact ⟨rfl, rfl⟩
    · have e : isF n = false := by simp [isF, h1, h2]
      rw [e]
      clear e
      go_enter Try.func50, Try.ntmps50
      go_wp2
      go_ret
      exact ⟨rfl, rfl⟩
  · have e : isF n = false := by simp [isF, h1]
    rw [e]
    clear e
    go_enter Try.func50, Try.ntmps50
    go_wp2
    go_ret
    exact ⟨rfl, rfl⟩
theorem prB_len {p : Pair} (h : okP p = true) : (prB p).length ≤ 20 := by
  have g1 := nb16 (okP_in h).1
  have g2 := nb16 (okP_in h).2
  simp [prB]; omega
theorem prsB_len : ∀ {l : List Pair}, okL l = true → (l.flatMap prB).length ≤ 20 * l.length
  | [], _ => by simp
  | p :: l, h => by
    simp only [okL, List.all_cons, Bool.and_eq_true] at h
    have h1 := prsB_len (l := l) h.2
    have h2 := prB_len h.1
    rw [List.flatMap_cons, List.length_append, List.length_cons]; omega
theorem okL_take {l : List Pair} {k : Nat} (h : okL l = true) : okL (l.take k) = true := by
  simp only [okL, List.all_eq_true] at *
  exact fun x hx => h x (List.mem_of_mem_take hx)
theorem lstB_len {l : List Pair} (h : okL l = true) (hl : l.length ≤ 70000) : (lstB l).length ≤ 1500000 := by
  have h1 := prsB_len h
  have h2 := Leb.enc_len10 (n := l.length) (by omega)
  unfold lstB
  rw [List.length_append]; omega
theorem lstsB_len : ∀ {l : List (List Pair)}, (∀ x ∈ l, okL x = true ∧ x.length ≤ 70000) → (l.flatMap lstB).length ≤ 1500000 * l.length
  | [], _ => by simp
  | x :: l, h => by
    have h1 := lstsB_len (l := l) (fun y hy => h y (by simp [hy]))
    have h2 := lstB_len (h x (by simp)).1 (h x (by simp)).2
    rw [List.flatMap_cons, List.length_append, List.length_cons]; omega
theorem okL_snoc {l : List Pair} {k : Nat} (h : k < l.length) (h1 : okL (l.take k) = true) (h2 : okP (l.getD k Pair.zero) = true) : okL (l.take (k + 1)) = true := by
  unfold okL at *
  rw [List.take_succ_eq_append_getElem h, List.all_append, h1]
  have : l.getD k Pair.zero = l[k] := by simp [List.getElem?_eq_getElem h]
  rw [this] at h2
  simp [h2]
theorem okLs_snoc {l : List (List Pair)} {k : Nat} (h : k < l.length) (h1 : (l.take k).all okL = true) (h2 : okL (l.getD k []) = true) : (l.take (k + 1)).all okL = true := by
  rw [List.take_succ_eq_append_getElem h, List.all_append, h1]
  have : l.getD k [] = l[k] := by simp [List.getElem?_eq_getElem h]
  rw [this] at h2
  simp [h2]
theorem cerA_bad {l : List (List Pair)} {k j : Nat} (hl : ¬ 16 < l.length) (h : k < l.length) (hj : j < (l.getD k []).length) (h2 : okP ((l.getD k []).getD j Pair.zero) = false) : cerA l = ([], 2) := by
  unfold cerA
  rw [if_neg hl, if_neg]
  intro e
  rw [List.all_eq_true] at e
  have e2 := e _ (memD [] h)
  unfold okL at e2
  rw [List.all_eq_true] at e2
  rw [e2 _ (memD Pair.zero hj)] at h2
  cases h2
theorem pr_box {B : Nat} {w W : World} {a0 a1 : Value} (h : Put B (w.alloc (.cells #[a0, a1] 111)) W) : W.cell? ⟨w.heap.size, 0, none⟩ = some a0 ∧ W.cell? ⟨w.heap.size, 1, none⟩ = some a1 := by
  have h1 := h.keep w.heap.size _ 111 (0, 0) rfl (heap_alloc_new w (.cells #[a0, a1] 111))
  refine ⟨?_, ?_⟩ <;> (rw [cell_of_row _ _ _ _ _ _ h1]; rfl)
set_option maxHeartbeats 1000000 in
set_option maxRecDepth 100000 in
theorem wcert_any (w : World) (u : Value) (l : List (List Pair)) (hu : CerV w u l) (hx : ∀ x ∈ l, x.length ≤ 70000) :
    Calls Try.prog 27 #[u] w fun e w' => ∃ v', e = .returned (.tuple #[v', .int .i64 (cerA l).2]) ∧ Out w.heap.size w' v' (cerA l).1 ∧ Below w.heap.size w w' := by
  obtain ⟨ub, cb, rfl⟩ := SlV.slice hu
  by_cases h16 : 16 < l.length
  · have e : cerA l = ([], 9) := by unfold cerA; rw [if_pos h16]
    rw [e]
    have h16' : (16 : Int) < (l.length : Int) := by omega
    clear hu e h16 hx
    go_enter Try.func27, Try.ntmps27
    go_wp2_with fail
    go_ret2
    exact ⟨_, rfl, Out.nil _ _, Below.refl _ _⟩
  have HN16 := hide h16
  have h16' : ¬ (16 : Int) < (l.length : Int) := by omega
  have hll : l.length ≤ 16 := by omega
  have HX := hide hx
  clear hx h16
  go_enter Try.func27, Try.ntmps27
  go_wp2_with fail
  refine (wput_any w.heap.size _ _ _ _ [(l.length : Int)] ((Out.nil w.heap.size w).alloc _) (by simp) (lit_ints [(l.length : Int)] (by simp) rfl rfl (by simp)) (by simp; omega) (by simp)).mono ?_
  rintro e w1 ⟨v1, rfl, hO1, hR⟩
  rw [nb_nat, List.nil_append] at hO1
  have hP1 := (Put.alloc (Put.refl w.heap.size w) (Nat.le_refl _) _).trans hR
  clear hR
  have hlen1 : Hid ((Leb.enc l.length).length ≤ 10) := Leb.enc_len10 (n := l.length) (by omega)
  obtain ⟨ys, hys⟩ : ∃ ys, ys = Leb.enc l.length := ⟨_, rfl⟩
  rw [← hys] at hO1 hlen1
  have HY := hide hys
  clear hys
  obtain ⟨ao1, nv1, cap1, rfl⟩ := hO1.sl
  go_wp2_with fail
  go_loopw [4, 18] (fun bv iv wr => ∃ j : Nat, j ≤ l.length ∧ iv = .int .i64 j ∧ Out w.heap.size wr bv (ys ++ (l.take j).flatMap lstB) ∧ Put w.heap.size w wr ∧ Hid ((l.take j).all okL = true)) (fun _ iv _ => l.length - (intOf iv).toNat)
  case atStart => exact ⟨0, by omega, rfl, by simpa using hO1, hP1, by show _ = _; rfl⟩
  case round =>
    rename World => WR
    obtain ⟨j, hj, rfl, hO, hP, hok⟩ := hrel
    obtain ⟨ao2, nv2, cap2, rfl⟩ := hO.sl
    by_cases hlt : j < l.length
    · obtain ⟨gb, off, rfl, ui, hcs, hui⟩ := SlV.at hu j hlt
      rw [Nat.mul_one] at hcs
      have c0 := cell_below hP.bel hcs
      have HS := hide (snocB lstB [] hlt)
      have HB := hide (HX.out _ (memD [] hlt))
      have HOK := hide (fun h2 => okLs_snoc hlt hok.out h2)
      have HBAD := hide (fun k hk h2 => cerA_bad (k := j) (j := k) HN16.out hlt hk h2)
      have HLa := hide (lstsB_len (l := l.take j) (fun x hx => ⟨by have := hok.out; rw [List.all_eq_true] at this; exact this x hx, HX.out x (List.mem_of_mem_take hx)⟩))
      generalize l.getD j [] = ps at *
      obtain ⟨ai, ci, rfl⟩ := SlV.slice hui
      have hil : ps.length ≤ 70000 := HB.out
      have hBr := hP.to (Nat.le_refl _)
      have hlen2 : Hid ((ys ++ (l.take j).flatMap lstB).length ≤ 30000000) := by
        have g1 := hlen1.out
        have g2 := HLa.out
        show _ ≤ _
        rw [List.length_append]
        rw [List.length_take] at g2
        omega
      clear HLa
      go_wp2_with fail
      refine (wput_any w.heap.size _ _ _ _ [(ps.length : Int)] (hO.alloc _) (by simp; omega) (lit_ints [(ps.length : Int)] (by simp) rfl rfl (by simp)) (by simp; omega) (by have := hlen2.out; simp at this ⊢; omega)).mono ?_
      rintro x w2 ⟨v2, rfl, hO2, hR⟩
      rw [nb_nat] at hO2
      have hQ1 := hP.trans ((Put.alloc (Put.refl w.heap.size _) hBr _).trans hR)
      clear hR hO c0
      obtain ⟨ao3, nv3, cap3, rfl⟩ := hO2.sl
      obtain ⟨zs, hzs⟩ : ∃ zs, zs = ys ++ (l.take j).flatMap lstB ++ Leb.enc ps.length := ⟨_, rfl⟩
      rw [← hzs] at hO2
      have hlen3 : Hid (zs.length ≤ 30000010) := by
        have g1 := hlen2.out
        have g2 := Leb.enc_len10 (n := ps.length) (by omega)
        show _ ≤ _
        rw [hzs, List.length_append]
        omega
      have HZ := hide hzs
      clear hzs hlen2
      go_wp2_with fail
      go_loopw [4, 29] (fun bv iv wr => ∃ k : Nat, k ≤ ps.length ∧ iv = .int .i64 k ∧ Out w.heap.size wr bv (zs ++ (ps.take k).flatMap prB) ∧ Put w.heap.size w wr ∧ Hid (okL (ps.take k) = true)) (fun _ iv _ => ps.length - (intOf iv).toNat)
      case atStart => exact ⟨0, by omega, rfl, by simpa using hO2, hQ1, by show _ = _; rfl⟩
      case round =>
        obtain ⟨k, hk, rfl, hO, hQ, hok2⟩ := hrel
        obtain ⟨ao4, nv4, cap4, rfl⟩ := hO.sl
        have hBq := hQ.to (Nat.le_refl _)
        by_cases hkl : k < ps.length
        · obtain ⟨gi, oi, rfl, hc0, hc1⟩ := SlV.at hui k hkl
          have c0 := cell_below hQ.bel hc0
          have c1 := cell_below hQ.bel hc1
          have HS2 := hide (snocB prB Pair.zero hkl)
          have HOK2 := hide (fun h2 => okL_snoc hkl hok2.out h2)
          have HBAD2 := hide (fun h2 => HBAD.out k hkl h2)
          have HLi := hide (prsB_len hok2.out)
          generalize ps.getD k Pair.zero = pp at *
          obtain ⟨pv, pl⟩ := pp
          simp only at c0 c1
          have hlen4 : Hid ((zs ++ (ps.take k).flatMap prB).length ≤ 40000000) := by
            have g1 := hlen3.out
            have g2 := HLi.out
            show _ ≤ _
            rw [List.length_append]
            rw [List.length_take] at g2
            omega
          have HBX := hide (fun W' (h : Put w.heap.size (wr.alloc (.cells #[.int .i64 pv, .int .i64 pl] 111)) W') => pr_box h)
          have hOb := hO.alloc (.cells #[.int .i64 pv, .int .i64 pl] 111)
          have hQ2 := Put.alloc (Put.refl w.heap.size wr) hBq (.cells #[.int .i64 pv, .int .i64 pl] 111)
          have hBx := hQ2.to hBq
          obtain ⟨d0, d1⟩ := HBX.out _ (Put.refl _ _)
          have HV := hide (isField_any pv (wr.alloc (.cells #[.int .i64 pv, .int .i64 pl] 111)))
          have HL := hide (isField_any pl (wr.alloc (.cells #[.int .i64 pv, .int .i64 pl] 111)))
          clear HLi hO
          cases hv : isF pv with
          | false =>
            have HE := hide (HBAD2.out (by simp [okP, hv]))
            rw [hv] at HV
            go_wp2_with fail
            refine HV.out.mono ?_
            rintro x w3 ⟨rfl, rfl⟩
            go_wp2_with fail
            go_ret2
            rw [HE.out]
            exact ⟨_, rfl, Out.nil _ _, (hQ.trans hQ2).bel⟩
          | true =>
            cases hl : isF pl with
            | false =>
              have HE := hide (HBAD2.out (by simp [okP, hl]))
              rw [hv] at HV
              rw [hl] at HL
              go_wp2_with fail
              refine HV.out.mono ?_
              rintro x w3 ⟨rfl, rfl⟩
              go_wp2_with fail
              refine HL.out.mono ?_
              rintro x w3 ⟨rfl, rfl⟩
              go_wp2_with fail
              go_ret2
              rw [HE.out]
              exact ⟨_, rfl, Out.nil _ _, (hQ.trans hQ2).bel⟩
            | true =>
              have hpp : okP ⟨pv, pl⟩ = true := by simp [okP, hv, hl]
              have hin := okP_in hpp
              have hok3 := hide (HOK2.out hpp)
              simp only at hin
              rw [hv] at HV
              rw [hl] at HL
              have i0 := hin.1.1
              have i1 := hin.1.2
              have i2 := hin.2.1
              have i3 := hin.2.2
              clear hin hpp hv hl HBAD2 HOK2
              go_wp2_with fail
              refine HV.out.mono ?_
              rintro x w3 ⟨rfl, rfl⟩
              go_wp2_with fail
              refine HL.out.mono ?_
              rintro x w3 ⟨rfl, rfl⟩
              go_wp2_with fail
              refine (wput_any w.heap.size _ _ _ _ [pv, pl] (hOb.alloc _) (by simp at hBx ⊢; omega) (lit_ints [pv, pl] (by simp) rfl rfl (by simp)) (by simp; omega) (by have := hlen4.out; simp at this ⊢; omega)).mono ?_
              rintro x w4 ⟨v4, rfl, hO4, hR4⟩
              have hQ3 := hQ.trans (hQ2.trans ((Put.alloc (Put.refl w.heap.size _) hBx _).trans hR4))
              have hO5 : Out w.heap.size w4 v4 (zs ++ (ps.take (k + 1)).flatMap prB) := by
                rw [HS2.out, ← List.append_assoc]
                have e : prB ⟨pv, pl⟩ = [pv, pl].flatMap nb := by simp [prB]
                rw [e]
                exact hO4
              clear hR4 hQ hQ2 hO4 HS2 c0 c1 d0 d1 hBq hBx hOb HV HL HBX hok2 hlen4
              go_wp2_with fail
              go_roundw
              case rel => exact ⟨k + 1, by omega, by go_num, hO5, hQ3, hok3⟩
              case measure => simp [intOf]; omega
        · obtain rfl : k = ps.length := by omega
          have hok3 : Hid ((l.take (j + 1)).all okL = true) := HOK.out (by have := hok2.out; rwa [List.take_length] at this)
          have hO5 : Out w.heap.size wr (.slice ao4 nv4 cap4) (ys ++ (l.take (j + 1)).flatMap lstB) := by
            rw [List.take_length] at hO
            have e1 : ys ++ (l.take (j + 1)).flatMap lstB = zs ++ ps.flatMap prB := by
              rw [HS.out, HZ.out]
              simp [lstB]
            rw [e1]
            exact hO
          clear hO HS HB HOK HBAD hBq hok2 HZ hui hcs
          go_wp2_with fail
          go_roundw
          case rel => exact ⟨j + 1, by omega, by go_num, hO5, hQ, hok3⟩
          case measure => simp [intOf]; omega
    · obtain rfl : j = l.length := by omega
      rw [List.take_length] at hO hok
      have HE : Hid (cerA l = (cerB l, 0)) := by
        show _ = _
        unfold cerA
        rw [if_neg HN16.out, if_pos hok.out]
      go_wp2_with fail
      go_ret2
      rw [HE.out]
      refine ⟨_, rfl, ?_, hP.bel⟩
      have e : cerB l = ys ++ l.flatMap lstB := by rw [HY.out]; rfl
      simp only [e]
      exact hO
end Go.Proofs.Ytbjnhicikkjadaa
