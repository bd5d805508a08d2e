/- The document's CertBytes. -/
import Derived.Test.YtbjnhicikkjadaaWc
import Derived.Test.YtbjnhicikkjadaaRf
namespace Go.Proofs.Ytbjnhicikkjadaa
open Go.RowKit Ir Wire

theorem box2' {w : World} {g : Nat} {a0 a1 : Value} {t : TypeId} (h : w.heap[g]? = some (Obj.cells #[a0, a1] t (0, 0))) : w.cell? ⟨g, 0, none⟩ = some a0 ∧ w.cell? ⟨g, 1, none⟩ = some a1 := by
  refine ⟨?_, ?_⟩ <;> (rw [cell_of_row _ _ _ _ _ _ h]; rfl)
set_option maxHeartbeats 2000000 in
set_option maxRecDepth 100000 in
theorem refCert_any (w : World) (u : Value) (l : List (List Pair)) (hu : CerV w u l) (hx : ∀ x ∈ l, x.length ≤ 70000) :
    Calls Try.prog 28 #[u] w fun e w' => ∃ v', e = .returned (.tuple #[v', .int .i64 (cerA l).2]) ∧ Lb.Byt w' v' (cerA l).1 ∧ Below w.heap.size w w' := by
  obtain ⟨ub, cb, rfl⟩ := SlV.slice hu
  by_cases h16 : 16 < l.length
  · have e : cerA l = ([], 9) := by unfold cerA; rw [if_pos h16]
    rw [e]
    have h16' : (16 : Int) < (l.length : Int) := by omega
    clear hu e h16 hx
    go_enter Try.func28, Try.ntmps28
    go_wp2_with fail
    go_ret2
    exact ⟨_, rfl, Lb.Byt.nil _, Below.refl _ _⟩
  have HN16 := hide h16
  have h16' : ¬ (16 : Int) < (l.length : Int) := by omega
  have hll : l.length ≤ 16 := by omega
  have HX := hide hx
  have HC := hide (Lb.refPut_any (.slice none 0 0) [] l.length w (Lb.Byt.nil _) (by simp) (by unfold Leb.Fits; omega))
  clear hx h16
  go_enter Try.func28, Try.ntmps28
  go_wp2_with fail
  refine HC.out.mono ?_
  rintro e w1 ⟨v1, rfl, hO1, hP1⟩
  rw [List.nil_append] at hO1
  have hlen1 : Hid ((Leb.enc l.length).length ≤ 10) := Leb.enc_len10 (n := l.length) (by omega)
  obtain ⟨ys, hys⟩ : ∃ ys, ys = Leb.enc l.length := ⟨_, rfl⟩
  rw [← hys] at hO1 hlen1
  have HY := hide hys
  clear hys HC
  obtain ⟨ao1, nv1, cap1, rfl⟩ := bysnd _ _ _ hO1
  go_wp2_with fail
  go_loopw [4, 5] (fun bv iv wr => ∃ j : Nat, j ≤ l.length ∧ iv = .int .i64 j ∧ Lb.Byt wr bv (ys ++ (l.take j).flatMap lstB) ∧ Below w.heap.size w wr ∧ Hid ((l.take j).all okL = true)) (fun _ iv _ => l.length - (intOf iv).toNat)
  case atStart => exact ⟨0, by omega, rfl, by simpa using hO1, hP1, by show _ = _; rfl⟩
  case round =>
    rename World => WR
    obtain ⟨j, hj, rfl, hO, hP, hok⟩ := hrel
    by_cases hlt : j < l.length
    · obtain ⟨gb, off, rfl, ui, hcs, hui⟩ := SlV.at hu j hlt
      rw [Nat.mul_one] at hcs
      have c0 := cell_below hP hcs
      have HS := hide (snocB lstB [] hlt)
      have HB := hide (HX.out _ (memD [] hlt))
      have HOK := hide (fun h2 => okLs_snoc hlt hok.out h2)
      have HBAD := hide (fun k hk h2 => cerA_bad (k := j) (j := k) HN16.out hlt hk h2)
      have HLa := hide (lstsB_len (l := l.take j) (fun x hx => ⟨by have := hok.out; rw [List.all_eq_true] at this; exact this x hx, HX.out x (List.mem_of_mem_take hx)⟩))
      generalize l.getD j [] = ps at *
      obtain ⟨ai, ci, rfl⟩ := SlV.slice hui
      have hil : ps.length ≤ 70000 := HB.out
      have hlen2 : Hid ((ys ++ (l.take j).flatMap lstB).length ≤ 30000000) := by
        have g1 := hlen1.out
        have g2 := HLa.out
        show _ ≤ _
        rw [List.length_append]
        rw [List.length_take] at g2
        omega
      have HC := hide (Lb.refPut_any _ _ ps.length WR hO (by have := hlen2.out; omega) (by unfold Leb.Fits; omega))
      obtain ⟨ao2, nv2, cap2, rfl⟩ := bysnd _ _ _ hO
      clear HLa hO
      go_wp2_with fail
      refine HC.out.mono ?_
      rintro x w2 ⟨v2, rfl, hO2, hR⟩
      have hQ1 := hP.trans (hR.mono hP.size)
      clear hR c0 HC
      obtain ⟨zs, hzs⟩ : ∃ zs, zs = ys ++ (l.take j).flatMap lstB ++ Leb.enc ps.length := ⟨_, rfl⟩
      rw [← hzs] at hO2
      have hlen3 : Hid (zs.length ≤ 30000010) := by
        have g1 := hlen2.out
        have g2 := Leb.enc_len10 (n := ps.length) (by omega)
        show _ ≤ _
        rw [hzs, List.length_append]
        omega
      have HZ := hide hzs
      clear hzs hlen2
      obtain ⟨ao3, nv3, cap3, rfl⟩ := bysnd _ _ _ hO2
      go_wp2_with fail
      go_loopw [4, 6] (fun bv iv wr => ∃ k : Nat, k ≤ ps.length ∧ iv = .int .i64 k ∧ Lb.Byt wr bv (zs ++ (ps.take k).flatMap prB) ∧ Below w.heap.size w wr ∧ Hid (okL (ps.take k) = true)) (fun _ iv _ => ps.length - (intOf iv).toNat)
      case atStart => exact ⟨0, by omega, rfl, by simpa using hO2, hQ1, by show _ = _; rfl⟩
      case round =>
        obtain ⟨k, hk, rfl, hO, hQ, hok2⟩ := hrel
        have c0 := cell_below hQ hcs
        by_cases hkl : k < ps.length
        · obtain ⟨gi, oi, rfl, hc0, hc1⟩ := SlV.at hui k hkl
          have d0 := cell_below hQ hc0
          have d1 := cell_below hQ hc1
          have HS2 := hide (snocB prB Pair.zero hkl)
          have HOK2 := hide (fun h2 => okL_snoc hkl hok2.out h2)
          have HBAD2 := hide (fun h2 => HBAD.out k hkl h2)
          have HLi := hide (prsB_len hok2.out)
          generalize ps.getD k Pair.zero = pp at *
          obtain ⟨pv, pl⟩ := pp
          simp only at d0 d1
          have hlen4 : Hid ((zs ++ (ps.take k).flatMap prB).length ≤ 40000000) := by
            have g1 := hlen3.out
            have g2 := HLi.out
            show _ ≤ _
            rw [List.length_append]
            rw [List.length_take] at g2
            omega
          have hbx := bel1' wr (.cells #[.int .i64 pv, .int .i64 pl] 111)
          have HBX := hide (fun W (h : Below (wr.alloc (.cells #[.int .i64 pv, .int .i64 pl] 111)).heap.size (wr.alloc (.cells #[.int .i64 pv, .int .i64 pl] 111)) W) => box2' (box_b h))
          have hBx := hQ.trans (hbx.mono hQ.size)
          obtain ⟨f0, f1⟩ := HBX.out _ (Below.refl _ _)
          obtain ⟨ao4, nv4, cap4, hv4⟩ := bysnd _ _ _ hO
          by_cases v0 : pv < 0
          · have HE := hide (HBAD2.out (by simp [okP, isF]; omega))
            clear HBAD2 HOK2 HLi
            go_wp2_with fail
            go_ret2
            rw [HE.out]
            exact ⟨_, rfl, Lb.Byt.nil _, hBx⟩
          by_cases v1 : 4095 < pv
          · have HE := hide (HBAD2.out (by simp [okP, isF]; omega))
            clear HBAD2 HOK2 HLi
            go_wp2_with fail
            go_ret2
            rw [HE.out]
            exact ⟨_, rfl, Lb.Byt.nil _, hBx⟩
          by_cases l0 : pl < 0
          · have HE := hide (HBAD2.out (by simp [okP, isF]; omega))
            clear HBAD2 HOK2 HLi
            go_wp2_with fail
            go_ret2
            rw [HE.out]
            exact ⟨_, rfl, Lb.Byt.nil _, hBx⟩
          by_cases l1 : 4095 < pl
          · have HE := hide (HBAD2.out (by simp [okP, isF]; omega))
            clear HBAD2 HOK2 HLi
            go_wp2_with fail
            go_ret2
            rw [HE.out]
            exact ⟨_, rfl, Lb.Byt.nil _, hBx⟩
          have hpp : okP ⟨pv, pl⟩ = true := by simp [okP, isF]; omega
          have hok3 := hide (HOK2.out hpp)
          have HC := hide (refPutW _ _ pv (wr.alloc (.cells #[.int .i64 pv, .int .i64 pl] 111)).drew (hO.below hbx).drew (by have := hlen4.out; omega) (by omega))
          have HC2 := hide (fun v W h => refPutW v (zs ++ (ps.take k).flatMap prB ++ nb pv) pl W h (by have := hlen4.out; have := nb16 (x := pv) (by omega); rw [List.length_append]; omega) (by omega))
          subst hv4
          clear HBAD2 HOK2 HLi hpp hO
          go_wp2_with fail
          go_region_held3 (fun w' => w'.cell? ⟨wr.heap.size, 0, none⟩ = some (.int .i64 pv) ∧ w'.cell? ⟨wr.heap.size, 1, none⟩ = some (.int .i64 pl)) (first | with_reducible assumption | go_keep)
            (first
              | (go_at_call 39; refine HC.out.mono ?_; rintro e w5 ⟨v5, rfl, hO5, hR5⟩; have hR6 := ((Below.refl _ _).drew).trans hR5; have hS5 := HBX.out _ hR6; obtain ⟨a5, n5, k5, rfl⟩ := bysnd _ _ _ hO5; clear HC)
              | (go_at_call 39; refine (HC2.out _ _ hO5).mono ?_; rintro e w6 ⟨v6, rfl, hO6, hR7⟩; have hR8 := hR6.trans (hR7.mono hR6.size); have hS6 := HBX.out _ hR8; obtain ⟨a6, n6, k6, rfl⟩ := bysnd _ _ _ hO6))
          have hB6 := hBx.trans (hR8.mono hBx.size)
          have hO7 : Lb.Byt w6 (.slice a6 n6 k6) (zs ++ (ps.take (k + 1)).flatMap prB) := by
            rw [HS2.out]
            have e : zs ++ ((ps.take k).flatMap prB ++ prB ⟨pv, pl⟩) = zs ++ (ps.take k).flatMap prB ++ nb pv ++ nb pl := by simp [prB]
            rw [e]
            exact hO6
          clear HC2 hO5 hR5 hR6 hR7 hR8 hS5 hS6 hO6 HS2 c0 d0 d1 f0 f1 HBX hbx hBx hQ hok2 hlen4 hc0 hc1
          go_wp2_with fail
          go_roundw
          case rel => exact ⟨k + 1, by omega, by go_num, hO7, hB6, hok3⟩
          case measure => simp [intOf]; omega
        · obtain rfl : k = ps.length := by omega
          have hok3 : Hid ((l.take (j + 1)).all okL = true) := HOK.out (by have := hok2.out; rwa [List.take_length] at this)
          obtain ⟨ao4, nv4, cap4, rfl⟩ := bysnd _ _ _ hO
          have hO5 : Lb.Byt wr (.slice ao4 nv4 cap4) (ys ++ (l.take (j + 1)).flatMap lstB) := by
            rw [List.take_length] at hO
            have e1 : ys ++ (l.take (j + 1)).flatMap lstB = zs ++ ps.flatMap prB := by
              rw [HS.out, HZ.out]
              simp [lstB]
            rw [e1]
            exact hO
          clear hO HS HB HOK HBAD hok2 HZ hui
          go_wp2_with fail
          go_roundw
          case rel => exact ⟨j + 1, by omega, by go_num, hO5, hQ, hok3⟩
          case measure => simp [intOf]; omega
    · obtain rfl : j = l.length := by omega
      rw [List.take_length] at hO hok
      have HE : Hid (cerA l = (cerB l, 0)) := by
        show _ = _
        unfold cerA
        rw [if_neg HN16.out, if_pos hok.out]
      obtain ⟨ao4, nv4, cap4, rfl⟩ := bysnd _ _ _ hO
      go_wp2_with fail
      go_ret2
      rw [HE.out]
      refine ⟨_, rfl, ?_, hP⟩
      have e : cerB l = ys ++ l.flatMap lstB := by rw [HY.out]; rfl
      simp only [e]
      exact hO
end Go.Proofs.Ytbjnhicikkjadaa
