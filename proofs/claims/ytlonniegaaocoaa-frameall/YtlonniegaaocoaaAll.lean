/- frame.All and the document's All: the frames with which bytes begin, and how long they are together. -/
import Derived.Test.YtlonniegaaocoaaFrames
import Derived.Test.YtlonniegaaocoaaRefTake
namespace Go.Proofs.Ytlonniegaaocoaa
open Go.RowKit

theorem cutV_block {ao : Option Addr} {cap i j b off n c : Nat} {B : Nat} (hB : ∀ a, ao = some a → a.block < B) (e : cutV ao cap i j = .slice (some ⟨b, off, none⟩) n c) : b < B := by
  unfold cutV at e
  simp only [Value.slice.injEq] at e
  have e1 := e.1
  split at e1
  · exact hB _ e1
  · cases ao with
    | none => simp at e1
    | some a =>
      simp only [Option.map_some, Option.some.injEq] at e1
      have e2 := congrArg Addr.block e1
      have e3 : (a.add i).block = a.block := by unfold Addr.add; split <;> rfl
      rw [e3] at e2
      simp only at e2
      rw [← e2]
      exact hB a rfl

set_option maxHeartbeats 1000000 in
set_option maxRecDepth 100000 in
theorem all_any (v : Value) (xs : List Int) (w : World) (hv : Byt w v xs) (hx : xs.length ≤ 1000000000) :
    Calls Try.prog 14 #[v] w fun e w' => ∃ v', e = .returned (.tuple #[v', .int .i64 (Frm.an xs)]) ∧ Frames w' v' (Frm.al xs) ∧ Below w.heap.size w w' := by
  obtain ⟨i0, hi, hz0, hz1, hz2⟩ := info_parts info38
  have hbx : Frm.Bts xs := hv.bytes
  obtain ⟨ao, cap, rfl⟩ := hv.slice
  have hcap := hv.cap
  have hcl := hcap.2.1
  have HV := hide hv
  have HX := hide hbx
  clear hv hbx hcap
  go_enter Try.func14, Try.ntmps14
  go_wp2_with fail
  go_loopw [4, 5, 6, 7, 8, 9] (fun av tv _ _ _ _ wr => ∃ (k : Nat) (us : List (Int × Value)) (fs : List (Int × List Int)), k ≤ xs.length ∧ fs.length ≤ k ∧ tv = .int .i64 k ∧ Hid (Frm.al xs = fs ++ Frm.al (xs.drop k)) ∧ Hid (Frm.an xs = k + Frm.an (xs.drop k)) ∧
      wr.ownsRow w.heap.size 38 2 av fs.length (cellsF us) ∧ EachF w.heap.size wr us fs ∧ Below w.heap.size w wr) (fun _ tv _ _ _ _ _ => xs.length - (intOf tv).toNat)
  case atStart => exact ⟨0, [], [], by omega, by simp, rfl, rfl, by show _ = _; simp, World.ownsRow_nil _ _ _ _, trivial, Below.refl _ _⟩
  case round =>
    obtain ⟨k, us, fs, hk, hfk, rfl, ha, hn, hown, hE, hBr⟩ := hrel
    have hrun : ∀ W, (Instr.sliceAt 22 (.slice ao xs.length cap) (some (.int .i64 (k : Int))) none none).run Try.prog W = .ok (cutV ao cap k xs.length) W := fun W => run_l hk W
    have hcut := (HV.out.below hBr).cut (i := k) (j := xs.length) hk (Nat.le_refl _)
    rw [List.take_of_length_le (by simp)] at hcut
    generalize cutV ao cap k xs.length = u at *
    have hT := hide (takeS_any w.heap.size u (xs.drop k) wr hcut (by simp; omega))
    have HE := hide hE
    have HO := hide hown
    have hbd : Hid (Frm.Bts (xs.drop k)) := HX.out.drop k
    clear hcut hE hown
    go_wp2_with fail
    refine hT.out.mono ?_
    rintro e w2 ⟨v2, rfl, hs2, hB2⟩
    have HE2 := hide (HE.out.mono fun _ _ h => h.below hB2)
    have hO2 := owns_below HO.out hB2
    have HS2 := hide hs2
    have hBw2 := bel_of hBr hB2
    clear hT hs2 HE HO
    by_cases hc : (Frm.tk (xs.drop k)).2.2.2 = 0
    · have hp := Frm.tk_pos hc
      obtain ⟨_, _, _, hk0, hk1, _⟩ := Frm.tk_laid hbd.out hc
      have hal := hide (Frm.al_more hc)
      rw [hc]
      rw [List.length_drop] at hp
      have hdd : ∀ n, (xs.drop k).drop n = xs.drop (k + n) := fun n => by rw [List.drop_drop]
      have HA : Hid (Frm.al xs = (fs ++ [((Frm.tk (xs.drop k)).1, (Frm.tk (xs.drop k)).2.1)]) ++ Frm.al (xs.drop (k + (Frm.tk (xs.drop k)).2.2.1))) := by
        show _ = _
        rw [ha.out, hal.out.1, hdd, List.append_assoc, List.singleton_append]
      have HN : Hid (Frm.an xs = (k + (Frm.tk (xs.drop k)).2.2.1) + Frm.an (xs.drop (k + (Frm.tk (xs.drop k)).2.2.1))) := by
        show _ = _
        rw [hn.out, hal.out.2, hdd, Nat.add_assoc]
      have hs2 := HS2.out
      generalize Frm.tk (xs.drop k) = r at *
      obtain ⟨rk, rb, rn, rc⟩ := r
      simp only at hp hk0 hk1 HA HN hs2 ⊢
      have hone : v2.oneCell' = true := hs2.byt.oneCell
      have hBa := (Below.refl w2.heap.size w2).alloc (Nat.le_refl _) (.cells #[.int .u8 rk, v2] 38)
      have hO3 := hO2.alloc (.cells #[.int .u8 rk, v2] 38)
      have HE3 := hide (HE2.out.mono fun _ _ h => h.below hBa)
      have HS3 := hide (hs2.below hBa)
      have hcn : ∀ j u, [Value.int .u8 rk, v2][j]? = some u → (w2.alloc (.cells #[.int .u8 rk, v2] 38)).cell? ((⟨w2.heap.size, 0, none⟩ : Addr).add j) = some u := by
        intro j u hj
        rw [Addr.add_lit, Nat.zero_add, World.cell?_alloc_new]
        match j, hj with
        | 0, hj => simpa using hj
        | 1, hj => simpa using hj
      have h1n : ∀ u ∈ [Value.int .u8 rk, v2], u.oneCell' = true := by
        intro u hu
        simp only [List.mem_cons, List.not_mem_nil, or_false] at hu
        rcases hu with rfl | rfl
        · rfl
        · exact hone
      obtain ⟨a2, c2, rfl⟩ := hs2.byt.slice
      have hbw : w.heap.size ≤ (w2.alloc (.cells #[.int .u8 rk, .slice a2 rb.length c2] 38)).heap.size := by have := hBw2.size; simp; omega
      clear hs2 hO2 hone HE2 HS2 hal hc hdd ha hn hbd
      go_wp2_with (at_builtin; go_must (refine wpList_append_own _ rfl (.tmp 23) (.tmp 27) 35 rfl w.heap.size 38 i0 (.agg #[.int .u8 0, .slice none 0 0]) 2 32 Try.underlying35 hi hz0 hz1 hz2 rfl (by decide) _ _ _ rfl hO3 ⟨w2.heap.size, 0, none⟩ 1 1 [.int .u8 rk, .slice a2 rb.length c2] rfl rfl hcn h1n (by unfold maxLen; omega) (by omega) hbw ?_))
      intro v4 w4 hO4 hg4 _
      have hE4 := (HE3.out.mono fun _ _ h => h.grow hO3 hg4).snoc hk0 hk1 (HS3.out.grow hO3 hg4)
      have hB4 : Below w.heap.size w w4 := (hBw2.alloc hBw2.size _).grown hg4 hbw (fun k hk => (hO3.lt k hk).1)
      have hO4' : w4.ownsRow w.heap.size 38 2 v4 (fs ++ [(rk, rb)]).length (cellsF (us ++ [(rk, .slice a2 rb.length c2)])) := by
        rw [cellsF_snoc, List.length_append]
        exact hO4
      clear hcn h1n hO4 hg4 hO3 HE3 HS3 hBw2 hBr hB2
      go_wp2_with fail
      go_roundw
      case rel => exact ⟨k + rn, _, _, by omega, by simp; omega, by go_num, HA, HN, hO4', hE4, hB4⟩
      case measure => simp [intOf]; omega
    · have hal := Frm.al_end hc
      have hF := Frames.of_owns hO2 HE2.out
      have HA : Hid (Frm.al xs = fs) := by show _ = _; rw [ha.out, hal.1, List.append_nil]
      have HN : Hid (Frm.an xs = k) := by show _ = _; rw [hn.out, hal.2, Nat.add_zero]
      have hcb : ((Frm.tk (xs.drop k)).2.2.2 == 0) = false := by simpa using hc
      clear hc hal ha hn HE2 HS2 hO2
      generalize (Frm.tk (xs.drop k)).2.2.2 = rc at *
      go_wp2_with fail
      go_ret2
      rw [← HA.out] at hF
      exact ⟨_, by rw [HN.out]; rfl, hF, hBw2⟩

set_option maxHeartbeats 1000000 in
set_option maxRecDepth 100000 in
theorem refAll_some (v : Value) (xs : List Int) (w : World) (hv : Byt w v xs) (hx : xs.length ≤ 1000000000) (h0 : 0 < xs.length) :
    Calls Try.prog 15 #[v] w fun e w' => ∃ v', e = .returned (.tuple #[v', .int .i64 (Frm.an xs)]) ∧ Frames w' v' (Frm.al xs) ∧ Below w.heap.size w w' := by
  obtain ⟨i0, hi, hz0, hz1, hz2⟩ := info_parts info38
  have hbx : Frm.Bts xs := hv.bytes
  obtain ⟨ao, cap, rfl⟩ := hv.slice
  have hcap := hv.cap
  have hcl := hcap.2.1
  have hblk : ∀ a, ao = some a → a.block < w.heap.size := by
    intro a e
    obtain ⟨b', off', cap', e1, _, _, hlt⟩ := hv.head h0
    simp only [Value.slice.injEq] at e1
    have e2 := e.symm.trans e1.1
    simp only [Option.some.injEq] at e2
    rw [e2]
    exact hlt
  have HBK := hide hblk
  clear hblk
  have HV := hide hv
  have HX := hide hbx
  clear hv hbx hcap
  go_enter Try.func15, Try.ntmps15
  go_wp2_with fail
  go_loopw [4, 5, 6, 7, 8, 9] (fun av tv _ _ _ _ wr => ∃ (k : Nat) (us : List (Int × Value)) (fs : List (Int × List Int)), k ≤ xs.length ∧ fs.length ≤ k ∧ tv = .int .i64 k ∧ Hid (Frm.al xs = fs ++ Frm.al (xs.drop k)) ∧ Hid (Frm.an xs = k + Frm.an (xs.drop k)) ∧
      wr.ownsRow w.heap.size 38 2 av fs.length (cellsF us) ∧ EachF w.heap.size wr us fs ∧ Below w.heap.size w wr) (fun _ tv _ _ _ _ _ => xs.length - (intOf tv).toNat)
  case atStart => exact ⟨0, [], [], by omega, by simp, rfl, rfl, by show _ = _; simp, World.ownsRow_nil _ _ _ _, trivial, Below.refl _ _⟩
  case round =>
    obtain ⟨k, us, fs, hk, hfk, rfl, ha, hn, hown, hE, hBr⟩ := hrel
    have hrun : ∀ W, (Instr.sliceAt 22 (.slice ao xs.length cap) (some (.int .i64 (k : Int))) none none).run Try.prog W = .ok (cutV ao cap k xs.length) W := fun W => run_l hk W
    have hcut := (HV.out.below hBr).cut (i := k) (j := xs.length) hk (Nat.le_refl _)
    rw [List.take_of_length_le (by simp)] at hcut
    have hside : ∀ b off n c, cutV ao cap k xs.length = .slice (some ⟨b, off, none⟩) n c → b < w.heap.size := fun b off n c e => cutV_block HBK.out e
    generalize cutV ao cap k xs.length = u at *
    have hT := hide (refTakeS_any w.heap.size u (xs.drop k) wr hcut (by simp; omega) hside)
    have HE := hide hE
    have HO := hide hown
    have hbd : Hid (Frm.Bts (xs.drop k)) := HX.out.drop k
    clear hcut hE hown hside
    go_wp2_with fail
    refine hT.out.mono ?_
    rintro e w2 ⟨v2, rfl, hs2, hB2⟩
    have HE2 := hide (HE.out.mono fun _ _ h => h.below hB2)
    have hO2 := owns_below HO.out hB2
    have HS2 := hide hs2
    have hBw2 := bel_of hBr hB2
    clear hT hs2 HE HO
    by_cases hc : (Frm.tk (xs.drop k)).2.2.2 = 0
    · have hp := Frm.tk_pos hc
      obtain ⟨_, _, _, hk0, hk1, _⟩ := Frm.tk_laid hbd.out hc
      have hal := hide (Frm.al_more hc)
      rw [hc]
      rw [List.length_drop] at hp
      have hdd : ∀ n, (xs.drop k).drop n = xs.drop (k + n) := fun n => by rw [List.drop_drop]
      have HA : Hid (Frm.al xs = (fs ++ [((Frm.tk (xs.drop k)).1, (Frm.tk (xs.drop k)).2.1)]) ++ Frm.al (xs.drop (k + (Frm.tk (xs.drop k)).2.2.1))) := by
        show _ = _
        rw [ha.out, hal.out.1, hdd, List.append_assoc, List.singleton_append]
      have HN : Hid (Frm.an xs = (k + (Frm.tk (xs.drop k)).2.2.1) + Frm.an (xs.drop (k + (Frm.tk (xs.drop k)).2.2.1))) := by
        show _ = _
        rw [hn.out, hal.out.2, hdd, Nat.add_assoc]
      have hs2 := HS2.out
      generalize Frm.tk (xs.drop k) = r at *
      obtain ⟨rk, rb, rn, rc⟩ := r
      simp only at hp hk0 hk1 HA HN hs2 ⊢
      have hone : v2.oneCell' = true := hs2.byt.oneCell
      have hBa := (Below.refl w2.heap.size w2).alloc (Nat.le_refl _) (.cells #[.int .u8 rk, v2] 38)
      have hO3 := hO2.alloc (.cells #[.int .u8 rk, v2] 38)
      have HE3 := hide (HE2.out.mono fun _ _ h => h.below hBa)
      have HS3 := hide (hs2.below hBa)
      have hcn : ∀ j u, [Value.int .u8 rk, v2][j]? = some u → (w2.alloc (.cells #[.int .u8 rk, v2] 38)).cell? ((⟨w2.heap.size, 0, none⟩ : Addr).add j) = some u := by
        intro j u hj
        rw [Addr.add_lit, Nat.zero_add, World.cell?_alloc_new]
        match j, hj with
        | 0, hj => simpa using hj
        | 1, hj => simpa using hj
      have h1n : ∀ u ∈ [Value.int .u8 rk, v2], u.oneCell' = true := by
        intro u hu
        simp only [List.mem_cons, List.not_mem_nil, or_false] at hu
        rcases hu with rfl | rfl
        · rfl
        · exact hone
      obtain ⟨a2, c2, rfl⟩ := hs2.byt.slice
      have hbw : w.heap.size ≤ (w2.alloc (.cells #[.int .u8 rk, .slice a2 rb.length c2] 38)).heap.size := by have := hBw2.size; simp; omega
      clear hs2 hO2 hone HE2 HS2 hal hc hdd ha hn hbd
      go_wp2_with (at_builtin; go_must (refine wpList_append_own _ rfl (.tmp 23) (.tmp 27) 35 rfl w.heap.size 38 i0 (.agg #[.int .u8 0, .slice none 0 0]) 2 32 Try.underlying35 hi hz0 hz1 hz2 rfl (by decide) _ _ _ rfl hO3 ⟨w2.heap.size, 0, none⟩ 1 1 [.int .u8 rk, .slice a2 rb.length c2] rfl rfl hcn h1n (by unfold maxLen; omega) (by omega) hbw ?_))
      intro v4 w4 hO4 hg4 _
      have hE4 := (HE3.out.mono fun _ _ h => h.grow hO3 hg4).snoc hk0 hk1 (HS3.out.grow hO3 hg4)
      have hB4 : Below w.heap.size w w4 := (hBw2.alloc hBw2.size _).grown hg4 hbw (fun k hk => (hO3.lt k hk).1)
      have hO4' : w4.ownsRow w.heap.size 38 2 v4 (fs ++ [(rk, rb)]).length (cellsF (us ++ [(rk, .slice a2 rb.length c2)])) := by
        rw [cellsF_snoc, List.length_append]
        exact hO4
      clear hcn h1n hO4 hg4 hO3 HE3 HS3 hBw2 hBr hB2
      go_wp2_with fail
      go_roundw
      case rel => exact ⟨k + rn, _, _, by omega, by simp; omega, by go_num, HA, HN, hO4', hE4, hB4⟩
      case measure => simp [intOf]; omega
    · have hal := Frm.al_end hc
      have hF := Frames.of_owns hO2 HE2.out
      have HA : Hid (Frm.al xs = fs) := by show _ = _; rw [ha.out, hal.1, List.append_nil]
      have HN : Hid (Frm.an xs = k) := by show _ = _; rw [hn.out, hal.2, Nat.add_zero]
      have hcb : ((Frm.tk (xs.drop k)).2.2.2 == 0) = false := by simpa using hc
      clear hc hal ha hn HE2 HS2 hO2
      generalize (Frm.tk (xs.drop k)).2.2.2 = rc at *
      go_wp2_with fail
      go_ret2
      rw [← HA.out] at hF
      exact ⟨_, by rw [HN.out]; rfl, hF, hBw2⟩

set_option maxHeartbeats 1000000 in
set_option maxRecDepth 100000 in
theorem refAll_none (v : Value) (w : World) (hv : Byt w v []) :
    Calls Try.prog 15 #[v] w fun e w' => ∃ v', e = .returned (.tuple #[v', .int .i64 (Frm.an [])]) ∧ Frames w' v' (Frm.al []) ∧ Below w.heap.size w w' := by
  obtain ⟨ao, cap, rfl⟩ := hv.slice
  have hc : (Frm.tk []).2.2.2 ≠ 0 := by decide
  have hal := Frm.al_end hc
  rw [hal.1, hal.2]
  have hrun : ∀ W, (Instr.sliceAt 22 (.slice ao 0 cap) (some (.int .i64 0)) none none).run Try.prog W = .ok (cutV ao cap 0 0) W := fun W => run_l (i := 0) (n := 0) (by omega) W
  have hcut := hv.cut (i := 0) (j := 0) (by omega) (by simp)
  generalize cutV ao cap 0 0 = u at *
  have hT := hide (refTake_any u _ w hcut (by simp))
  have hF : Frames w (.slice none 0 0) [] := ⟨none, 0, rfl, fun h => by simp at h⟩
  clear hv hcut hal
  go_enter Try.func15, Try.ntmps15
  go_wp2_with fail
  go_loopw [4, 5, 6, 7, 8, 9] (fun av tv _ _ _ _ wr => av = .slice none 0 0 ∧ tv = .int .i64 0 ∧ wr = w) (fun _ _ _ _ _ _ _ => 0)
  case atStart => exact ⟨rfl, rfl, rfl⟩
  case round =>
    obtain ⟨rfl, rfl, rfl⟩ := hrel
    go_wp2_with fail
    refine hT.out.mono ?_
    rintro e w2 ⟨v2, rfl, hs2, hB2⟩
    have hF2 := hF.below hB2
    have hcb : ((Frm.tk []).2.2.2 == 0) = false := by simpa using hc
    have e0 : Frm.tk (List.take (0 - 0) (List.drop 0 ([] : List Int))) = Frm.tk [] := rfl
    rw [e0]
    clear hs2 hc
    generalize Frm.tk [] = r at *
    go_wp2_with fail
    go_ret2
    exact ⟨_, rfl, hF2, hB2⟩

theorem refAll_any (v : Value) (xs : List Int) (w : World) (hv : Byt w v xs) (hx : xs.length ≤ 1000000000) :
    Calls Try.prog 15 #[v] w fun e w' => ∃ v', e = .returned (.tuple #[v', .int .i64 (Frm.an xs)]) ∧ Frames w' v' (Frm.al xs) ∧ Below w.heap.size w w' := by
  by_cases h0 : 0 < xs.length
  · exact refAll_some v xs w hv hx h0
  · obtain rfl : xs = [] := List.eq_nil_of_length_eq_zero (by omega)
    exact refAll_none v w hv
end Go.Proofs.Ytlonniegaaocoaa
