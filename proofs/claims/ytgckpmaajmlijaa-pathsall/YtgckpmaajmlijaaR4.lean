/- The document's Reach. -/
import Derived.Test.YtgckpmaajmlijaaR3
namespace Go.Proofs.Ytgckpmaajmlijaa
open Go.RowKit Ir Wy

/-- Block b's followers marked, i of them. -/
def inrF (nx : Nat → List Nat) (o : Nat → Bool) (b i : Nat) : Nat → Bool := fun x => o x || (o b && ((nx b).take i).contains x)
theorem inrF_zero (nx : Nat → List Nat) (o : Nat → Bool) (b : Nat) : inrF nx o b 0 = o := by funext x; simp [inrF]
theorem inrF_all (nx : Nat → List Nat) (o : Nat → Bool) (b : Nat) : inrF nx o b (nx b).length = stepR nx o b := by funext x; simp [inrF, stepR]
theorem inrF_no (nx : Nat → List Nat) (o : Nat → Bool) (b i : Nat) (h : o b = false) : inrF nx o b i = stepR nx o b := by funext x; simp [inrF, stepR, h]
theorem inrF_self (nx : Nat → List Nat) (o : Nat → Bool) (b i : Nat) : inrF nx o b i b = o b := by
  unfold inrF
  cases o b <;> simp
theorem inrF_step (nx : Nat → List Nat) (o : Nat → Bool) (b i : Nat) (h : o b = true) (hi : i < (nx b).length) : inrF nx o b (i + 1) = mk (inrF nx o b i) ((nx b).getD i 0) := by
  funext x
  unfold inrF mk
  rw [List.take_succ_eq_append_getElem hi, getD_get _ _ _ hi, h]
  simp only [Bool.true_and, List.contains_append, List.contains_cons, List.contains_nil, Bool.or_false, Bool.or_assoc]
theorem range_drop {n b : Nat} (h : b < n) : (List.range n).drop b = b :: (List.range n).drop (b + 1) := by
  rw [List.drop_eq_getElem_cons (by simpa using h), List.getElem_range]
set_option maxHeartbeats 4000000 in
set_option maxRecDepth 100000 in
theorem refReach_any (w : World) (lv : Value) (es : List En) (H0 : EndsV w lv es) (hin : EndsIn es) (h0 : 0 < es.length) (hn : es.length ≤ 1000) :
    Calls Try.prog 11 #[lv] w fun e w' => ∃ sb, e = .returned (.slice (some ⟨sb, 0, none⟩) es.length es.length) ∧ w.heap.size ≤ sb ∧ BoolsAt w' sb es.length (rnds (nxE es) es.length es.length (fun y => y == 0)) ∧ Below w.heap.size w w' := by
  obtain ⟨ao, c, rfl⟩ := H0.slice
  obtain ⟨i4, hi, hz, hs, hb⟩ := info_parts info4b
  have hH0 := hide H0
  have hh0 : (0 : Int) < (es.length : Int) := by omega
  have hH0n := hide h0
  clear H0 h0
  go_enter Try.func11, Try.ntmps11
  go_wp2_with (at_make; go_must (refine wpList_make_full w rfl (.tmp 9) (.tmp 9) 37 rfl w.heap.size 4 i4 (.bool false) 1 Try.underlying37 hi hz hs .i64 .i64 _ _ es.length rfl rfl rfl rfl (by rw [hb]; omega) (by unfold maxLen; omega) (Nat.le_refl _) ?_))
  intro w1 ho1 hg1
  have hS1 : BoolsAt w1 w.heap.size es.length (fun _ => false) := bools_made ho1 (fun i hi => by
    have : (madeCells #[Value.bool false] es.length).toList[i]? = some (Value.bool false) := by simp [madeCells, hi, Nat.mod_one]
    exact this)
  have hB1 : Hid (Below w.heap.size w w1) := hide ⟨hg1.os, hg1.tape, hg1.output, hg1.size, fun k hk => hg1.block k hk (by simp)⟩
  have hsb := hide (Nat.le_refl w.heap.size)
  have hS2 := hide ((hS1.set 0 hH0n.out).congr (g := fun y => y == 0) (fun x _ => by simp [mk]))
  have hB2 : Hid (Below w.heap.size w (w1.setCell ⟨w.heap.size, 0, none⟩ (.bool true))) := hide (hB1.out.grown (set_grown w1 _ 0 _) hB1.out.size (fun k e => by cases e; exact Nat.le_refl _))
  obtain ⟨s1, s2⟩ := hS1.cell 0 hH0n.out
  clear ho1 hg1 hS1 hB1 hi hz hs hb
  clear hsb
  go_wp2_with fail
  go_loopw [4, 5, 6, 7] (fun iv _ _ _ wr => ∃ (r : Nat) (o : Nat → Bool), r ≤ es.length ∧ iv = .int .i64 r ∧ Hid (BoolsAt wr w.heap.size es.length o) ∧ Hid (Below w.heap.size w wr) ∧ Hid (rnds (nxE es) es.length (es.length - r) o = rnds (nxE es) es.length es.length (fun y => y == 0))) (fun iv _ _ _ _ => es.length - (intOf iv).toNat)
  case atStart => exact ⟨0, fun y => y == 0, by omega, rfl, hS2, hB2, hide rfl⟩
  case round =>
    obtain ⟨r, o, hr, rfl, hS, hB, hR⟩ := hrel
    by_cases hrl : r < es.length
    · have hrl' : (r : Int) < (es.length : Int) := by omega
      rw [show es.length - r = (es.length - (r + 1)) + 1 by omega, rnds] at hR
      clear hS2 hB2
      go_wp2_with fail
      go_loopw [5, 6, 7] (fun bv _ _ wq => ∃ (b : Nat) (p : Nat → Bool), b ≤ es.length ∧ bv = .int .i64 b ∧ Hid (BoolsAt wq w.heap.size es.length p) ∧ Hid (Below w.heap.size w wq) ∧ Hid (((List.range es.length).drop b).foldl (stepR (nxE es)) p = rnd (nxE es) es.length o)) (fun bv _ _ _ => es.length - (intOf bv).toNat)
      case atStart => exact ⟨0, o, by omega, rfl, hS, hB, hide (by rw [List.drop_zero]; rfl)⟩
      case round =>
        rename World => wq
        obtain ⟨b, p, hb, rfl, hSq, hBq, hRq⟩ := hrel
        by_cases hbl : b < es.length
        · have hbl' : (b : Int) < (es.length : Int) := by omega
          obtain ⟨g, off, rfl, hc⟩ := (hH0.out.below hBq.out).end b hbl
          obtain ⟨c1, c2, c3, c4⟩ := hc
          have hnd := hide (hin.ints b)
          have hbh := hide hbl
          rw [range_drop hbl, List.foldl_cons] at hRq
          generalize hee : es.getD b En.zero = e at *
          go_wp2_with fail
          refine (next17 e wq).mono ?_
          rintro x w3 ⟨u, rfl, hu, hB3⟩
          have hS3 := hide (hSq.out.below hB3)
          have hBx := hide (hBq.out.trans (hB3.mono hBq.out.size))
          have HU : Hid (∀ wz : World, w3.grownBy wz (some w.heap.size) → IntsV wz u (fol e)) := by
            intro wz hg
            refine (hu.stays fun k hk => hg.block k (hu.lt k hk).2 (fun e1 => ?_)).v
            have := (hu.lt k hk).1
            have := hSq.out.lt
            cases e1
            omega
          obtain ⟨au, cu, rfl⟩ := hu.slice
          clear c1 c2 c3 c4 hu hB3
          go_wp2_with fail
          go_loopw [7] (fun iv wz => ∃ (i : Nat), i ≤ (fol e).length ∧ iv = .int .i64 i ∧ Hid (BoolsAt wz w.heap.size es.length (inrF (nxE es) p b i)) ∧ Hid (w3.grownBy wz (some w.heap.size))) (fun iv _ => (fol e).length - (intOf iv).toNat)
          case atStart => exact ⟨0, by omega, rfl, hide (by rw [inrF_zero]; exact hS3.out), hide ⟨rfl, rfl, rfl, Nat.le_refl _, fun _ _ _ => rfl⟩⟩
          case round =>
            rename World => wz
            obtain ⟨i, hi, rfl, hSz, hGz⟩ := hrel
            have hf2 := fol_len e
            obtain ⟨p1, p2⟩ := hSz.out.cell b hbh.out
            rw [inrF_self] at p1
            have hBz := hide (hBx.out.grown hGz.out hBx.out.size (fun k e1 => by cases e1; exact Nat.le_refl _))
            have hlen : Hid ((nxE es b).length = (fol e).length) := hide (by rw [← hnd.out, List.length_map])
            by_cases hpb : p b = true
            · rw [hpb] at p1
              by_cases hlt : i < (fol e).length
              · have hlt' : (i : Int) < ((fol e).length : Int) := by omega
                obtain ⟨gu, ou, rfl, hcu⟩ := (HU.out wz hGz.out).at i hlt
                have hjl : i < (nxE es b).length := by rw [hlen.out]; exact hlt
                have hx := nx_getD hin b i hjl
                have hst := hide (inrF_step (nxE es) p b i hpb hjl)
                rw [hee] at hx
                rw [hx.1] at hcu
                obtain ⟨_, hxn⟩ := hx
                generalize (nxE es b).getD i 0 = x at *
                obtain ⟨q1, q2⟩ := hSz.out.cell x hxn
                have hx' : (x : Int) < (es.length : Int) := by omega
                have hS4 := hide (hSz.out.set x hxn)
                have hG4 := hide (hGz.out.trans (set_grown wz w.heap.size x (.bool true)))
                clear hpb hjl hxn
                go_wp2_with fail
                go_roundw
                case rel => exact ⟨i + 1, by omega, by go_num, hide (by rw [hst.out]; exact hS4.out), hG4⟩
                case measure => simp [intOf]; omega
              · obtain rfl : i = (fol e).length := by omega
                have hS4 : Hid (BoolsAt wz w.heap.size es.length (stepR (nxE es) p b)) := hide (by rw [← inrF_all, hlen.out]; exact hSz.out)
                clear hpb
                go_wp2_with fail
                go_roundw
                case rel => exact ⟨b + 1, _, by omega, by go_num, hS4, hBz, hRq⟩
                case measure => simp [intOf]; omega
            · have hpf : p b = false := by simpa using hpb
              have hS4 : Hid (BoolsAt wz w.heap.size es.length (stepR (nxE es) p b)) := hide (by rw [← inrF_no (nxE es) p b i hpf]; exact hSz.out)
              rw [hpf] at p1
              clear hpb hpf
              by_cases hlt : i < (fol e).length
              · have hlt' : (i : Int) < ((fol e).length : Int) := by omega
                go_wp2_with fail
                go_roundw
                case rel => exact ⟨b + 1, _, by omega, by go_num, hS4, hBz, hRq⟩
                case measure => simp [intOf]; omega
              · obtain rfl : i = (fol e).length := by omega
                go_wp2_with fail
                go_roundw
                case rel => exact ⟨b + 1, _, by omega, by go_num, hS4, hBz, hRq⟩
                case measure => simp [intOf]; omega
        · obtain rfl : b = es.length := by omega
          have hd0 : (List.range es.length).drop es.length = [] := List.drop_eq_nil_of_le (by simp)
          rw [hd0, List.foldl_nil] at hRq
          clear hd0
          go_wp2_with fail
          go_roundw
          case rel => exact ⟨r + 1, p, by omega, by go_num, hSq, hBq, hide (by rw [hRq.out]; exact hR.out)⟩
          case measure => simp [intOf]; omega
    · obtain rfl : r = es.length := by omega
      rw [Nat.sub_self, rnds] at hR
      go_wp2_with fail
      go_ret
      exact ⟨_, rfl, Nat.le_refl _, by rw [← hR.out]; exact hS.out, hB.out⟩
end Go.Proofs.Ytgckpmaajmlijaa
