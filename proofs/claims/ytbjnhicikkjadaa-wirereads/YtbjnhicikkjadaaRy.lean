/- The document's Bytes: blocks behind bytes. -/
import Derived.Test.YtbjnhicikkjadaaRb
namespace Go.Proofs.Ytbjnhicikkjadaa
open Go.RowKit Ir Wire

theorem box_b {w W : World} {cs : Array Value} {t : TypeId} (h : Below (w.alloc (.cells cs t)).heap.size (w.alloc (.cells cs t)) W) : W.heap[w.heap.size]? = some (Obj.cells cs t (0, 0)) :=
  (h.block _ (by simp)).trans (heap_alloc_new w (.cells cs t))
theorem box7 {w : World} {g : Nat} {a0 a1 a2 a3 a4 a5 a6 : Value} {t : TypeId} (h : w.heap[g]? = some (Obj.cells #[a0, a1, a2, a3, a4, a5, a6] t (0, 0))) : w.cell? ⟨g, 0, none⟩ = some a0 ∧ w.cell? ⟨g, 1, none⟩ = some a1 ∧ w.cell? ⟨g, 2, none⟩ = some a2 ∧ w.cell? ⟨g, 3, none⟩ = some a3 ∧ w.cell? ⟨g, 4, none⟩ = some a4 ∧ w.cell? ⟨g, 5, none⟩ = some a5 ∧ w.cell? ⟨g, 6, none⟩ = some a6 := by
  refine ⟨?_, ?_, ?_, ?_, ?_, ?_, ?_⟩ <;> (rw [cell_of_row _ _ _ _ _ _ h]; rfl)
theorem box4' {w : World} {g : Nat} {a0 a1 a2 a3 : Value} {t : TypeId} (h : w.heap[g]? = some (Obj.cells #[a0, a1, a2, a3] t (0, 0))) : w.cell? ⟨g, 0, none⟩ = some a0 ∧ w.cell? ⟨g, 1, none⟩ = some a1 ∧ w.cell? ⟨g, 2, none⟩ = some a2 ∧ w.cell? ⟨g, 3, none⟩ = some a3 := by
  refine ⟨?_, ?_, ?_, ?_⟩ <;> (rw [cell_of_row _ _ _ _ _ _ h]; rfl)
theorem refPutI (v : Value) (xs : List Int) (x : Int) (w : World) (hv : Lb.Byt w v xs) (hx : xs.length ≤ 1000000000) (h : 0 ≤ x ∧ x < 4096) :
    Calls Try.prog 39 #[v, .int .u64 x] w fun e w' => ∃ v', e = .returned v' ∧ Lb.Byt w' v' (xs ++ nb x) ∧ Below w.heap.size w w' := by
  obtain ⟨m, rfl, hf, hm, _⟩ := fits_of h
  rw [hm]
  exact Lb.refPut_any v xs m w hv hx hf
theorem fBs_len {i : Ins} (hw : WfI i) (j : Nat) : (((chars (nm8 i.k)).take j).flatMap (fB i)).length ≤ 100 := by
  have h1 := insB_len hw
  rw [insB_fields hw.k, List.length_append, ← List.take_append_drop j (chars (nm8 i.k)), List.flatMap_append, List.length_append] at h1
  omega
set_option maxHeartbeats 1000000 in
set_option maxRecDepth 100000 in
theorem bytes_any (w : World) (v u : Value) (xs : List Int) (bs : List Blk) (most : Nat) (ho : Lb.Byt w v xs) (hu : BlksV w u bs) (hw : ∀ b ∈ bs, WfB most b) (hm : most ≤ 400) (hbs : bs.length ≤ 16) (hl : xs.length ≤ 1000) :
    Calls Try.prog 38 #[v, u] w fun e w' => ∃ v', e = .returned v' ∧ Lb.Byt w' v' (xs ++ allB bs) ∧ Below w.heap.size w w' := by
  have HC := hide (Lb.refPut_any v xs bs.length w ho (by omega) (by unfold Leb.Fits; omega))
  obtain ⟨ao, nv, cap, rfl⟩ := bysnd _ _ _ ho
  obtain ⟨ub, cb, rfl⟩ := hu.slice
  have HW := hide hw
  obtain ⟨ys, hys⟩ : ∃ ys, ys = xs ++ Leb.enc bs.length := ⟨_, rfl⟩
  have hlen1 : Hid (ys.length ≤ 1010) := by
    have := Leb.enc_len10 (n := bs.length) (by omega)
    show _ ≤ _
    rw [hys, List.length_append]; omega
  rw [← hys] at HC
  have HY := hide hys
  clear hw hl ho hys
  go_enter Try.func38, Try.ntmps38
  go_wp2_with fail
  refine HC.out.mono ?_
  rintro e w1 ⟨v1, rfl, hO1, hB1⟩
  obtain ⟨ao1, nv1, cap1, rfl⟩ := bysnd _ _ _ hO1
  clear HC
  go_wp2_with fail
  go_loopw [0, 5] (fun bv iv wr => ∃ j : Nat, j ≤ bs.length ∧ iv = .int .i64 j ∧ Lb.Byt wr bv (ys ++ (bs.take j).flatMap blkB) ∧ Below w.heap.size w wr) (fun _ iv _ => bs.length - (intOf iv).toNat)
  case atStart => exact ⟨0, by omega, rfl, by simpa using hO1, hB1⟩
  case round =>
    rename World => WR
    obtain ⟨j, hj, rfl, hO, hB⟩ := hrel
    by_cases hlt : j < bs.length
    · obtain ⟨gb, off, rfl, ui, hcs, hui⟩ := SlV.at hu j hlt
      obtain ⟨c0, c1, c2, c3, c4⟩ := hcs.below hB
      have HS := hide (snocB blkB Blk.zero hlt)
      have HB := hide (HW.out _ (memD Blk.zero hlt))
      have HLa := hide (blksB_len hm (l := bs.take j) (fun b hb => HW.out b (List.mem_of_mem_take hb)))
      generalize bs.getD j Blk.zero = b at *
      obtain ⟨is, e⟩ := b
      simp only at c1 c2 c3 c4 hui hcs
      obtain ⟨ai, ci, rfl⟩ := hui.slice
      have hil : is.length ≤ 400 := by have := HB.out.1; simp only at this; omega
      have hlen2 : Hid ((ys ++ (bs.take j).flatMap blkB).length ≤ 700000) := by
        have g1 := hlen1.out
        have g2 := HLa.out
        show _ ≤ _
        rw [List.length_append]
        rw [List.length_take] at g2
        omega
      have HC := hide (Lb.refPut_any _ _ is.length WR hO (by have := hlen2.out; omega) (by unfold Leb.Fits; omega))
      obtain ⟨ao2, nv2, cap2, rfl⟩ := bysnd _ _ _ hO
      clear HLa hO
      go_wp2_with fail
      refine HC.out.mono ?_
      rintro x w2 ⟨v2, rfl, hO2, hR⟩
      have hB2 := hB.trans (hR.mono hB.size)
      obtain ⟨zs, hzs⟩ : ∃ zs, zs = ys ++ (bs.take j).flatMap blkB ++ Leb.enc is.length := ⟨_, rfl⟩
      have hlen3 : Hid (zs.length ≤ 700010) := by
        have g1 := hlen2.out
        have g2 := Leb.enc_len10 (n := is.length) (by omega)
        show _ ≤ _
        rw [hzs, List.length_append]
        omega
      rw [← hzs] at hO2
      have HZ := hide hzs
      clear HC hR c0 c1 c2 c3 c4 hzs hlen2
      obtain ⟨ao3, nv3, cap3, rfl⟩ := bysnd _ _ _ hO2
      go_wp2_with fail
      go_loopw [0, 6] (fun bv iv wr => ∃ k : Nat, k ≤ is.length ∧ iv = .int .i64 k ∧ Lb.Byt wr bv (zs ++ (is.take k).flatMap insB) ∧ Below w.heap.size w wr) (fun _ iv _ => is.length - (intOf iv).toNat)
      case atStart => exact ⟨0, by omega, rfl, by simpa using hO2, hB2⟩
      case round =>
        obtain ⟨k, hk, rfl, hO, hB⟩ := hrel
        rename World => WQ
        obtain ⟨c0, c1, c2, c3, c4⟩ := hcs.below hB
        by_cases hkl : k < is.length
        · obtain ⟨gi, oi, rfl, ua, hci, hua⟩ := SlV.at hui k hkl
          obtain ⟨d0, d1, d2, d3, d4, d5, d6⟩ := hci.below hB
          have HS2 := hide (snocB insB Ins.zero hkl)
          have HI := hide (HB.out.2.1 _ (memD Ins.zero hkl))
          have HLi := hide (inssB_len (l := is.take k) (fun i hi => HB.out.2.1 i (List.mem_of_mem_take hi)))
          generalize is.getD k Ins.zero = i at *
          obtain ⟨aa, ca, rfl⟩ := hua.slice
          have hik := HI.out.k
          have hk0 := hik.1
          have hk1 := hik.2
          have hlen4 : Hid ((zs ++ (is.take k).flatMap insB).length ≤ 800000) := by
            have g1 := hlen3.out
            have g2 := HLi.out
            show _ ≤ _
            rw [List.length_append]
            rw [List.length_take] at g2
            omega
          have hbx := bel1' WQ (.cells #[.int .u8 i.k, .int .u8 i.op, .int .i64 i.d, .int .i64 i.a, .int .i64 i.b, .int .i64 i.n, .slice aa i.args.length ca] 86)
          have HX := hide (fun W (h : Below (WQ.alloc (.cells #[.int .u8 i.k, .int .u8 i.op, .int .i64 i.d, .int .i64 i.a, .int .i64 i.b, .int .i64 i.n, .slice aa i.args.length ca] 86)).heap.size (WQ.alloc (.cells #[.int .u8 i.k, .int .u8 i.op, .int .i64 i.d, .int .i64 i.a, .int .i64 i.b, .int .i64 i.n, .slice aa i.args.length ca] 86)) W) => box7 (box_b h))
          have HC := hide (refPutI _ _ i.k (WQ.alloc (.cells #[.int .u8 i.k, .int .u8 i.op, .int .i64 i.d, .int .i64 i.a, .int .i64 i.b, .int .i64 i.n, .slice aa i.args.length ca] 86)) (hO.below hbx) (by have := hlen4.out; omega) (by omega))
          have hBx := hB.trans (hbx.mono hB.size)
          obtain ⟨ao4, nv4, cap4, rfl⟩ := bysnd _ _ _ hO
          clear HLi hO hik hbx
          go_wp2_with fail
          refine HC.out.mono ?_
          rintro x w3 ⟨v3, rfl, hO3, hR⟩
          have hN := hide (fun W => names8_any i.k HI.out.k.1 HI.out.k.2 W)
          obtain ⟨f0, f1, f2, f3, f4, f5, f6⟩ := HX.out _ hR
          obtain ⟨ao5, nv5, cap5, rfl⟩ := bysnd _ _ _ hO3
          clear HC
          go_wp2_with fail
          refine (hN.out _).mono ?_
          rintro x w4 ⟨rfl, hR2⟩
          have hR3 := hR.trans (hR2.mono hR.size)
          have hO4 := hO3.below hR2
          have hsz := nm8_small i.k
          have HNM := hide (chars_len (nm8 i.k))
          have HF := hide (insB_fields HI.out.k)
          have HCA := hide (fun c hc => fun v xs w h hu hl => rput_any w v (.slice aa i.args.length ca) xs i c h hu HI.out hc hl)
          obtain ⟨st, hst⟩ : ∃ st, st = nm8 i.k := ⟨_, rfl⟩
          rw [← hst] at hsz HNM HF HCA
          rw [← hst]
          have HSL := hide (fun j => fBs_len HI.out j)
          rw [← hst] at HSL
          clear hN hR hR2 hO3 f0 f1 f2 f3 f4 f5 f6 hst
          obtain ⟨ts, hts⟩ : ∃ ts, ts = zs ++ (is.take k).flatMap insB ++ nb i.k := ⟨_, rfl⟩
          have hlen5 : Hid (ts.length ≤ 800010) := by
            have g1 := hlen4.out
            have g2 := nb16 (x := i.k) (by have := HI.out.k; omega)
            show _ ≤ _
            rw [hts, List.length_append]
            omega
          rw [← hts] at hO4
          have HT := hide hts
          clear hts hlen4
          go_wp2_with fail
          go_loopw [0, 9] (fun bv iv wr => ∃ q : Nat, q ≤ st.size ∧ iv = .int .i64 q ∧ Lb.Byt wr bv (ts ++ ((chars st).take q).flatMap (fB i)) ∧ Below (WQ.alloc (.cells #[.int .u8 i.k, .int .u8 i.op, .int .i64 i.d, .int .i64 i.a, .int .i64 i.b, .int .i64 i.n, .slice aa i.args.length ca] 86)).heap.size (WQ.alloc (.cells #[.int .u8 i.k, .int .u8 i.op, .int .i64 i.d, .int .i64 i.a, .int .i64 i.b, .int .i64 i.n, .slice aa i.args.length ca] 86)) wr) (fun _ iv _ => st.size - (intOf iv).toNat)
          case atStart => exact ⟨0, by omega, rfl, by simpa using hO4, hR3⟩
          case round =>
            obtain ⟨q, hq, rfl, hO, hR⟩ := hrel
            obtain ⟨f0, f1, f2, f3, f4, f5, f6⟩ := HX.out _ hR
            obtain ⟨ao6, nv6, cap6, rfl⟩ := bysnd _ _ _ hO
            by_cases hql : q < st.size
            · have hq0 : (0 : Int) ≤ (q : Int) := by omega
              have hq1 : (q : Int) < (st.size : Int) := by omega
              have hBw := hBx.trans (hR.mono hBx.size)
              have HSN := hide (snocB (fB i) 0 (l := chars st) (k := q) (by rw [chars_len]; exact hql))
              have hat := chars_at hql
              have hmem : (chars st).getD q 0 ∈ chars st := memD 0 (by rw [chars_len]; exact hql)
              have HC := hide (HCA.out _ hmem _ _ wr.drew hO.drew ((hua.below hBw).drew) (by have := HSL.out q; have := hlen5.out; rw [List.length_append]; omega))
              rw [hat] at HC HSN
              clear hat hmem
              go_wp2_with fail
              go_region_held3 (fun w' => w'.cell? ⟨WQ.heap.size, 0, none⟩ = some (.int .u8 i.k) ∧ w'.cell? ⟨WQ.heap.size, 1, none⟩ = some (.int .u8 i.op) ∧ w'.cell? ⟨WQ.heap.size, 2, none⟩ = some (.int .i64 i.d) ∧ w'.cell? ⟨WQ.heap.size, 3, none⟩ = some (.int .i64 i.a) ∧ w'.cell? ⟨WQ.heap.size, 4, none⟩ = some (.int .i64 i.b) ∧ w'.cell? ⟨WQ.heap.size, 5, none⟩ = some (.int .i64 i.n) ∧ w'.cell? ⟨WQ.heap.size, 6, none⟩ = some (.slice aa i.args.length ca)) (first | assumption | go_keep)
                (first
                  | (go_at_call 64; refine HC.out.mono ?_; rintro x w5 ⟨v5, rfl, hO5, hR5⟩; have hR6 := (hR.trans ((Below.refl _ _).drew)).trans (hR5.mono (by have := hR.size; simpa using this)); have hS5 := HX.out _ hR6; obtain ⟨ao7, nv7, cap7, rfl⟩ := bysnd _ _ _ hO5))
              have hO6 : Lb.Byt w5 (.slice ao7 nv7 cap7) (ts ++ ((chars st).take (q + 1)).flatMap (fB i)) := by
                rw [HSN.out, ← List.append_assoc]
                exact hO5
              clear HC HSN hO5 hR5 hS5 hR hO hBw f0 f1 f2 f3 f4 f5 f6
              go_wp2_with fail
              go_roundw
              case rel => exact ⟨q + 1, by omega, by go_num, hO6, hR6⟩
              case measure => simp [intOf]; omega
            · obtain rfl : q = st.size := by omega
              rw [← HNM.out, List.take_length] at hO
              have hBw := hBx.trans (hR.mono hBx.size)
              have hO6 : Lb.Byt wr (.slice ao6 nv6 cap6) (zs ++ (is.take (k + 1)).flatMap insB) := by
                rw [HS2.out, HF.out, ← List.append_assoc, ← List.append_assoc, ← HT.out]
                exact hO
              clear hO hR f0 f1 f2 f3 f4 f5 f6 HX HCA HSL HF HT hBx hO4 hR3
              go_wp2_with fail
              go_roundw
              case rel => exact ⟨k + 1, by omega, by go_num, hO6, hBw⟩
              case measure => simp [intOf]; omega
        · obtain rfl : k = is.length := by omega
          rw [List.take_length] at hO
          have hlen4 : Hid ((zs ++ is.flatMap insB).length ≤ 800000) := by
            have g1 := hlen3.out
            have g2 := inssB_len (l := is) HB.out.2.1
            show _ ≤ _
            rw [List.length_append]
            omega
          have hE := HB.out.2.2
          obtain ⟨ke, a, to, el⟩ := e
          obtain ⟨hk, h1, h2, h3⟩ := hE
          simp only at hk h1 h2 h3 c1 c2 c3 c4 HS hcs
          have hc : ke = 1 ∨ ke = 2 ∨ ke = 3 := by omega
          clear hk
          rcases hc with rfl | rfl | rfl <;> simp at h1 h2 h3
          · subst h1 h3
            have hbx := bel1' WQ (.cells #[.int .u8 1, .int .i64 0, .int .i64 to, .int .i64 0] 79)
            have HX := hide (fun W (h : Below (WQ.alloc (.cells #[.int .u8 1, .int .i64 0, .int .i64 to, .int .i64 0] 79)).heap.size (WQ.alloc (.cells #[.int .u8 1, .int .i64 0, .int .i64 to, .int .i64 0] 79)) W) => box4' (box_b h))
            have HC := hide (refPutI _ _ 1 (WQ.alloc (.cells #[.int .u8 1, .int .i64 0, .int .i64 to, .int .i64 0] 79)) (hO.below hbx) (by have := hlen4.out; omega) (by omega))
            have HT := hide (fun W => takes_any (⟨1, 0, to, 0⟩ : En) W)
            unfold endV at HT
            have hBx := hB.trans (hbx.mono hB.size)
            obtain ⟨ao4, nv4, cap4, rfl⟩ := bysnd _ _ _ hO
            clear hO hbx
            go_wp2_with fail
            refine HC.out.mono ?_
            rintro x q1 ⟨y1, rfl, hO1, hR⟩
            obtain ⟨f0, f1, f2, f3⟩ := HX.out _ hR
            have hlen6 : Hid ((zs ++ is.flatMap insB ++ nb 1).length ≤ 800010) := by
              have g1 := hlen4.out
              have g2 := nb16 (x := 1) (by omega)
              show _ ≤ _
              rw [List.length_append]; omega
            obtain ⟨ao5, nv5, cap5, rfl⟩ := bysnd _ _ _ hO1
            clear HC
            go_wp2_with fail
            refine (HT.out _).mono ?_
            rintro x q2 ⟨rfl, hR2⟩
            have tk : takes 1 = false := by decide
            simp only [tk]
            have hR3 := hR.trans (hR2.mono hR.size)
            have hO2 := hO1.below hR2
            clear hR hR2 hO1 f0 f1 f2 f3 HT tk
            obtain ⟨f0, f1, f2, f3⟩ := HX.out _ hR3
            have HC := hide (refPutI _ _ to q2 hO2 (by have := hlen6.out; omega) h2)
            have hlen8 : Hid ((zs ++ is.flatMap insB ++ nb 1 ++ nb to).length ≤ 800020) := by
              have g1 := hlen6.out
              have g2 := nb16 (x := to) h2
              show _ ≤ _
              rw [List.length_append]; omega
            go_wp2_with fail
            refine HC.out.mono ?_
            rintro x q2' ⟨y6, rfl, hO6, hR6⟩
            obtain ⟨ao6, nv6, cap6, rfl⟩ := bysnd _ _ _ hO6
            have hR7 := hR3.trans (hR6.mono hR3.size)
            clear f0 f1 f2 f3 hO2 hR3 HC hR6
            obtain ⟨f0, f1, f2, f3⟩ := HX.out _ hR7
            have hBe := hBx.trans (hR7.mono hBx.size)
            have hOe : Lb.Byt q2' (.slice ao6 nv6 cap6) (ys ++ (bs.take (j + 1)).flatMap blkB) := by
              have e1 : ys ++ (bs.take (j + 1)).flatMap blkB = zs ++ is.flatMap insB ++ nb 1 ++ nb to := by
                rw [HS.out, HZ.out]
                simp [blkB, endB]
              rw [e1]
              exact hO6
            clear hO6 hR7 hB hBx
            go_wp2_with fail
            go_roundw
            case rel => exact ⟨j + 1, by omega, by go_num, hOe, hBe⟩
            case measure => simp [intOf]; omega
          · have hbx := bel1' WQ (.cells #[.int .u8 2, .int .i64 a, .int .i64 to, .int .i64 el] 79)
            have HX := hide (fun W (h : Below (WQ.alloc (.cells #[.int .u8 2, .int .i64 a, .int .i64 to, .int .i64 el] 79)).heap.size (WQ.alloc (.cells #[.int .u8 2, .int .i64 a, .int .i64 to, .int .i64 el] 79)) W) => box4' (box_b h))
            have HC := hide (refPutI _ _ 2 (WQ.alloc (.cells #[.int .u8 2, .int .i64 a, .int .i64 to, .int .i64 el] 79)) (hO.below hbx) (by have := hlen4.out; omega) (by omega))
            have HT := hide (fun W => takes_any (⟨2, a, to, el⟩ : En) W)
            unfold endV at HT
            have hBx := hB.trans (hbx.mono hB.size)
            obtain ⟨ao4, nv4, cap4, rfl⟩ := bysnd _ _ _ hO
            clear hO hbx
            go_wp2_with fail
            refine HC.out.mono ?_
            rintro x q1 ⟨y1, rfl, hO1, hR⟩
            obtain ⟨f0, f1, f2, f3⟩ := HX.out _ hR
            have hlen6 : Hid ((zs ++ is.flatMap insB ++ nb 2).length ≤ 800010) := by
              have g1 := hlen4.out
              have g2 := nb16 (x := 2) (by omega)
              show _ ≤ _
              rw [List.length_append]; omega
            obtain ⟨ao5, nv5, cap5, rfl⟩ := bysnd _ _ _ hO1
            clear HC
            go_wp2_with fail
            refine (HT.out _).mono ?_
            rintro x q2 ⟨rfl, hR2⟩
            have tk : takes 2 = true := by decide
            simp only [tk]
            have hR3 := hR.trans (hR2.mono hR.size)
            have hO2 := hO1.below hR2
            clear hR hR2 hO1 f0 f1 f2 f3 HT tk
            obtain ⟨f0, f1, f2, f3⟩ := HX.out _ hR3
            have HC := hide (refPutI _ _ a q2 hO2 (by have := hlen6.out; omega) h1)
            have hlen8 : Hid ((zs ++ is.flatMap insB ++ nb 2 ++ nb a).length ≤ 800020) := by
              have g1 := hlen6.out
              have g2 := nb16 (x := a) h1
              show _ ≤ _
              rw [List.length_append]; omega
            go_wp2_with fail
            refine HC.out.mono ?_
            rintro x q2' ⟨y6, rfl, hO6, hR6⟩
            obtain ⟨ao6, nv6, cap6, rfl⟩ := bysnd _ _ _ hO6
            have hR7 := hR3.trans (hR6.mono hR3.size)
            clear f0 f1 f2 f3 hO2 hR3 HC hR6
            obtain ⟨f0, f1, f2, f3⟩ := HX.out _ hR7
            have HC := hide (refPutI _ _ to q2' hO6 (by have := hlen8.out; omega) h2)
            have hlen10 : Hid ((zs ++ is.flatMap insB ++ nb 2 ++ nb a ++ nb to).length ≤ 800030) := by
              have g1 := hlen8.out
              have g2 := nb16 (x := to) h2
              show _ ≤ _
              rw [List.length_append]; omega
            go_wp2_with fail
            refine HC.out.mono ?_
            rintro x q2'' ⟨y8, rfl, hO8, hR8⟩
            obtain ⟨ao8, nv8, cap8, rfl⟩ := bysnd _ _ _ hO8
            have hR9 := hR7.trans (hR8.mono hR7.size)
            clear f0 f1 f2 f3 hO6 hR7 HC hR8
            obtain ⟨f0, f1, f2, f3⟩ := HX.out _ hR9
            have HC := hide (refPutI _ _ el q2'' hO8 (by have := hlen10.out; omega) h3)
            have hlen12 : Hid ((zs ++ is.flatMap insB ++ nb 2 ++ nb a ++ nb to ++ nb el).length ≤ 800040) := by
              have g1 := hlen10.out
              have g2 := nb16 (x := el) h3
              show _ ≤ _
              rw [List.length_append]; omega
            go_wp2_with fail
            refine HC.out.mono ?_
            rintro x q2''' ⟨y10, rfl, hO10, hR10⟩
            obtain ⟨ao10, nv10, cap10, rfl⟩ := bysnd _ _ _ hO10
            have hR11 := hR9.trans (hR10.mono hR9.size)
            clear f0 f1 f2 f3 hO8 hR9 HC hR10
            obtain ⟨f0, f1, f2, f3⟩ := HX.out _ hR11
            have hBe := hBx.trans (hR11.mono hBx.size)
            have hOe : Lb.Byt q2''' (.slice ao10 nv10 cap10) (ys ++ (bs.take (j + 1)).flatMap blkB) := by
              have e1 : ys ++ (bs.take (j + 1)).flatMap blkB = zs ++ is.flatMap insB ++ nb 2 ++ nb a ++ nb to ++ nb el := by
                rw [HS.out, HZ.out]
                simp [blkB, endB]
              rw [e1]
              exact hO10
            clear hO10 hR11 hB hBx
            go_wp2_with fail
            go_roundw
            case rel => exact ⟨j + 1, by omega, by go_num, hOe, hBe⟩
            case measure => simp [intOf]; omega
          · subst h2 h3
            have hbx := bel1' WQ (.cells #[.int .u8 3, .int .i64 a, .int .i64 0, .int .i64 0] 79)
            have HX := hide (fun W (h : Below (WQ.alloc (.cells #[.int .u8 3, .int .i64 a, .int .i64 0, .int .i64 0] 79)).heap.size (WQ.alloc (.cells #[.int .u8 3, .int .i64 a, .int .i64 0, .int .i64 0] 79)) W) => box4' (box_b h))
            have HC := hide (refPutI _ _ 3 (WQ.alloc (.cells #[.int .u8 3, .int .i64 a, .int .i64 0, .int .i64 0] 79)) (hO.below hbx) (by have := hlen4.out; omega) (by omega))
            have HT := hide (fun W => takes_any (⟨3, a, 0, 0⟩ : En) W)
            unfold endV at HT
            have hBx := hB.trans (hbx.mono hB.size)
            obtain ⟨ao4, nv4, cap4, rfl⟩ := bysnd _ _ _ hO
            clear hO hbx
            go_wp2_with fail
            refine HC.out.mono ?_
            rintro x q1 ⟨y1, rfl, hO1, hR⟩
            obtain ⟨f0, f1, f2, f3⟩ := HX.out _ hR
            have hlen6 : Hid ((zs ++ is.flatMap insB ++ nb 3).length ≤ 800010) := by
              have g1 := hlen4.out
              have g2 := nb16 (x := 3) (by omega)
              show _ ≤ _
              rw [List.length_append]; omega
            obtain ⟨ao5, nv5, cap5, rfl⟩ := bysnd _ _ _ hO1
            clear HC
            go_wp2_with fail
            refine (HT.out _).mono ?_
            rintro x q2 ⟨rfl, hR2⟩
            have tk : takes 3 = true := by decide
            simp only [tk]
            have hR3 := hR.trans (hR2.mono hR.size)
            have hO2 := hO1.below hR2
            clear hR hR2 hO1 f0 f1 f2 f3 HT tk
            obtain ⟨f0, f1, f2, f3⟩ := HX.out _ hR3
            have HC := hide (refPutI _ _ a q2 hO2 (by have := hlen6.out; omega) h1)
            have hlen8 : Hid ((zs ++ is.flatMap insB ++ nb 3 ++ nb a).length ≤ 800020) := by
              have g1 := hlen6.out
              have g2 := nb16 (x := a) h1
              show _ ≤ _
              rw [List.length_append]; omega
            go_wp2_with fail
            refine HC.out.mono ?_
            rintro x q2' ⟨y6, rfl, hO6, hR6⟩
            obtain ⟨ao6, nv6, cap6, rfl⟩ := bysnd _ _ _ hO6
            have hR7 := hR3.trans (hR6.mono hR3.size)
            clear f0 f1 f2 f3 hO2 hR3 HC hR6
            obtain ⟨f0, f1, f2, f3⟩ := HX.out _ hR7
            have hBe := hBx.trans (hR7.mono hBx.size)
            have hOe : Lb.Byt q2' (.slice ao6 nv6 cap6) (ys ++ (bs.take (j + 1)).flatMap blkB) := by
              have e1 : ys ++ (bs.take (j + 1)).flatMap blkB = zs ++ is.flatMap insB ++ nb 3 ++ nb a := by
                rw [HS.out, HZ.out]
                simp [blkB, endB]
              rw [e1]
              exact hO6
            clear hO6 hR7 hB hBx
            go_wp2_with fail
            go_roundw
            case rel => exact ⟨j + 1, by omega, by go_num, hOe, hBe⟩
            case measure => simp [intOf]; omega
    · obtain rfl : j = bs.length := by omega
      obtain ⟨ao2, nv2, cap2, rfl⟩ := bysnd _ _ _ hO
      go_wp2_with fail
      go_ret
      refine ⟨_, rfl, ?_, hB⟩
      have e : xs ++ allB bs = ys ++ (bs.take bs.length).flatMap blkB := by rw [HY.out, List.take_length]; simp [allB]
      rw [e]
      exact hO
end Go.Proofs.Ytbjnhicikkjadaa
