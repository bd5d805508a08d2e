/- wire's putBlocks: blocks behind bytes. -/
import Derived.Test.YtbjnhicikkjadabPi
namespace Go.Proofs.Ytbjnhicikkjadab
open Go.RowKit Ir Wire

theorem enc16 {n : Nat} (h : n < 128 ^ 10) : (Leb.enc n).length ≤ 10 := Leb.enc_len 9 n (by simpa using h)
theorem nb16 {x : Int} (h : 0 ≤ x ∧ x < 4096) : (nb x).length ≤ 10 := nb_len (by omega)
theorem args_len {l : List Int} (h : ∀ x ∈ l, 0 ≤ x ∧ x < 4096) : (l.flatMap nb).length ≤ 10 * l.length := nbs_len l fun x hx => by have := h x hx; omega
theorem insB_len {i : Ins} (h : WfI i) : (insB i).length ≤ 100 := by
  obtain ⟨k, op, d, a, b, n, args⟩ := i
  obtain ⟨hk, h1, h2, h3, h4, h5, h6⟩ := h
  simp only at hk h1 h2 h3 h4 h5 h6
  have hk' := nb16 (x := k) (by omega)
  have hc : k = 1 ∨ k = 2 ∨ k = 3 ∨ k = 4 ∨ k = 5 ∨ k = 6 ∨ k = 7 ∨ k = 8 := by omega
  rcases hc with rfl | rfl | rfl | rfl | rfl | rfl | rfl | rfl <;> simp at h1 h2 h3 h4 h5 h6 <;> simp [insB]
  · have g1 := nb16 h2; have g2 := Leb.enc_len10 (Leb.zig_lt h5.1 h5.2); omega
  · have g1 := nb16 h2; have g2 := nb16 h3; omega
  · have g1 := nb16 h2; have g2 := nb16 h3; have g3 := nb16 h4; have g4 := nb16 (x := op) (by omega); omega
  · have g1 := nb16 h2; have g2 := nb16 h3; omega
  · have g1 := nb16 h3; have g2 := nb16 h4; omega
  · have g1 := nb16 h2; have g2 := Leb.enc_len10 (Leb.zig_lt h5.1 h5.2); have g3 := args_len h6.2; have g4 := Leb.enc_len10 (n := args.length) (by omega)
    rw [List.length_flatMap] at g3
    omega
  · have g1 := nb16 h2; have g2 := nb16 h3; omega
  · have g1 := nb16 h2; have g2 := nb16 h3; omega
theorem endB_len {e : En} (h : WfE e) : (endB e).length ≤ 40 := by
  obtain ⟨k, a, to, el⟩ := e
  obtain ⟨hk, h1, h2, h3⟩ := h
  simp only at hk h1 h2 h3
  have hk' := nb16 (x := k) (by omega)
  have hc : k = 1 ∨ k = 2 ∨ k = 3 := by omega
  rcases hc with rfl | rfl | rfl <;> simp at h1 h2 h3 <;> simp [endB]
  · have g1 := nb16 h2; omega
  · have g1 := nb16 h1; have g2 := nb16 h2; have g3 := nb16 h3; omega
  · have g1 := nb16 h1; omega
theorem inssB_len : ∀ {l : List Ins}, (∀ i ∈ l, WfI i) → (l.flatMap insB).length ≤ 100 * l.length
  | [], _ => by simp
  | i :: l, h => by
    have h1 := inssB_len (l := l) (fun j hj => h j (by simp [hj]))
    have h2 := insB_len (h i (by simp))
    rw [List.flatMap_cons, List.length_append, List.length_cons]; omega
theorem blkB_len {most : Nat} {b : Blk} (h : WfB most b) (hm : most ≤ 400) : (blkB b).length ≤ 41000 := by
  obtain ⟨h1, h2, h3⟩ := h
  have g1 := inssB_len h2
  have g2 := endB_len h3
  have g3 := Leb.enc_len10 (n := b.ins.length) (by omega)
  unfold blkB
  rw [List.length_append, List.length_append]; omega
theorem blksB_len {most : Nat} (hm : most ≤ 400) : ∀ {l : List Blk}, (∀ b ∈ l, WfB most b) → (l.flatMap blkB).length ≤ 41000 * l.length
  | [], _ => by simp
  | b :: l, h => by
    have h1 := blksB_len hm (l := l) (fun j hj => h j (by simp [hj]))
    have h2 := blkB_len (h b (by simp)) hm
    rw [List.flatMap_cons, List.length_append, List.length_cons]; omega
theorem snocB {α : Type} (f : α → List Int) (z : α) {l : List α} {k : Nat} (h : k < l.length) : (l.take (k + 1)).flatMap f = (l.take k).flatMap f ++ f (l.getD k z) := by
  rw [List.take_succ_eq_append_getElem h, List.flatMap_append]; simp [List.getElem?_eq_getElem h]
theorem memD {α : Type} (z : α) {l : List α} {k : Nat} (h : k < l.length) : l.getD k z ∈ l := by simp [List.getElem?_eq_getElem h]
theorem nb_nat (n : Nat) : [(n : Int)].flatMap nb = Leb.enc n := by simp [nb]
theorem blk_box {B : Nat} {w W : World} {a0 a1 a2 a3 a4 : Value} (h : Put B (w.alloc (.cells #[a0, a1, a2, a3, a4] 40)) W) : W.cell? ⟨w.heap.size, 0, none⟩ = some a0 ∧ W.cell? ⟨w.heap.size, 1, none⟩ = some a1 ∧ W.cell? ⟨w.heap.size, 2, none⟩ = some a2 ∧ W.cell? ⟨w.heap.size, 3, none⟩ = some a3 ∧ W.cell? ⟨w.heap.size, 4, none⟩ = some a4 := by
  have h1 := h.keep w.heap.size _ 40 (0, 0) rfl (heap_alloc_new w (.cells #[a0, a1, a2, a3, a4] 40))
  refine ⟨?_, ?_, ?_, ?_, ?_⟩ <;> (rw [cell_of_row _ _ _ _ _ _ h1]; rfl)
theorem Put.read {W w w' : World} (h : Put W.heap.size w w') (hW : Below W.heap.size W w) : Below W.heap.size W w' := hW.trans h.bel

set_option maxHeartbeats 1000000 in
set_option maxRecDepth 100000 in
theorem putBlocks_any (W w : World) (v u : Value) (xs : List Int) (bs : List Blk) (most : Nat) (ho : Out W.heap.size w v xs) (hW : Below W.heap.size W w) (hu : BlksV W u bs) (hw : ∀ b ∈ bs, WfB most b) (hm : most ≤ 400) (hbs : bs.length ≤ 16) (hl : xs.length ≤ 1000) :
    Calls Try.prog 11 #[v, u] w fun e w' => ∃ v', e = .returned v' ∧ Out W.heap.size w' v' (xs ++ allB bs) ∧ Put W.heap.size w w' := by
  obtain ⟨ao, nv, cap, rfl⟩ := ho.sl
  obtain ⟨ub, cb, rfl⟩ := hu.slice
  have hB : W.heap.size ≤ w.heap.size := hW.size
  have HW := hide hw
  have HL := hide hl
  clear hw hl
  go_enter Try.func11, Try.ntmps11
  go_wp2_with fail
  refine (wput_any W.heap.size _ _ _ _ [(bs.length : Int)] (ho.alloc _) (by simp; omega) (lit_ints [(bs.length : Int)] (by simp) rfl rfl (by simp)) (by simp; omega) (by have := HL.out; simp at this ⊢; omega)).mono ?_
  rintro e w1 ⟨v1, rfl, hO1, hR⟩
  rw [nb_nat] at hO1
  have hP1 := (Put.alloc (Put.refl W.heap.size w) hB _).trans hR
  clear hR ho
  have hlen1 : Hid ((xs ++ Leb.enc bs.length).length ≤ 1010) := by
    have := Leb.enc_len10 (n := bs.length) (by omega)
    show _ ≤ _
    have := HL.out
    rw [List.length_append]; omega
  clear HL
  obtain ⟨ys, hys⟩ : ∃ ys, ys = xs ++ Leb.enc bs.length := ⟨_, rfl⟩
  rw [← hys] at hO1 hlen1
  have HY := hide hys
  clear hys
  obtain ⟨ao1, nv1, cap1, rfl⟩ := hO1.sl
  go_wp2_with fail
  go_loopw [0, 16] (fun bv iv wr => ∃ j : Nat, j ≤ bs.length ∧ iv = .int .i64 j ∧ Out W.heap.size wr bv (ys ++ (bs.take j).flatMap blkB) ∧ Put W.heap.size w wr) (fun _ iv _ => bs.length - (intOf iv).toNat)
  case atStart => exact ⟨0, by omega, rfl, by simpa using hO1, hP1⟩
  case round =>
    rename World => WR
    obtain ⟨j, hj, rfl, hO, hP⟩ := hrel
    obtain ⟨ao2, nv2, cap2, rfl⟩ := hO.sl
    by_cases hlt : j < bs.length
    · obtain ⟨gb, off, rfl, ui, hcs, hui⟩ := SlV.at hu j hlt
      obtain ⟨c0, c1, c2, c3, c4⟩ := hcs.below (hP.read hW)
      have HS := hide (snocB blkB Blk.zero hlt)
      have HB := hide (HW.out _ (memD Blk.zero hlt))
      have HLa := hide (blksB_len hm (l := bs.take j) (fun b hb => HW.out b (List.mem_of_mem_take hb)))
      generalize bs.getD j Blk.zero = b at *
      obtain ⟨is, e⟩ := b
      simp only at c1 c2 c3 c4 hui
      obtain ⟨ai, ci, rfl⟩ := hui.slice
      have hBr := hP.to hB
      have HX := hide (fun W' (h : Put W.heap.size (WR.alloc (.cells #[.slice ai is.length ci, .int .u8 e.k, .int .i64 e.a, .int .i64 e.to, .int .i64 e.el] 40)) W') => blk_box h)
      have hOa := hO.alloc (.cells #[.slice ai is.length ci, .int .u8 e.k, .int .i64 e.a, .int .i64 e.to, .int .i64 e.el] 40)
      have hQ0 := Put.alloc (Put.refl W.heap.size WR) hBr (.cells #[.slice ai is.length ci, .int .u8 e.k, .int .i64 e.a, .int .i64 e.to, .int .i64 e.el] 40)
      have hil : is.length ≤ 400 := by have := HB.out.1; simp only at this; omega
      have hlen2 : Hid ((ys ++ (bs.take j).flatMap blkB).length ≤ 700000) := by
        have g1 := hlen1.out
        have g2 := HLa.out
        show _ ≤ _
        rw [List.length_append]
        rw [List.length_take] at g2
        omega
      clear HLa
      go_wp2_with fail
      refine (wput_any W.heap.size _ _ _ _ [(is.length : Int)] (hOa.alloc _) (by simp; omega) (lit_ints [(is.length : Int)] (by simp) rfl rfl (by simp)) (by simp; omega) (by have := hlen2.out; simp at this ⊢; omega)).mono ?_
      rintro x w2 ⟨v2, rfl, hO2, hR⟩
      rw [nb_nat] at hO2
      have hQ1 := (Put.alloc (Put.refl W.heap.size _) (hQ0.to hBr) _).trans hR
      clear hR hO hOa c0 c1 c2 c3 c4
      obtain ⟨d0, d1, d2, d3, d4⟩ := HX.out _ hQ1
      obtain ⟨ao3, nv3, cap3, rfl⟩ := hO2.sl
      obtain ⟨zs, hzs⟩ : ∃ zs, zs = ys ++ (bs.take j).flatMap blkB ++ Leb.enc is.length := ⟨_, rfl⟩
      rw [← hzs] at hO2
      have hlen3 : Hid (zs.length ≤ 700010) := by
        have g1 := hlen2.out
        have g2 := Leb.enc_len10 (n := is.length) (by omega)
        show _ ≤ _
        rw [hzs, List.length_append]
        omega
      have HZ := hide hzs
      clear hzs hlen2
      go_wp2_with fail
      go_loopw [0, 29] (fun bv iv wr => ∃ k : Nat, k ≤ is.length ∧ iv = .int .i64 k ∧ Out W.heap.size wr bv (zs ++ (is.take k).flatMap insB) ∧ Put W.heap.size (WR.alloc (.cells #[.slice ai is.length ci, .int .u8 e.k, .int .i64 e.a, .int .i64 e.to, .int .i64 e.el] 40)) wr) (fun _ iv _ => is.length - (intOf iv).toNat)
      case atStart => exact ⟨0, by omega, rfl, by simpa using hO2, hQ1⟩
      case round =>
        obtain ⟨k, hk, rfl, hO, hQ⟩ := hrel
        obtain ⟨ao4, nv4, cap4, rfl⟩ := hO.sl
        have hPq := hP.trans (hQ0.trans hQ)
        obtain ⟨d0, d1, d2, d3, d4⟩ := HX.out _ hQ
        have hBq := hQ.to (hQ0.to hBr)
        by_cases hkl : k < is.length
        · obtain ⟨gi, oi, rfl, ua, hci, hua⟩ := SlV.at hui k hkl
          obtain ⟨c0, c1, c2, c3, c4, c5, c6⟩ := hci.below (hPq.read hW)
          have HS2 := hide (snocB insB Ins.zero hkl)
          have HI := hide (HB.out.2.1 _ (memD Ins.zero hkl))
          have HLi := hide (inssB_len (l := is.take k) (fun i hi => HB.out.2.1 i (List.mem_of_mem_take hi)))
          generalize is.getD k Ins.zero = i at *
          obtain ⟨aa, ca, rfl⟩ := hua.slice
          have hlen4 : Hid ((zs ++ (is.take k).flatMap insB).length ≤ 900000000) := by
            have g1 := hlen3.out
            have g2 := HLi.out
            show _ ≤ _
            rw [List.length_append]
            rw [List.length_take] at g2
            omega
          have hOb := hO.alloc (.cells #[.int .u8 i.k, .int .u8 i.op, .int .i64 i.d, .int .i64 i.a, .int .i64 i.b, .int .i64 i.n, .slice aa i.args.length ca] 49)
          have hQ2 := Put.alloc (Put.refl W.heap.size wr) hBq (.cells #[.int .u8 i.k, .int .u8 i.op, .int .i64 i.d, .int .i64 i.a, .int .i64 i.b, .int .i64 i.n, .slice aa i.args.length ca] 49)
          have hCall := hide (putIns_any W.heap.size _ (.slice ao4 nv4 cap4) _ i (.slice aa i.args.length ca) hOb (hQ2.to hBq) HI.out (fun w' h => hua.below ((hPq.trans (hQ2.trans h)).read hW)) hlen4.out)
          unfold insV at hCall
          clear HLi hOb hlen4 hO
          go_wp2_with fail
          refine hCall.out.mono ?_
          rintro x w3 ⟨v3, rfl, hO3, hR⟩
          have hQ3 := hQ.trans (hQ2.trans hR)
          have hO4 : Out W.heap.size w3 v3 (zs ++ (is.take (k + 1)).flatMap insB) := by
            rw [HS2.out, ← List.append_assoc]
            exact hO3
          clear hR hQ hQ2 hCall hO3 HS2 HI c0 c1 c2 c3 c4 c5 c6 hci hua d0 d1 d2 d3 d4 hPq hBq
          go_wp2_with fail
          go_roundw
          case rel => exact ⟨k + 1, by omega, by go_num, hO4, hQ3⟩
          case measure => simp [intOf]; omega
        · obtain rfl : k = is.length := by omega
          rw [List.take_length] at hO
          have hlen4 : Hid ((zs ++ is.flatMap insB).length ≤ 900000000) := by
            have g1 := hlen3.out
            have g2 := inssB_len (l := is) HB.out.2.1
            show _ ≤ _
            rw [List.length_append]
            omega
          have hCall := hide (putEnd_any W.heap.size _ (.slice ao4 nv4 cap4) _ e hO hBq HB.out.2.2 hlen4.out)
          unfold endV at hCall
          clear hlen4 hO
          go_wp2_with fail
          refine hCall.out.mono ?_
          rintro x w3 ⟨v3, rfl, hO3, hR⟩
          have hP3 := hPq.trans hR
          have hO4 : Out W.heap.size w3 v3 (ys ++ (bs.take (j + 1)).flatMap blkB) := by
            have e1 : ys ++ (bs.take (j + 1)).flatMap blkB = zs ++ is.flatMap insB ++ endB e := by
              rw [HS.out, HZ.out]
              simp [blkB]
            rw [e1]
            exact hO3
          clear hR hQ hCall hO3 HS HB hPq hBq hui hcs d0 d1 d2 d3 d4
          go_wp2_with fail
          go_roundw
          case rel => exact ⟨j + 1, by omega, by go_num, hO4, hP3⟩
          case measure => simp [intOf]; omega
    · obtain rfl : j = bs.length := by omega
      go_wp2_with fail
      go_ret
      refine ⟨_, rfl, ?_, hP⟩
      have e : xs ++ allB bs = ys ++ (bs.take bs.length).flatMap blkB := by rw [HY.out, List.take_length]; simp [allB]
      rw [e]
      exact hO
end Go.Proofs.Ytbjnhicikkjadab
