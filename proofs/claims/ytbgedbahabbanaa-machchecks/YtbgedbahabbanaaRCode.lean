/- The document's Code: code's first fault; and Long: it answers. -/
import Derived.Test.YtbgedbahabbanaaRBlks
namespace Go.Proofs.Ytbgedbahabbanaa
open Go.RowKit Ir

set_option maxHeartbeats 1000000 in
set_option maxRecDepth 100000 in
theorem rCode_a (C : Cod) (ub : Option Addr) (cb : Nat) (w : World)  (h : C.p < 0) : Calls Try.prog 11 #[.agg #[.int .i64 C.p, .int .i64 C.r, .int .i64 C.s, .slice ub C.bs.length cb]] w fun r w' => r = .returned (faultV (mchk C)) ∧ Below w.heap.size w w' := by
  have he : Hid (mchk C = (2, -1, -1)) := by
    show _ = _
    unfold mchk
    rw [if_pos]
    simp [msz]
    omega
  have hB0 := bel1 w (.cells #[.int .i64 C.p, .int .i64 C.r, .int .i64 C.s, .slice ub C.bs.length cb] 24)
  have hB1 := bel1 (w.alloc (.cells #[.int .i64 C.p, .int .i64 C.r, .int .i64 C.s, .slice ub C.bs.length cb] 24)) (.cells #[.int .i64 0, .int .i64 0, .int .i64 0] 33)
  have hB01 := bel_of hB0 hB1
  clear hB0 hB1
  go_enter Try.func11, Try.ntmps11
  go_wp2_with fail
  refine bodyPost_ret (v := .agg #[.int .i64 2, .int .i64 (-1), .int .i64 (-1)]) (by simp [results, Try.results11, go_sem]) rfl ?_
  exact ⟨by rw [he.out]; rfl, bel2 _ _ _⟩
set_option maxHeartbeats 1000000 in
set_option maxRecDepth 100000 in
theorem rCode_b (C : Cod) (ub : Option Addr) (cb : Nat) (w : World) (h0 : 0 ≤ C.p) (h : 4 < C.p) : Calls Try.prog 11 #[.agg #[.int .i64 C.p, .int .i64 C.r, .int .i64 C.s, .slice ub C.bs.length cb]] w fun r w' => r = .returned (faultV (mchk C)) ∧ Below w.heap.size w w' := by
  have he : Hid (mchk C = (2, -1, -1)) := by
    show _ = _
    unfold mchk
    rw [if_pos]
    simp [msz]
    omega
  have hB0 := bel1 w (.cells #[.int .i64 C.p, .int .i64 C.r, .int .i64 C.s, .slice ub C.bs.length cb] 24)
  have hB1 := bel1 (w.alloc (.cells #[.int .i64 C.p, .int .i64 C.r, .int .i64 C.s, .slice ub C.bs.length cb] 24)) (.cells #[.int .i64 0, .int .i64 0, .int .i64 0] 33)
  have hB01 := bel_of hB0 hB1
  clear hB0 hB1
  go_enter Try.func11, Try.ntmps11
  go_wp2_with fail
  refine bodyPost_ret (v := .agg #[.int .i64 2, .int .i64 (-1), .int .i64 (-1)]) (by simp [results, Try.results11, go_sem]) rfl ?_
  exact ⟨by rw [he.out]; rfl, bel2 _ _ _⟩
set_option maxHeartbeats 1000000 in
set_option maxRecDepth 100000 in
theorem rCode_c (C : Cod) (ub : Option Addr) (cb : Nat) (w : World) (h0 : 0 ≤ C.p) (h1 : C.p ≤ 4) (h : C.r < 3) : Calls Try.prog 11 #[.agg #[.int .i64 C.p, .int .i64 C.r, .int .i64 C.s, .slice ub C.bs.length cb]] w fun r w' => r = .returned (faultV (mchk C)) ∧ Below w.heap.size w w' := by
  have he : Hid (mchk C = (2, -1, -1)) := by
    show _ = _
    unfold mchk
    rw [if_pos]
    simp [msz]
    omega
  have hB0 := bel1 w (.cells #[.int .i64 C.p, .int .i64 C.r, .int .i64 C.s, .slice ub C.bs.length cb] 24)
  have hB1 := bel1 (w.alloc (.cells #[.int .i64 C.p, .int .i64 C.r, .int .i64 C.s, .slice ub C.bs.length cb] 24)) (.cells #[.int .i64 0, .int .i64 0, .int .i64 0] 33)
  have hB01 := bel_of hB0 hB1
  clear hB0 hB1
  go_enter Try.func11, Try.ntmps11
  go_wp2_with fail
  refine bodyPost_ret (v := .agg #[.int .i64 2, .int .i64 (-1), .int .i64 (-1)]) (by simp [results, Try.results11, go_sem]) rfl ?_
  exact ⟨by rw [he.out]; rfl, bel2 _ _ _⟩
set_option maxHeartbeats 1000000 in
set_option maxRecDepth 100000 in
theorem rCode_d (C : Cod) (ub : Option Addr) (cb : Nat) (w : World) (h0 : 0 ≤ C.p) (h1 : C.p ≤ 4) (h2 : 3 ≤ C.r) (h : 8 < C.r) : Calls Try.prog 11 #[.agg #[.int .i64 C.p, .int .i64 C.r, .int .i64 C.s, .slice ub C.bs.length cb]] w fun r w' => r = .returned (faultV (mchk C)) ∧ Below w.heap.size w w' := by
  have he : Hid (mchk C = (2, -1, -1)) := by
    show _ = _
    unfold mchk
    rw [if_pos]
    simp [msz]
    omega
  have hB0 := bel1 w (.cells #[.int .i64 C.p, .int .i64 C.r, .int .i64 C.s, .slice ub C.bs.length cb] 24)
  have hB1 := bel1 (w.alloc (.cells #[.int .i64 C.p, .int .i64 C.r, .int .i64 C.s, .slice ub C.bs.length cb] 24)) (.cells #[.int .i64 0, .int .i64 0, .int .i64 0] 33)
  have hB01 := bel_of hB0 hB1
  clear hB0 hB1
  go_enter Try.func11, Try.ntmps11
  go_wp2_with fail
  refine bodyPost_ret (v := .agg #[.int .i64 2, .int .i64 (-1), .int .i64 (-1)]) (by simp [results, Try.results11, go_sem]) rfl ?_
  exact ⟨by rw [he.out]; rfl, bel2 _ _ _⟩
set_option maxHeartbeats 1000000 in
set_option maxRecDepth 100000 in
theorem rCode_e (C : Cod) (ub : Option Addr) (cb : Nat) (w : World) (h0 : 0 ≤ C.p) (h1 : C.p ≤ 4) (h2 : 3 ≤ C.r) (h3 : C.r ≤ 8) (h : C.s < C.p) : Calls Try.prog 11 #[.agg #[.int .i64 C.p, .int .i64 C.r, .int .i64 C.s, .slice ub C.bs.length cb]] w fun r w' => r = .returned (faultV (mchk C)) ∧ Below w.heap.size w w' := by
  have he : Hid (mchk C = (2, -1, -1)) := by
    show _ = _
    unfold mchk
    rw [if_pos]
    simp [msz]
    omega
  have hB0 := bel1 w (.cells #[.int .i64 C.p, .int .i64 C.r, .int .i64 C.s, .slice ub C.bs.length cb] 24)
  have hB1 := bel1 (w.alloc (.cells #[.int .i64 C.p, .int .i64 C.r, .int .i64 C.s, .slice ub C.bs.length cb] 24)) (.cells #[.int .i64 0, .int .i64 0, .int .i64 0] 33)
  have hB01 := bel_of hB0 hB1
  clear hB0 hB1
  go_enter Try.func11, Try.ntmps11
  go_wp2_with fail
  refine bodyPost_ret (v := .agg #[.int .i64 2, .int .i64 (-1), .int .i64 (-1)]) (by simp [results, Try.results11, go_sem]) rfl ?_
  exact ⟨by rw [he.out]; rfl, bel2 _ _ _⟩
set_option maxHeartbeats 1000000 in
set_option maxRecDepth 100000 in
theorem rCode_f (C : Cod) (ub : Option Addr) (cb : Nat) (w : World) (h0 : 0 ≤ C.p) (h1 : C.p ≤ 4) (h2 : 3 ≤ C.r) (h3 : C.r ≤ 8) (h4 : C.p ≤ C.s) (h : 64 < C.s) : Calls Try.prog 11 #[.agg #[.int .i64 C.p, .int .i64 C.r, .int .i64 C.s, .slice ub C.bs.length cb]] w fun r w' => r = .returned (faultV (mchk C)) ∧ Below w.heap.size w w' := by
  have he : Hid (mchk C = (2, -1, -1)) := by
    show _ = _
    unfold mchk
    rw [if_pos]
    simp [msz]
    omega
  have hB0 := bel1 w (.cells #[.int .i64 C.p, .int .i64 C.r, .int .i64 C.s, .slice ub C.bs.length cb] 24)
  have hB1 := bel1 (w.alloc (.cells #[.int .i64 C.p, .int .i64 C.r, .int .i64 C.s, .slice ub C.bs.length cb] 24)) (.cells #[.int .i64 0, .int .i64 0, .int .i64 0] 33)
  have hB01 := bel_of hB0 hB1
  clear hB0 hB1
  go_enter Try.func11, Try.ntmps11
  go_wp2_with fail
  refine bodyPost_ret (v := .agg #[.int .i64 2, .int .i64 (-1), .int .i64 (-1)]) (by simp [results, Try.results11, go_sem]) rfl ?_
  exact ⟨by rw [he.out]; rfl, bel2 _ _ _⟩
set_option maxHeartbeats 1000000 in
set_option maxRecDepth 100000 in
theorem rCode_g (C : Cod) (ub : Option Addr) (cb : Nat) (w : World) (h0 : 0 ≤ C.p) (h1 : C.p ≤ 4) (h2 : 3 ≤ C.r) (h3 : C.r ≤ 8) (h4 : C.p ≤ C.s) (h5 : C.s ≤ 64) (h : C.bs.length = 0) : Calls Try.prog 11 #[.agg #[.int .i64 C.p, .int .i64 C.r, .int .i64 C.s, .slice ub C.bs.length cb]] w fun r w' => r = .returned (faultV (mchk C)) ∧ Below w.heap.size w w' := by
  have he : Hid (mchk C = (2, -1, -1)) := by
    show _ = _
    unfold mchk
    rw [if_pos]
    simp [msz]
    omega
  have hB0 := bel1 w (.cells #[.int .i64 C.p, .int .i64 C.r, .int .i64 C.s, .slice ub C.bs.length cb] 24)
  have hB1 := bel1 (w.alloc (.cells #[.int .i64 C.p, .int .i64 C.r, .int .i64 C.s, .slice ub C.bs.length cb] 24)) (.cells #[.int .i64 0, .int .i64 0, .int .i64 0] 33)
  have hB01 := bel_of hB0 hB1
  have hl1 : (((C.bs.length : Nat) : Int) == 0) = true := by rw [h]; rfl
  clear h
  clear hB0 hB1
  go_enter Try.func11, Try.ntmps11
  go_wp2_with fail
  refine bodyPost_ret (v := .agg #[.int .i64 2, .int .i64 (-1), .int .i64 (-1)]) (by simp [results, Try.results11, go_sem]) rfl ?_
  exact ⟨by rw [he.out]; rfl, bel2 _ _ _⟩
set_option maxHeartbeats 1000000 in
set_option maxRecDepth 100000 in
theorem rCode_h (C : Cod) (ub : Option Addr) (cb : Nat) (w : World) (h0 : 0 ≤ C.p) (h1 : C.p ≤ 4) (h2 : 3 ≤ C.r) (h3 : C.r ≤ 8) (h4 : C.p ≤ C.s) (h5 : C.s ≤ 64) (h : 16 < C.bs.length) : Calls Try.prog 11 #[.agg #[.int .i64 C.p, .int .i64 C.r, .int .i64 C.s, .slice ub C.bs.length cb]] w fun r w' => r = .returned (faultV (mchk C)) ∧ Below w.heap.size w w' := by
  have he : Hid (mchk C = (2, -1, -1)) := by
    show _ = _
    unfold mchk
    rw [if_pos]
    simp [msz]
    omega
  have hB0 := bel1 w (.cells #[.int .i64 C.p, .int .i64 C.r, .int .i64 C.s, .slice ub C.bs.length cb] 24)
  have hB1 := bel1 (w.alloc (.cells #[.int .i64 C.p, .int .i64 C.r, .int .i64 C.s, .slice ub C.bs.length cb] 24)) (.cells #[.int .i64 0, .int .i64 0, .int .i64 0] 33)
  have hB01 := bel_of hB0 hB1
  have hl0 : (16 : Int) < ((C.bs.length : Nat) : Int) := by omega
  have hl1 : (((C.bs.length : Nat) : Int) == 0) = false := by rw [beq_eq_false_iff_ne]; omega
  clear h
  clear hB0 hB1
  go_enter Try.func11, Try.ntmps11
  go_wp2_with fail
  refine bodyPost_ret (v := .agg #[.int .i64 2, .int .i64 (-1), .int .i64 (-1)]) (by simp [results, Try.results11, go_sem]) rfl ?_
  exact ⟨by rw [he.out]; rfl, bel2 _ _ _⟩
set_option maxHeartbeats 1000000 in
set_option maxRecDepth 100000 in
theorem rCode_i (C : Cod) (ub : Option Addr) (cb : Nat) (w : World) (hu : BlksV w (.slice ub C.bs.length cb) C.bs) (h0 : 0 ≤ C.p) (h1 : C.p ≤ 4) (h2 : 3 ≤ C.r) (h3 : C.r ≤ 8) (h4 : C.p ≤ C.s) (h5 : C.s ≤ 64) (h6 : 0 < C.bs.length) (h7 : C.bs.length ≤ 16) : Calls Try.prog 11 #[.agg #[.int .i64 C.p, .int .i64 C.r, .int .i64 C.s, .slice ub C.bs.length cb]] w fun r w' => r = .returned (faultV (mchk C)) ∧ Below w.heap.size w w' := by
  have he : Hid (mchk C = mbs C.r C.s C.bs.length C.bs 0) := by
    show _ = _
    unfold mchk
    rw [if_neg]
    simp [msz]
    omega
  have hB0 := bel1 w (.cells #[.int .i64 C.p, .int .i64 C.r, .int .i64 C.s, .slice ub C.bs.length cb] 24)
  have hz1 : (w.alloc (.cells #[.int .i64 C.p, .int .i64 C.r, .int .i64 C.s, .slice ub C.bs.length cb] 24)).heap.size = w.heap.size + 1 := by simp
  have hB1 := bel1 (w.alloc (.cells #[.int .i64 C.p, .int .i64 C.r, .int .i64 C.s, .slice ub C.bs.length cb] 24)) (.cells #[.int .i64 0, .int .i64 0, .int .i64 0] 33)
  have hB01 := hide (bel_of hB0 hB1)
  have hC := hide (rBlocks_any _ C.bs C.r C.s _ ((hu.below hB0).below hB1) h7 (by omega))
  have hl0 : ((C.bs.length : Nat) : Int) ≤ 16 := by omega
  have hl1 : (((C.bs.length : Nat) : Int) == 0) = false := by rw [beq_eq_false_iff_ne]; omega
  have HZ1 := hide hz1
  clear hu h6 h7 hB0 hB1 hz1
  go_enter Try.func11, Try.ntmps11
  go_wp2_with fail
  refine hC.out.mono ?_
  rintro r w1 ⟨rfl, hB2⟩
  have hbx := box33 hB2
  rw [HZ1.out] at hbx
  obtain ⟨r0, r1, r2, f0, f1, f2⟩ := hbx
  have hBw := hide (bel_of hB01.out hB2)
  generalize mbs C.r C.s C.bs.length C.bs 0 = c at *
  obtain ⟨q0, q1, q2⟩ := set3 (.int .i64 c.1) (.int .i64 c.2.1) (.int .i64 c.2.2) r0 r1 r2
  unfold faultV
  clear hC hB2 hB01
  go_wp2_with fail
  refine bodyPost_ret (v := .agg #[.int .i64 c.1, .int .i64 c.2.1, .int .i64 c.2.2]) (by simp [results, Try.results11, go_sem, q0, q1, q2]) rfl ?_
  exact ⟨by rw [he.out]; rfl, bel_set3 hBw.out (by omega) _ _ _⟩
theorem rCode_any (C : Cod) (v : Value) (w : World) (hv : CodV w v C) : Calls Try.prog 11 #[v] w fun r w' => r = .returned (faultV (mchk C)) ∧ Below w.heap.size w w' := by
  obtain ⟨u, rfl, hu⟩ := hv
  obtain ⟨ub, cb, rfl⟩ := hu.slice
  by_cases h0 : C.p < 0
  · exact rCode_a C ub cb w h0
  by_cases h1 : 4 < C.p
  · exact rCode_b C ub cb w (by omega) h1
  by_cases h2 : C.r < 3
  · exact rCode_c C ub cb w (by omega) (by omega) h2
  by_cases h3 : 8 < C.r
  · exact rCode_d C ub cb w (by omega) (by omega) (by omega) h3
  by_cases h4 : C.s < C.p
  · exact rCode_e C ub cb w (by omega) (by omega) (by omega) (by omega) h4
  by_cases h5 : 64 < C.s
  · exact rCode_f C ub cb w (by omega) (by omega) (by omega) (by omega) (by omega) h5
  by_cases h6 : C.bs.length = 0
  · exact rCode_g C ub cb w (by omega) (by omega) (by omega) (by omega) (by omega) (by omega) h6
  by_cases h7 : 16 < C.bs.length
  · exact rCode_h C ub cb w (by omega) (by omega) (by omega) (by omega) (by omega) (by omega) h7
  · exact rCode_i C ub cb w hu (by omega) (by omega) (by omega) (by omega) (by omega) (by omega) (by omega) (by omega)

set_option maxHeartbeats 4000000 in
set_option maxRecDepth 100000 in
theorem long_any (u : Value) (bs : List Blk) (w : World) (hu : BlksV w u bs) : Calls Try.prog 8 #[u] w fun r w' => (∃ c, r = .returned (.bool c)) ∧ Below w.heap.size w w' := by
  have hml := SlV.len_le hu
  obtain ⟨ub, cb, rfl⟩ := hu.slice
  have HU := hide hu
  have hml' : bs.length ≤ 9223372036854775807 := by simp [maxLen] at hml; omega
  clear hu hml
  go_enter Try.func8, Try.ntmps8
  go_wp2_with fail
  go_loopw [3, 10] (fun nv iv wr => ∃ (j : Nat) (n : Int), j ≤ bs.length ∧ iv = .int .i64 j ∧ nv = .int .i64 n ∧ 0 ≤ n ∧ n ≤ 5000 ∧ Below w.heap.size w wr) (fun _ iv _ => bs.length - (intOf iv).toNat)
  case atStart => exact ⟨0, 0, by omega, rfl, rfl, by omega, by omega, Below.refl _ _⟩
  case round =>
    rename World => wo
    obtain ⟨j, n, hj, rfl, rfl, hn0, hn1, hBr⟩ := hrel
    by_cases hlt : j < bs.length
    · obtain ⟨gb, off, rfl, ui, ⟨c0, c1, c2, c3, c4⟩, hui⟩ := SlV.at (HU.out.below hBr) j hlt
      generalize bs.getD j Blk.zero = b at *
      obtain ⟨is, e⟩ := b
      simp only at c1 c2 c3 c4 hui
      have hmi := SlV.len_le hui
      obtain ⟨ai, ci, rfl⟩ := hui.slice
      have hBx := bel1 wo (.cells #[.slice ai is.length ci, .int .u8 e.k, .int .i64 e.a, .int .i64 e.to, .int .i64 e.el] 41)
      have HI := hide (hui.below hBx)
      have hbox := hide (boxB (Below.refl _ (wo.alloc (.cells #[.slice ai is.length ci, .int .u8 e.k, .int .i64 e.a, .int .i64 e.to, .int .i64 e.el] 41))))
      have HBo := hide (bel_of hBr hBx)
      have hmi' : is.length ≤ 9223372036854775807 := by simp [maxLen] at hmi; omega
      have hlt' : (j : Int) < (bs.length : Int) := by omega
      clear hui hmi hBx hBr
      go_wp2_with fail
      generalize (wo.alloc (.cells #[.slice ai is.length ci, .int .u8 e.k, .int .i64 e.a, .int .i64 e.to, .int .i64 e.el] 41)) = w1 at *
      go_loopw [3, 18] (fun nv iv wr => ∃ (k : Nat) (n : Int), k ≤ is.length ∧ iv = .int .i64 k ∧ nv = .int .i64 n ∧ 0 ≤ n ∧ n ≤ 5000 ∧ Below w1.heap.size w1 wr) (fun _ iv _ => is.length - (intOf iv).toNat)
      case atStart => exact ⟨0, n, by omega, rfl, rfl, by omega, by omega, Below.refl _ _⟩
      case round =>
        rename World => ws
        obtain ⟨k, m, hk, rfl, rfl, hm0, hm1, hBs⟩ := hrel
        by_cases hltk : k < is.length
        · obtain ⟨gi, offi, rfl, uu, ⟨a0, a1, a2, a3, a4, a5, a6⟩, huu⟩ := SlV.at (HI.out.below hBs) k hltk
          generalize is.getD k Ins.zero = i at *
          obtain ⟨au, cu, rfl⟩ := huu.slice
          have hBy := bel_of hBs (bel1 ws (.cells #[.int .u8 i.k, .int .u8 i.op, .int .i64 i.d, .int .i64 i.a, .int .i64 i.b, .int .i64 i.n, .slice au i.args.length cu] 46))
          obtain ⟨mn, hmn⟩ : ∃ mn, mn = min (i.args.length : Int) 10000 := ⟨_, rfl⟩
          have hmin : ∀ (ts : Array TypeId) (t : TypeId) (W : World), (Builtin.min_ ts t #[.int .i64 ((i.args.length : Nat) : Int), .int .i64 10000]).run Try.prog W = .ok (.int .i64 mn) W := by
            intro ts t W
            rw [run_min_int2, hmn]
            congr 2
            split <;> omega
          have hmn' : 0 ≤ mn ∧ mn ≤ 10000 := by omega
          have hltk' : (k : Int) < (is.length : Int) := by omega
          clear huu hmn
          by_cases h5 : 5000 < m + (1 + mn)
          · go_wp2_with fail
            go_ret
            exact ⟨⟨_, rfl⟩, bel_of HBo.out hBy⟩
          · have h5' : m + (1 + mn) ≤ 5000 := by omega
            go_wp2_with fail
            go_roundw
            case rel => exact ⟨k + 1, m + (1 + mn), by omega, by go_num, by go_num, by omega, by omega, hBy⟩
            case measure => simp [intOf]; omega
        · obtain rfl : k = is.length := by omega
          obtain ⟨z0, z1, z2, z3, z4⟩ := (hbox.out.below hBs).zero
          have hBf := bel_of HBo.out hBs
          clear hbox
          by_cases h100 : 100 < j
          · have h100' : (100 : Int) < (j : Int) := by omega
            go_wp2_with fail
            go_ret
            exact ⟨⟨_, rfl⟩, hBf⟩
          · have h100' : (j : Int) ≤ 100 := by omega
            by_cases h2k : 2000 < is.length
            · have h2k' : (2000 : Int) < (is.length : Int) := by omega
              go_wp2_with fail
              go_ret
              exact ⟨⟨_, rfl⟩, hBf⟩
            · have h2k' : (is.length : Int) ≤ 2000 := by omega
              go_wp2_with fail
              go_roundw
              case rel => exact ⟨j + 1, m, by omega, by go_num, rfl, by omega, by omega, hBf⟩
              case measure => simp [intOf]; omega
    · obtain rfl : j = bs.length := by omega
      go_wp2_with fail
      go_ret
      exact ⟨⟨_, rfl⟩, hBr⟩
end Go.Proofs.Ytbgedbahabbanaa
