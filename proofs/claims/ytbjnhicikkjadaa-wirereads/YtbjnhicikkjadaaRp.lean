/- The document's put: a field of an instruction behind bytes. -/
import Derived.Test.YtbjnhicikkjadaaL1
import Derived.Test.YtbjnhicikkjadaaWs
import Derived.Test.YtbjnhicikkjadaaInts
import Derived.Test.YtbjnhicikkjadaaEnds
namespace Go.Proofs.Ytbjnhicikkjadaa
open Go.RowKit Ir Wire

theorem bysnd (w : World) (v : Value) (xs : List Int) (h : Lb.Byt w v xs) : ∃ ao n cap, v = .slice ao n cap := by
  obtain ⟨ao, cap, h⟩ := h.slice
  exact ⟨ao, _, cap, h⟩
theorem fits_of {x : Int} (h : 0 ≤ x ∧ x < 4096) : ∃ m : Nat, x = (m : Int) ∧ Leb.Fits m ∧ nb x = Leb.enc m ∧ m < 4096 := by
  obtain ⟨m, rfl⟩ := Int.eq_ofNat_of_zero_le h.1
  refine ⟨m, rfl, by unfold Leb.Fits; omega, by simp [nb], by omega⟩
set_option maxHeartbeats 1000000 in
set_option maxRecDepth 100000 in
theorem rputO (w : World) (v u : Value) (xs : List Int) (k op d a b n : Int) (ho : Lb.Byt w v xs) (hd : 0 ≤ op ∧ op < 256) (hl : xs.length ≤ 1000000000) :
    Calls Try.prog 64 #[v, .agg #[.int .u8 k, .int .u8 op, .int .i64 d, .int .i64 a, .int .i64 b, .int .i64 n, u], .int .u8 79] w fun e w' => ∃ v', e = .returned v' ∧ Lb.Byt w' v' (xs ++ nb op) ∧ Below w.heap.size w w' := by
  obtain ⟨m, rfl, hf, hm, hmm⟩ := fits_of (x := op) (by omega)
  rw [hm]
  have hb := bel1' w (.cells #[.int .u8 k, .int .u8 (m : Int), .int .i64 d, .int .i64 a, .int .i64 b, .int .i64 n, u] 86)
  have HC := hide (Lb.refPut_any v xs m (w.alloc (.cells #[.int .u8 k, .int .u8 (m : Int), .int .i64 d, .int .i64 a, .int .i64 b, .int .i64 n, u] 86)) (ho.below hb) hl hf)
  obtain ⟨ao, nv, cap, rfl⟩ := bysnd _ _ _ ho
  clear ho hm hd
  go_enter Try.func64, Try.ntmps64
  go_wp2_with fail
  refine HC.out.mono ?_
  rintro e w1 ⟨v1, rfl, h1, hb1⟩
  have hB := bel_of hb hb1
  obtain ⟨ao1, nv1, cap1, rfl⟩ := bysnd _ _ _ h1
  clear HC hb hb1
  go_wp2_with fail
  go_ret
  exact ⟨_, rfl, h1, hB⟩
set_option maxHeartbeats 1000000 in
set_option maxRecDepth 100000 in
theorem rputD (w : World) (v u : Value) (xs : List Int) (k op d a b n : Int) (ho : Lb.Byt w v xs) (hd : 0 ≤ d ∧ d < 4096) (hl : xs.length ≤ 1000000000) :
    Calls Try.prog 64 #[v, .agg #[.int .u8 k, .int .u8 op, .int .i64 d, .int .i64 a, .int .i64 b, .int .i64 n, u], .int .u8 68] w fun e w' => ∃ v', e = .returned v' ∧ Lb.Byt w' v' (xs ++ nb d) ∧ Below w.heap.size w w' := by
  obtain ⟨m, rfl, hf, hm, hmm⟩ := fits_of (x := d) (by omega)
  rw [hm]
  have hb := bel1' w (.cells #[.int .u8 k, .int .u8 op, .int .i64 (m : Int), .int .i64 a, .int .i64 b, .int .i64 n, u] 86)
  have HC := hide (Lb.refPut_any v xs m (w.alloc (.cells #[.int .u8 k, .int .u8 op, .int .i64 (m : Int), .int .i64 a, .int .i64 b, .int .i64 n, u] 86)) (ho.below hb) hl hf)
  obtain ⟨ao, nv, cap, rfl⟩ := bysnd _ _ _ ho
  clear ho hm hd
  go_enter Try.func64, Try.ntmps64
  go_wp2_with fail
  refine HC.out.mono ?_
  rintro e w1 ⟨v1, rfl, h1, hb1⟩
  have hB := bel_of hb hb1
  obtain ⟨ao1, nv1, cap1, rfl⟩ := bysnd _ _ _ h1
  clear HC hb hb1
  go_wp2_with fail
  go_ret
  exact ⟨_, rfl, h1, hB⟩
set_option maxHeartbeats 1000000 in
set_option maxRecDepth 100000 in
theorem rputA (w : World) (v u : Value) (xs : List Int) (k op d a b n : Int) (ho : Lb.Byt w v xs) (hd : 0 ≤ a ∧ a < 4096) (hl : xs.length ≤ 1000000000) :
    Calls Try.prog 64 #[v, .agg #[.int .u8 k, .int .u8 op, .int .i64 d, .int .i64 a, .int .i64 b, .int .i64 n, u], .int .u8 65] w fun e w' => ∃ v', e = .returned v' ∧ Lb.Byt w' v' (xs ++ nb a) ∧ Below w.heap.size w w' := by
  obtain ⟨m, rfl, hf, hm, hmm⟩ := fits_of (x := a) (by omega)
  rw [hm]
  have hb := bel1' w (.cells #[.int .u8 k, .int .u8 op, .int .i64 d, .int .i64 (m : Int), .int .i64 b, .int .i64 n, u] 86)
  have HC := hide (Lb.refPut_any v xs m (w.alloc (.cells #[.int .u8 k, .int .u8 op, .int .i64 d, .int .i64 (m : Int), .int .i64 b, .int .i64 n, u] 86)) (ho.below hb) hl hf)
  obtain ⟨ao, nv, cap, rfl⟩ := bysnd _ _ _ ho
  clear ho hm hd
  go_enter Try.func64, Try.ntmps64
  go_wp2_with fail
  refine HC.out.mono ?_
  rintro e w1 ⟨v1, rfl, h1, hb1⟩
  have hB := bel_of hb hb1
  obtain ⟨ao1, nv1, cap1, rfl⟩ := bysnd _ _ _ h1
  clear HC hb hb1
  go_wp2_with fail
  go_ret
  exact ⟨_, rfl, h1, hB⟩
set_option maxHeartbeats 1000000 in
set_option maxRecDepth 100000 in
theorem rputB (w : World) (v u : Value) (xs : List Int) (k op d a b n : Int) (ho : Lb.Byt w v xs) (hd : 0 ≤ b ∧ b < 4096) (hl : xs.length ≤ 1000000000) :
    Calls Try.prog 64 #[v, .agg #[.int .u8 k, .int .u8 op, .int .i64 d, .int .i64 a, .int .i64 b, .int .i64 n, u], .int .u8 66] w fun e w' => ∃ v', e = .returned v' ∧ Lb.Byt w' v' (xs ++ nb b) ∧ Below w.heap.size w w' := by
  obtain ⟨m, rfl, hf, hm, hmm⟩ := fits_of (x := b) (by omega)
  rw [hm]
  have hb := bel1' w (.cells #[.int .u8 k, .int .u8 op, .int .i64 d, .int .i64 a, .int .i64 (m : Int), .int .i64 n, u] 86)
  have HC := hide (Lb.refPut_any v xs m (w.alloc (.cells #[.int .u8 k, .int .u8 op, .int .i64 d, .int .i64 a, .int .i64 (m : Int), .int .i64 n, u] 86)) (ho.below hb) hl hf)
  obtain ⟨ao, nv, cap, rfl⟩ := bysnd _ _ _ ho
  clear ho hm hd
  go_enter Try.func64, Try.ntmps64
  go_wp2_with fail
  refine HC.out.mono ?_
  rintro e w1 ⟨v1, rfl, h1, hb1⟩
  have hB := bel_of hb hb1
  obtain ⟨ao1, nv1, cap1, rfl⟩ := bysnd _ _ _ h1
  clear HC hb hb1
  go_wp2_with fail
  go_ret
  exact ⟨_, rfl, h1, hB⟩
set_option maxHeartbeats 1000000 in
set_option maxRecDepth 100000 in
theorem rputN (w : World) (v u : Value) (xs : List Int) (k op d a b n : Int) (ho : Lb.Byt w v xs) (h1 : -9223372036854775808 ≤ n) (h2 : n ≤ 9223372036854775807) (hl : xs.length ≤ 1000000000) :
    Calls Try.prog 64 #[v, .agg #[.int .u8 k, .int .u8 op, .int .i64 d, .int .i64 a, .int .i64 b, .int .i64 n, u], .int .u8 78] w fun e w' => ∃ v', e = .returned v' ∧ Lb.Byt w' v' (xs ++ Leb.enc (Leb.zig n)) ∧ Below w.heap.size w w' := by
  have hb := bel1' w (.cells #[.int .u8 k, .int .u8 op, .int .i64 d, .int .i64 a, .int .i64 b, .int .i64 n, u] 86)
  have HZ := hide (Lb.refZig_any n (w.alloc (.cells #[.int .u8 k, .int .u8 op, .int .i64 d, .int .i64 a, .int .i64 b, .int .i64 n, u] 86)) h1 h2)
  have HC := hide (Lb.refPut_any v xs (Leb.zig n) (w.alloc (.cells #[.int .u8 k, .int .u8 op, .int .i64 d, .int .i64 a, .int .i64 b, .int .i64 n, u] 86)) (ho.below hb) hl (Leb.zig_lt h1 h2))
  obtain ⟨ao, nv, cap, rfl⟩ := bysnd _ _ _ ho
  clear ho h1 h2
  go_enter Try.func64, Try.ntmps64
  go_wp2_with fail
  refine HZ.out.mono ?_
  rintro e w1 ⟨rfl, rfl⟩
  go_wp2_with fail
  refine HC.out.mono ?_
  rintro e w1 ⟨v1, rfl, h1, hb1⟩
  have hB := bel_of hb hb1
  obtain ⟨ao1, nv1, cap1, rfl⟩ := bysnd _ _ _ h1
  clear HC HZ hb hb1
  go_wp2_with fail
  go_ret
  exact ⟨_, rfl, h1, hB⟩
theorem nbs_snoc' {ns : List Int} {k : Nat} (h : k < ns.length) : (ns.take (k + 1)).flatMap nb = (ns.take k).flatMap nb ++ nb (ns.getD k 0) := by
  rw [List.take_succ_eq_append_getElem h, List.flatMap_append]; simp [List.getElem?_eq_getElem h]
theorem nbs_len' : ∀ (l : List Int), (∀ x ∈ l, 0 ≤ x ∧ x < 4096) → (l.flatMap nb).length ≤ 10 * l.length
  | [], _ => by simp
  | x :: l, h => by
    have h1 := nbs_len' l (fun y hy => h y (by simp [hy]))
    have hx := h x (by simp)
    have h2 : (nb x).length ≤ 10 := Leb.enc_len10 (by omega)
    rw [List.flatMap_cons, List.length_append, List.length_cons]; omega
set_option maxHeartbeats 1000000 in
set_option maxRecDepth 100000 in
theorem rputR (w : World) (v u : Value) (xs args : List Int) (k op d a b n : Int) (ho : Lb.Byt w v xs) (hu : IntsV w u args) (hal : args.length < 4) (ha : ∀ x ∈ args, 0 ≤ x ∧ x < 4096) (hl : xs.length ≤ 900000000) :
    Calls Try.prog 64 #[v, .agg #[.int .u8 k, .int .u8 op, .int .i64 d, .int .i64 a, .int .i64 b, .int .i64 n, u], .int .u8 82] w fun e w' => ∃ v', e = .returned v' ∧ Lb.Byt w' v' (xs ++ (Leb.enc args.length ++ args.flatMap nb)) ∧ Below w.heap.size w w' := by
  obtain ⟨au, cu, rfl⟩ := hu.slice
  have hb := bel1' w (.cells #[.int .u8 k, .int .u8 op, .int .i64 d, .int .i64 a, .int .i64 b, .int .i64 n, .slice au args.length cu] 86)
  have HC := hide (Lb.refPut_any v xs args.length (w.alloc (.cells #[.int .u8 k, .int .u8 op, .int .i64 d, .int .i64 a, .int .i64 b, .int .i64 n, .slice au args.length cu] 86)) (ho.below hb) (by omega) (by unfold Leb.Fits; omega))
  have HX := hide (fun W (h : Below (w.alloc (.cells #[.int .u8 k, .int .u8 op, .int .i64 d, .int .i64 a, .int .i64 b, .int .i64 n, .slice au args.length cu] 86)).heap.size (w.alloc (.cells #[.int .u8 k, .int .u8 op, .int .i64 d, .int .i64 a, .int .i64 b, .int .i64 n, .slice au args.length cu] 86)) W) => box_cell h 6 rfl)
  obtain ⟨ao, nv, cap, rfl⟩ := bysnd _ _ _ ho
  clear ho
  go_enter Try.func64, Try.ntmps64
  go_wp2_with fail
  refine HC.out.mono ?_
  rintro e w1 ⟨v1, rfl, h1, hb1⟩
  obtain ⟨ao1, nv1, cap1, rfl⟩ := bysnd _ _ _ h1
  clear HC
  obtain ⟨ys, hys⟩ : ∃ ys, ys = xs ++ Leb.enc args.length := ⟨_, rfl⟩
  have hyl : Hid (ys.length ≤ 900000010) := by
    have := Leb.enc_len10 (n := args.length) (by omega)
    show _ ≤ _
    rw [hys, List.length_append]; omega
  rw [← hys] at h1
  have e1 : Hid (xs ++ (Leb.enc args.length ++ args.flatMap nb) = ys ++ args.flatMap nb) := by show _ = _; rw [hys, List.append_assoc]
  clear hys
  go_wp2_with fail
  go_loopw [0, 7] (fun bv iv wr => ∃ j : Nat, j ≤ args.length ∧ iv = .int .i64 j ∧ Lb.Byt wr bv (ys ++ (args.take j).flatMap nb) ∧ Below (w.alloc (.cells #[.int .u8 k, .int .u8 op, .int .i64 d, .int .i64 a, .int .i64 b, .int .i64 n, .slice au args.length cu] 86)).heap.size (w.alloc (.cells #[.int .u8 k, .int .u8 op, .int .i64 d, .int .i64 a, .int .i64 b, .int .i64 n, .slice au args.length cu] 86)) wr) (fun _ iv _ => args.length - (intOf iv).toNat)
  case atStart => exact ⟨0, by omega, rfl, by simpa using h1, hb1⟩
  case round =>
    obtain ⟨j, hj, rfl, hO, hB⟩ := hrel
    have c6 := HX.out _ hB
    obtain ⟨ao2, nv2, cap2, rfl⟩ := bysnd _ _ _ hO
    by_cases hlt : j < args.length
    · obtain ⟨gu, ou, rfl, hcu⟩ := ((hu.below hb).below hB).at j hlt
      obtain ⟨m, hm, hf, hnb, hmm⟩ := fits_of (ha (args.getD j 0) (by simp [List.getElem?_eq_getElem hlt]))
      have HS := hide (nbs_snoc' hlt)
      have hlen := hide (nbs_len' (args.take j) (fun y hy => ha y (List.mem_of_mem_take hy)))
      have HC := hide (Lb.refPut_any (.slice ao2 nv2 cap2) _ m wr hO (by have := hlen.out; have := hyl.out; rw [List.length_append]; rw [List.length_take] at *; omega) hf)
      rw [hm] at hcu
      have HM := hide hm
      have HN := hide hnb
      clear hm hnb hlen
      go_wp2_with fail
      refine HC.out.mono ?_
      rintro e w2 ⟨v2, rfl, h2, hb2⟩
      have hB2 := hB.trans (hb2.mono hB.size)
      have h3 : Lb.Byt w2 v2 (ys ++ (args.take (j + 1)).flatMap nb) := by
        rw [HS.out, HN.out, ← List.append_assoc]
        exact h2
      clear HC h2 hb2 hB hO HS HM HN hcu c6
      go_wp2_with fail
      go_roundw
      case rel => exact ⟨j + 1, by omega, by go_num, h3, hB2⟩
      case measure => simp [intOf]; omega
    · obtain rfl : j = args.length := by omega
      rw [List.take_length] at hO
      go_wp2_with fail
      go_ret
      rw [e1.out]
      exact ⟨_, rfl, hO, bel_of hb hB⟩
end Go.Proofs.Ytbjnhicikkjadaa
