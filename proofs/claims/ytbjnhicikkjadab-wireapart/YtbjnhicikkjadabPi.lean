/- wire's putIns and putEnd: an instruction, an end behind bytes. -/
import Derived.Test.YtbjnhicikkjadabPw
import Derived.Test.YtbjnhicikkjadabInts
namespace Go.Proofs.Ytbjnhicikkjadab
open Go.RowKit Ir Wire

/-- Numbers that the call itself has laid. -/
theorem lit_ints {B g : Nat} {w : World} {cs : Array Value} {n : Nat} (l : List Int) (hg : g = w.heap.size) (hc : cs = (l.map (Value.int .i64)).toArray) (hn : n = l.length) (hm : l.length ≤ 10) : ∀ w', Put B (w.alloc (.cells cs 3)) w' → IntsV w' (.slice (some ⟨g, 0, none⟩) n n) l := by
  subst hc hn hg
  intro w' h
  refine ⟨_, _, rfl, Nat.le_refl _, by unfold maxLen; omega, fun e => by simp at e, fun _ => ⟨_, 0, rfl, fun j hj => ?_⟩⟩
  have h1 := h.keep w.heap.size _ 3 (0, 0) rfl (heap_alloc_new w (.cells (l.map (Value.int .i64)).toArray 3))
  show w'.cell? _ = _
  rw [cell_of_row _ _ _ _ _ _ h1]
  simp [List.getElem?_eq_getElem hj]
theorem Put.alloc {B : Nat} {w w' : World} (h : Put B w w') (hB : B ≤ w.heap.size) (o : Obj) : Put B w (w'.alloc o) := h.trans (Put.below (bel1' _ _) (Nat.le_trans hB h.le))
theorem Put.to {B : Nat} {w w' : World} (h : Put B w w') (hB : B ≤ w.heap.size) : B ≤ w'.heap.size := Nat.le_trans hB h.le
theorem Out.sl {B : Nat} {w : World} {v : Value} {xs : List Int} (h : Out B w v xs) : ∃ ao n cap, v = .slice ao n cap := by
  obtain ⟨ao, cap, h⟩ := h.slice
  exact ⟨ao, _, cap, h⟩
theorem Out.alloc {B : Nat} {w : World} {v : Value} {xs : List Int} (h : Out B w v xs) (o : Obj) : Out B (w.alloc o) v xs := h.below (bel1' _ _)
theorem ins_box {B : Nat} {w W : World} {a0 a1 a2 a3 a4 a5 a6 : Value} (h : Put B (w.alloc (.cells #[a0, a1, a2, a3, a4, a5, a6] 49)) W) : W.cell? ⟨w.heap.size, 0, none⟩ = some a0 ∧ W.cell? ⟨w.heap.size, 1, none⟩ = some a1 ∧ W.cell? ⟨w.heap.size, 2, none⟩ = some a2 ∧ W.cell? ⟨w.heap.size, 3, none⟩ = some a3 ∧ W.cell? ⟨w.heap.size, 4, none⟩ = some a4 ∧ W.cell? ⟨w.heap.size, 5, none⟩ = some a5 ∧ W.cell? ⟨w.heap.size, 6, none⟩ = some a6 := by
  have h1 := h.keep w.heap.size _ 49 (0, 0) rfl (heap_alloc_new w (.cells #[a0, a1, a2, a3, a4, a5, a6] 49))
  refine ⟨?_, ?_, ?_, ?_, ?_, ?_, ?_⟩ <;> (rw [cell_of_row _ _ _ _ _ _ h1]; rfl)
theorem end_box {B : Nat} {w W : World} {a0 a1 a2 a3 : Value} (h : Put B (w.alloc (.cells #[a0, a1, a2, a3] 37)) W) : W.cell? ⟨w.heap.size, 0, none⟩ = some a0 ∧ W.cell? ⟨w.heap.size, 1, none⟩ = some a1 ∧ W.cell? ⟨w.heap.size, 2, none⟩ = some a2 ∧ W.cell? ⟨w.heap.size, 3, none⟩ = some a3 := by
  have h1 := h.keep w.heap.size _ 37 (0, 0) rfl (heap_alloc_new w (.cells #[a0, a1, a2, a3] 37))
  refine ⟨?_, ?_, ?_, ?_⟩ <;> (rw [cell_of_row _ _ _ _ _ _ h1]; rfl)
theorem app_len {xs ns : List Int} {a : Nat} (h : xs.length ≤ a) (hn : ∀ x ∈ ns, 0 ≤ x ∧ x < 9223372036854775808) : (xs ++ ns.flatMap nb).length ≤ a + 10 * ns.length := by
  have := nbs_len ns hn
  rw [List.length_append]
  omega
theorem app_len1 {xs : List Int} {a : Nat} {i : Int} (h : xs.length ≤ a) (h1 : -9223372036854775808 ≤ i) (h2 : i ≤ 9223372036854775807) : (xs ++ Leb.enc (Leb.zig i)).length ≤ a + 10 := by
  have := Leb.enc_len10 (Leb.zig_lt h1 h2)
  rw [List.length_append]
  omega
set_option maxHeartbeats 1000000 in
set_option maxRecDepth 100000 in
theorem putI1 (B : Nat) (w : World) (v : Value) (xs : List Int) (d n : Int) (u : Value) (ho : Out B w v xs) (hB : B ≤ w.heap.size) (hd : 0 ≤ d ∧ d < 4096) (hn1 : -9223372036854775808 ≤ n) (hn2 : n ≤ 9223372036854775807) (hl : xs.length ≤ 900000000) :
    Calls Try.prog 16 #[v, .agg #[.int .u8 1, .int .u8 0, .int .i64 d, .int .i64 0, .int .i64 0, .int .i64 n, u]] w fun e w' => ∃ v', e = .returned v' ∧ Out B w' v' (xs ++ insB (⟨1, 0, d, 0, 0, n, []⟩ : Ins)) ∧ Put B w w' := by
  obtain ⟨ao, nv, cap, rfl⟩ := ho.sl
  have hP0 := Put.alloc (Put.refl B w) hB (.cells #[.int .u8 1, .int .u8 0, .int .i64 d, .int .i64 0, .int .i64 0, .int .i64 n, u] 49)
  have HX := hide (fun W (h : Put B (w.alloc (.cells #[.int .u8 1, .int .u8 0, .int .i64 d, .int .i64 0, .int .i64 0, .int .i64 n, u] 49)) W) => ins_box h)
  have hO := ho.alloc (.cells #[.int .u8 1, .int .u8 0, .int .i64 d, .int .i64 0, .int .i64 0, .int .i64 n, u] 49)
  have hB0 := hP0.to hB
  have hQ := Put.refl B (w.alloc (.cells #[.int .u8 1, .int .u8 0, .int .i64 d, .int .i64 0, .int .i64 0, .int .i64 n, u] 49))
  have hlen := hide hl
  clear hl ho
  have HN1 := hide hn1
  clear hn1
  have HN2 := hide hn2
  clear hn2
  go_enter Try.func16, Try.ntmps16
  go_wp2_with fail
  refine (wput_any B _ _ _ _ [1] (hO.alloc _) (by simp; omega) (lit_ints [1] (by simp) rfl rfl (by simp)) (by simp) (by have := hlen.out; simp at this ⊢; omega)).mono ?_
  rintro e w1 ⟨v1, rfl, hO1, hR⟩
  have hQ1 := hQ.trans ((Put.alloc (Put.refl B _) (by omega) _).trans hR)
  have hlen := hide (app_len (ns := [1]) hlen.out (by simp))
  clear hR hQ hO
  have hQ := hQ1
  have hO := hO1
  clear hQ1 hO1
  have hB1 := hQ.to hB0
  obtain ⟨h0, h1, h2, h3, h4, h5, h6⟩ := HX.out _ hQ
  obtain ⟨ao1, nv1, cap1, rfl⟩ := hO.sl
  go_wp2_with fail
  refine (wput_any B _ _ _ _ [d] (hO.alloc _) (by simp; omega) (lit_ints [d] (by simp) rfl rfl (by simp)) (by simp; omega) (by have := hlen.out; simp at this ⊢; omega)).mono ?_
  rintro e w2 ⟨v2, rfl, hO2, hR⟩
  have hQ2 := hQ.trans ((Put.alloc (Put.refl B _) (by omega) _).trans hR)
  have hlen := hide (app_len (ns := [d]) hlen.out (by simp; omega))
  clear hR hQ hO h0 h1 h2 h3 h4 h5 h6
  have hQ := hQ2
  have hO := hO2
  clear hQ2 hO2
  have hB2 := hQ.to hB0
  clear hB1
  obtain ⟨h0, h1, h2, h3, h4, h5, h6⟩ := HX.out _ hQ
  obtain ⟨ao2, nv2, cap2, rfl⟩ := hO.sl
  go_wp2_with fail
  refine (wputInt_any B _ _ _ _ hO (by omega) HN1.out HN2.out (by have := hlen.out; simp at this ⊢; omega)).mono ?_
  rintro e w3 ⟨v3, rfl, hO3, hR⟩
  have hQ3 := hQ.trans hR
  have hlen := hide (app_len1 hlen.out HN1.out HN2.out)
  clear hR hQ hO h0 h1 h2 h3 h4 h5 h6
  have hQ := hQ3
  have hO := hO3
  clear hQ3 hO3
  have hB3 := hQ.to hB0
  clear hB2
  obtain ⟨h0, h1, h2, h3, h4, h5, h6⟩ := HX.out _ hQ
  obtain ⟨ao3, nv3, cap3, rfl⟩ := hO.sl
  go_wp2_with fail
  go_ret
  refine ⟨_, rfl, ?_, hP0.trans hQ⟩
  have e : xs ++ insB (⟨1, 0, d, 0, 0, n, []⟩ : Ins) = (((xs ++ [1].flatMap nb) ++ [d].flatMap nb) ++ Leb.enc (Leb.zig n)) := by simp [insB]
  rw [e]
  exact hO
set_option maxHeartbeats 1000000 in
set_option maxRecDepth 100000 in
theorem putI2 (B : Nat) (w : World) (v : Value) (xs : List Int) (d a : Int) (u : Value) (ho : Out B w v xs) (hB : B ≤ w.heap.size) (hd : 0 ≤ d ∧ d < 4096) (ha : 0 ≤ a ∧ a < 4096) (hl : xs.length ≤ 900000000) :
    Calls Try.prog 16 #[v, .agg #[.int .u8 2, .int .u8 0, .int .i64 d, .int .i64 a, .int .i64 0, .int .i64 0, u]] w fun e w' => ∃ v', e = .returned v' ∧ Out B w' v' (xs ++ insB (⟨2, 0, d, a, 0, 0, []⟩ : Ins)) ∧ Put B w w' := by
  obtain ⟨ao, nv, cap, rfl⟩ := ho.sl
  have hP0 := Put.alloc (Put.refl B w) hB (.cells #[.int .u8 2, .int .u8 0, .int .i64 d, .int .i64 a, .int .i64 0, .int .i64 0, u] 49)
  have HX := hide (fun W (h : Put B (w.alloc (.cells #[.int .u8 2, .int .u8 0, .int .i64 d, .int .i64 a, .int .i64 0, .int .i64 0, u] 49)) W) => ins_box h)
  have hO := ho.alloc (.cells #[.int .u8 2, .int .u8 0, .int .i64 d, .int .i64 a, .int .i64 0, .int .i64 0, u] 49)
  have hB0 := hP0.to hB
  have hQ := Put.refl B (w.alloc (.cells #[.int .u8 2, .int .u8 0, .int .i64 d, .int .i64 a, .int .i64 0, .int .i64 0, u] 49))
  have hlen := hide hl
  clear hl ho
  go_enter Try.func16, Try.ntmps16
  go_wp2_with fail
  refine (wput_any B _ _ _ _ [2] (hO.alloc _) (by simp; omega) (lit_ints [2] (by simp) rfl rfl (by simp)) (by simp) (by have := hlen.out; simp at this ⊢; omega)).mono ?_
  rintro e w1 ⟨v1, rfl, hO1, hR⟩
  have hQ1 := hQ.trans ((Put.alloc (Put.refl B _) (by omega) _).trans hR)
  have hlen := hide (app_len (ns := [2]) hlen.out (by simp))
  clear hR hQ hO
  have hQ := hQ1
  have hO := hO1
  clear hQ1 hO1
  have hB1 := hQ.to hB0
  obtain ⟨h0, h1, h2, h3, h4, h5, h6⟩ := HX.out _ hQ
  obtain ⟨ao1, nv1, cap1, rfl⟩ := hO.sl
  go_wp2_with fail
  refine (wput_any B _ _ _ _ [d, a] (hO.alloc _) (by simp; omega) (lit_ints [d, a] (by simp) rfl rfl (by simp)) (by simp; omega) (by have := hlen.out; simp at this ⊢; omega)).mono ?_
  rintro e w2 ⟨v2, rfl, hO2, hR⟩
  have hQ2 := hQ.trans ((Put.alloc (Put.refl B _) (by omega) _).trans hR)
  have hlen := hide (app_len (ns := [d, a]) hlen.out (by simp; omega))
  clear hR hQ hO h0 h1 h2 h3 h4 h5 h6
  have hQ := hQ2
  have hO := hO2
  clear hQ2 hO2
  have hB2 := hQ.to hB0
  clear hB1
  obtain ⟨h0, h1, h2, h3, h4, h5, h6⟩ := HX.out _ hQ
  obtain ⟨ao2, nv2, cap2, rfl⟩ := hO.sl
  go_wp2_with fail
  go_ret
  refine ⟨_, rfl, ?_, hP0.trans hQ⟩
  have e : xs ++ insB (⟨2, 0, d, a, 0, 0, []⟩ : Ins) = ((xs ++ [2].flatMap nb) ++ [d, a].flatMap nb) := by simp [insB]
  rw [e]
  exact hO
set_option maxHeartbeats 1000000 in
set_option maxRecDepth 100000 in
theorem putI4 (B : Nat) (w : World) (v : Value) (xs : List Int) (d a : Int) (u : Value) (ho : Out B w v xs) (hB : B ≤ w.heap.size) (hd : 0 ≤ d ∧ d < 4096) (ha : 0 ≤ a ∧ a < 4096) (hl : xs.length ≤ 900000000) :
    Calls Try.prog 16 #[v, .agg #[.int .u8 4, .int .u8 0, .int .i64 d, .int .i64 a, .int .i64 0, .int .i64 0, u]] w fun e w' => ∃ v', e = .returned v' ∧ Out B w' v' (xs ++ insB (⟨4, 0, d, a, 0, 0, []⟩ : Ins)) ∧ Put B w w' := by
  obtain ⟨ao, nv, cap, rfl⟩ := ho.sl
  have hP0 := Put.alloc (Put.refl B w) hB (.cells #[.int .u8 4, .int .u8 0, .int .i64 d, .int .i64 a, .int .i64 0, .int .i64 0, u] 49)
  have HX := hide (fun W (h : Put B (w.alloc (.cells #[.int .u8 4, .int .u8 0, .int .i64 d, .int .i64 a, .int .i64 0, .int .i64 0, u] 49)) W) => ins_box h)
  have hO := ho.alloc (.cells #[.int .u8 4, .int .u8 0, .int .i64 d, .int .i64 a, .int .i64 0, .int .i64 0, u] 49)
  have hB0 := hP0.to hB
  have hQ := Put.refl B (w.alloc (.cells #[.int .u8 4, .int .u8 0, .int .i64 d, .int .i64 a, .int .i64 0, .int .i64 0, u] 49))
  have hlen := hide hl
  clear hl ho
  go_enter Try.func16, Try.ntmps16
  go_wp2_with fail
  refine (wput_any B _ _ _ _ [4] (hO.alloc _) (by simp; omega) (lit_ints [4] (by simp) rfl rfl (by simp)) (by simp) (by have := hlen.out; simp at this ⊢; omega)).mono ?_
  rintro e w1 ⟨v1, rfl, hO1, hR⟩
  have hQ1 := hQ.trans ((Put.alloc (Put.refl B _) (by omega) _).trans hR)
  have hlen := hide (app_len (ns := [4]) hlen.out (by simp))
  clear hR hQ hO
  have hQ := hQ1
  have hO := hO1
  clear hQ1 hO1
  have hB1 := hQ.to hB0
  obtain ⟨h0, h1, h2, h3, h4, h5, h6⟩ := HX.out _ hQ
  obtain ⟨ao1, nv1, cap1, rfl⟩ := hO.sl
  go_wp2_with fail
  refine (wput_any B _ _ _ _ [d, a] (hO.alloc _) (by simp; omega) (lit_ints [d, a] (by simp) rfl rfl (by simp)) (by simp; omega) (by have := hlen.out; simp at this ⊢; omega)).mono ?_
  rintro e w2 ⟨v2, rfl, hO2, hR⟩
  have hQ2 := hQ.trans ((Put.alloc (Put.refl B _) (by omega) _).trans hR)
  have hlen := hide (app_len (ns := [d, a]) hlen.out (by simp; omega))
  clear hR hQ hO h0 h1 h2 h3 h4 h5 h6
  have hQ := hQ2
  have hO := hO2
  clear hQ2 hO2
  have hB2 := hQ.to hB0
  clear hB1
  obtain ⟨h0, h1, h2, h3, h4, h5, h6⟩ := HX.out _ hQ
  obtain ⟨ao2, nv2, cap2, rfl⟩ := hO.sl
  go_wp2_with fail
  go_ret
  refine ⟨_, rfl, ?_, hP0.trans hQ⟩
  have e : xs ++ insB (⟨4, 0, d, a, 0, 0, []⟩ : Ins) = ((xs ++ [4].flatMap nb) ++ [d, a].flatMap nb) := by simp [insB]
  rw [e]
  exact hO
set_option maxHeartbeats 1000000 in
set_option maxRecDepth 100000 in
theorem putI7 (B : Nat) (w : World) (v : Value) (xs : List Int) (d a : Int) (u : Value) (ho : Out B w v xs) (hB : B ≤ w.heap.size) (hd : 0 ≤ d ∧ d < 4096) (ha : 0 ≤ a ∧ a < 4096) (hl : xs.length ≤ 900000000) :
    Calls Try.prog 16 #[v, .agg #[.int .u8 7, .int .u8 0, .int .i64 d, .int .i64 a, .int .i64 0, .int .i64 0, u]] w fun e w' => ∃ v', e = .returned v' ∧ Out B w' v' (xs ++ insB (⟨7, 0, d, a, 0, 0, []⟩ : Ins)) ∧ Put B w w' := by
  obtain ⟨ao, nv, cap, rfl⟩ := ho.sl
  have hP0 := Put.alloc (Put.refl B w) hB (.cells #[.int .u8 7, .int .u8 0, .int .i64 d, .int .i64 a, .int .i64 0, .int .i64 0, u] 49)
  have HX := hide (fun W (h : Put B (w.alloc (.cells #[.int .u8 7, .int .u8 0, .int .i64 d, .int .i64 a, .int .i64 0, .int .i64 0, u] 49)) W) => ins_box h)
  have hO := ho.alloc (.cells #[.int .u8 7, .int .u8 0, .int .i64 d, .int .i64 a, .int .i64 0, .int .i64 0, u] 49)
  have hB0 := hP0.to hB
  have hQ := Put.refl B (w.alloc (.cells #[.int .u8 7, .int .u8 0, .int .i64 d, .int .i64 a, .int .i64 0, .int .i64 0, u] 49))
  have hlen := hide hl
  clear hl ho
  go_enter Try.func16, Try.ntmps16
  go_wp2_with fail
  refine (wput_any B _ _ _ _ [7] (hO.alloc _) (by simp; omega) (lit_ints [7] (by simp) rfl rfl (by simp)) (by simp) (by have := hlen.out; simp at this ⊢; omega)).mono ?_
  rintro e w1 ⟨v1, rfl, hO1, hR⟩
  have hQ1 := hQ.trans ((Put.alloc (Put.refl B _) (by omega) _).trans hR)
  have hlen := hide (app_len (ns := [7]) hlen.out (by simp))
  clear hR hQ hO
  have hQ := hQ1
  have hO := hO1
  clear hQ1 hO1
  have hB1 := hQ.to hB0
  obtain ⟨h0, h1, h2, h3, h4, h5, h6⟩ := HX.out _ hQ
  obtain ⟨ao1, nv1, cap1, rfl⟩ := hO.sl
  go_wp2_with fail
  refine (wput_any B _ _ _ _ [d, a] (hO.alloc _) (by simp; omega) (lit_ints [d, a] (by simp) rfl rfl (by simp)) (by simp; omega) (by have := hlen.out; simp at this ⊢; omega)).mono ?_
  rintro e w2 ⟨v2, rfl, hO2, hR⟩
  have hQ2 := hQ.trans ((Put.alloc (Put.refl B _) (by omega) _).trans hR)
  have hlen := hide (app_len (ns := [d, a]) hlen.out (by simp; omega))
  clear hR hQ hO h0 h1 h2 h3 h4 h5 h6
  have hQ := hQ2
  have hO := hO2
  clear hQ2 hO2
  have hB2 := hQ.to hB0
  clear hB1
  obtain ⟨h0, h1, h2, h3, h4, h5, h6⟩ := HX.out _ hQ
  obtain ⟨ao2, nv2, cap2, rfl⟩ := hO.sl
  go_wp2_with fail
  go_ret
  refine ⟨_, rfl, ?_, hP0.trans hQ⟩
  have e : xs ++ insB (⟨7, 0, d, a, 0, 0, []⟩ : Ins) = ((xs ++ [7].flatMap nb) ++ [d, a].flatMap nb) := by simp [insB]
  rw [e]
  exact hO
set_option maxHeartbeats 1000000 in
set_option maxRecDepth 100000 in
theorem putI8 (B : Nat) (w : World) (v : Value) (xs : List Int) (d a : Int) (u : Value) (ho : Out B w v xs) (hB : B ≤ w.heap.size) (hd : 0 ≤ d ∧ d < 4096) (ha : 0 ≤ a ∧ a < 4096) (hl : xs.length ≤ 900000000) :
    Calls Try.prog 16 #[v, .agg #[.int .u8 8, .int .u8 0, .int .i64 d, .int .i64 a, .int .i64 0, .int .i64 0, u]] w fun e w' => ∃ v', e = .returned v' ∧ Out B w' v' (xs ++ insB (⟨8, 0, d, a, 0, 0, []⟩ : Ins)) ∧ Put B w w' := by
  obtain ⟨ao, nv, cap, rfl⟩ := ho.sl
  have hP0 := Put.alloc (Put.refl B w) hB (.cells #[.int .u8 8, .int .u8 0, .int .i64 d, .int .i64 a, .int .i64 0, .int .i64 0, u] 49)
  have HX := hide (fun W (h : Put B (w.alloc (.cells #[.int .u8 8, .int .u8 0, .int .i64 d, .int .i64 a, .int .i64 0, .int .i64 0, u] 49)) W) => ins_box h)
  have hO := ho.alloc (.cells #[.int .u8 8, .int .u8 0, .int .i64 d, .int .i64 a, .int .i64 0, .int .i64 0, u] 49)
  have hB0 := hP0.to hB
  have hQ := Put.refl B (w.alloc (.cells #[.int .u8 8, .int .u8 0, .int .i64 d, .int .i64 a, .int .i64 0, .int .i64 0, u] 49))
  have hlen := hide hl
  clear hl ho
  go_enter Try.func16, Try.ntmps16
  go_wp2_with fail
  refine (wput_any B _ _ _ _ [8] (hO.alloc _) (by simp; omega) (lit_ints [8] (by simp) rfl rfl (by simp)) (by simp) (by have := hlen.out; simp at this ⊢; omega)).mono ?_
  rintro e w1 ⟨v1, rfl, hO1, hR⟩
  have hQ1 := hQ.trans ((Put.alloc (Put.refl B _) (by omega) _).trans hR)
  have hlen := hide (app_len (ns := [8]) hlen.out (by simp))
  clear hR hQ hO
  have hQ := hQ1
  have hO := hO1
  clear hQ1 hO1
  have hB1 := hQ.to hB0
  obtain ⟨h0, h1, h2, h3, h4, h5, h6⟩ := HX.out _ hQ
  obtain ⟨ao1, nv1, cap1, rfl⟩ := hO.sl
  go_wp2_with fail
  refine (wput_any B _ _ _ _ [d, a] (hO.alloc _) (by simp; omega) (lit_ints [d, a] (by simp) rfl rfl (by simp)) (by simp; omega) (by have := hlen.out; simp at this ⊢; omega)).mono ?_
  rintro e w2 ⟨v2, rfl, hO2, hR⟩
  have hQ2 := hQ.trans ((Put.alloc (Put.refl B _) (by omega) _).trans hR)
  have hlen := hide (app_len (ns := [d, a]) hlen.out (by simp; omega))
  clear hR hQ hO h0 h1 h2 h3 h4 h5 h6
  have hQ := hQ2
  have hO := hO2
  clear hQ2 hO2
  have hB2 := hQ.to hB0
  clear hB1
  obtain ⟨h0, h1, h2, h3, h4, h5, h6⟩ := HX.out _ hQ
  obtain ⟨ao2, nv2, cap2, rfl⟩ := hO.sl
  go_wp2_with fail
  go_ret
  refine ⟨_, rfl, ?_, hP0.trans hQ⟩
  have e : xs ++ insB (⟨8, 0, d, a, 0, 0, []⟩ : Ins) = ((xs ++ [8].flatMap nb) ++ [d, a].flatMap nb) := by simp [insB]
  rw [e]
  exact hO
set_option maxHeartbeats 1000000 in
set_option maxRecDepth 100000 in
theorem putI3 (B : Nat) (w : World) (v : Value) (xs : List Int) (op d a b : Int) (u : Value) (ho : Out B w v xs) (hB : B ≤ w.heap.size) (hop : 0 ≤ op ∧ op < 256) (hd : 0 ≤ d ∧ d < 4096) (ha : 0 ≤ a ∧ a < 4096) (hb : 0 ≤ b ∧ b < 4096) (hl : xs.length ≤ 900000000) :
    Calls Try.prog 16 #[v, .agg #[.int .u8 3, .int .u8 op, .int .i64 d, .int .i64 a, .int .i64 b, .int .i64 0, u]] w fun e w' => ∃ v', e = .returned v' ∧ Out B w' v' (xs ++ insB (⟨3, op, d, a, b, 0, []⟩ : Ins)) ∧ Put B w w' := by
  obtain ⟨ao, nv, cap, rfl⟩ := ho.sl
  have hP0 := Put.alloc (Put.refl B w) hB (.cells #[.int .u8 3, .int .u8 op, .int .i64 d, .int .i64 a, .int .i64 b, .int .i64 0, u] 49)
  have HX := hide (fun W (h : Put B (w.alloc (.cells #[.int .u8 3, .int .u8 op, .int .i64 d, .int .i64 a, .int .i64 b, .int .i64 0, u] 49)) W) => ins_box h)
  have hO := ho.alloc (.cells #[.int .u8 3, .int .u8 op, .int .i64 d, .int .i64 a, .int .i64 b, .int .i64 0, u] 49)
  have hB0 := hP0.to hB
  have hQ := Put.refl B (w.alloc (.cells #[.int .u8 3, .int .u8 op, .int .i64 d, .int .i64 a, .int .i64 b, .int .i64 0, u] 49))
  have hlen := hide hl
  clear hl ho
  go_enter Try.func16, Try.ntmps16
  go_wp2_with fail
  refine (wput_any B _ _ _ _ [3] (hO.alloc _) (by simp; omega) (lit_ints [3] (by simp) rfl rfl (by simp)) (by simp) (by have := hlen.out; simp at this ⊢; omega)).mono ?_
  rintro e w1 ⟨v1, rfl, hO1, hR⟩
  have hQ1 := hQ.trans ((Put.alloc (Put.refl B _) (by omega) _).trans hR)
  have hlen := hide (app_len (ns := [3]) hlen.out (by simp))
  clear hR hQ hO
  have hQ := hQ1
  have hO := hO1
  clear hQ1 hO1
  have hB1 := hQ.to hB0
  obtain ⟨h0, h1, h2, h3, h4, h5, h6⟩ := HX.out _ hQ
  obtain ⟨ao1, nv1, cap1, rfl⟩ := hO.sl
  go_wp2_with fail
  refine (wput_any B _ _ _ _ [op, d, a, b] (hO.alloc _) (by simp; omega) (lit_ints [op, d, a, b] (by simp) rfl rfl (by simp)) (by simp; omega) (by have := hlen.out; simp at this ⊢; omega)).mono ?_
  rintro e w2 ⟨v2, rfl, hO2, hR⟩
  have hQ2 := hQ.trans ((Put.alloc (Put.refl B _) (by omega) _).trans hR)
  have hlen := hide (app_len (ns := [op, d, a, b]) hlen.out (by simp; omega))
  clear hR hQ hO h0 h1 h2 h3 h4 h5 h6
  have hQ := hQ2
  have hO := hO2
  clear hQ2 hO2
  have hB2 := hQ.to hB0
  clear hB1
  obtain ⟨h0, h1, h2, h3, h4, h5, h6⟩ := HX.out _ hQ
  obtain ⟨ao2, nv2, cap2, rfl⟩ := hO.sl
  go_wp2_with fail
  go_ret
  refine ⟨_, rfl, ?_, hP0.trans hQ⟩
  have e : xs ++ insB (⟨3, op, d, a, b, 0, []⟩ : Ins) = ((xs ++ [3].flatMap nb) ++ [op, d, a, b].flatMap nb) := by simp [insB]
  rw [e]
  exact hO
set_option maxHeartbeats 1000000 in
set_option maxRecDepth 100000 in
theorem putI5 (B : Nat) (w : World) (v : Value) (xs : List Int) (a b : Int) (u : Value) (ho : Out B w v xs) (hB : B ≤ w.heap.size) (ha : 0 ≤ a ∧ a < 4096) (hb : 0 ≤ b ∧ b < 4096) (hl : xs.length ≤ 900000000) :
    Calls Try.prog 16 #[v, .agg #[.int .u8 5, .int .u8 0, .int .i64 0, .int .i64 a, .int .i64 b, .int .i64 0, u]] w fun e w' => ∃ v', e = .returned v' ∧ Out B w' v' (xs ++ insB (⟨5, 0, 0, a, b, 0, []⟩ : Ins)) ∧ Put B w w' := by
  obtain ⟨ao, nv, cap, rfl⟩ := ho.sl
  have hP0 := Put.alloc (Put.refl B w) hB (.cells #[.int .u8 5, .int .u8 0, .int .i64 0, .int .i64 a, .int .i64 b, .int .i64 0, u] 49)
  have HX := hide (fun W (h : Put B (w.alloc (.cells #[.int .u8 5, .int .u8 0, .int .i64 0, .int .i64 a, .int .i64 b, .int .i64 0, u] 49)) W) => ins_box h)
  have hO := ho.alloc (.cells #[.int .u8 5, .int .u8 0, .int .i64 0, .int .i64 a, .int .i64 b, .int .i64 0, u] 49)
  have hB0 := hP0.to hB
  have hQ := Put.refl B (w.alloc (.cells #[.int .u8 5, .int .u8 0, .int .i64 0, .int .i64 a, .int .i64 b, .int .i64 0, u] 49))
  have hlen := hide hl
  clear hl ho
  go_enter Try.func16, Try.ntmps16
  go_wp2_with fail
  refine (wput_any B _ _ _ _ [5] (hO.alloc _) (by simp; omega) (lit_ints [5] (by simp) rfl rfl (by simp)) (by simp) (by have := hlen.out; simp at this ⊢; omega)).mono ?_
  rintro e w1 ⟨v1, rfl, hO1, hR⟩
  have hQ1 := hQ.trans ((Put.alloc (Put.refl B _) (by omega) _).trans hR)
  have hlen := hide (app_len (ns := [5]) hlen.out (by simp))
  clear hR hQ hO
  have hQ := hQ1
  have hO := hO1
  clear hQ1 hO1
  have hB1 := hQ.to hB0
  obtain ⟨h0, h1, h2, h3, h4, h5, h6⟩ := HX.out _ hQ
  obtain ⟨ao1, nv1, cap1, rfl⟩ := hO.sl
  go_wp2_with fail
  refine (wput_any B _ _ _ _ [a, b] (hO.alloc _) (by simp; omega) (lit_ints [a, b] (by simp) rfl rfl (by simp)) (by simp; omega) (by have := hlen.out; simp at this ⊢; omega)).mono ?_
  rintro e w2 ⟨v2, rfl, hO2, hR⟩
  have hQ2 := hQ.trans ((Put.alloc (Put.refl B _) (by omega) _).trans hR)
  have hlen := hide (app_len (ns := [a, b]) hlen.out (by simp; omega))
  clear hR hQ hO h0 h1 h2 h3 h4 h5 h6
  have hQ := hQ2
  have hO := hO2
  clear hQ2 hO2
  have hB2 := hQ.to hB0
  clear hB1
  obtain ⟨h0, h1, h2, h3, h4, h5, h6⟩ := HX.out _ hQ
  obtain ⟨ao2, nv2, cap2, rfl⟩ := hO.sl
  go_wp2_with fail
  go_ret
  refine ⟨_, rfl, ?_, hP0.trans hQ⟩
  have e : xs ++ insB (⟨5, 0, 0, a, b, 0, []⟩ : Ins) = ((xs ++ [5].flatMap nb) ++ [a, b].flatMap nb) := by simp [insB]
  rw [e]
  exact hO
set_option maxHeartbeats 1000000 in
set_option maxRecDepth 100000 in
theorem putI6a (B : Nat) (w : World) (v : Value) (xs : List Int) (d n : Int) (args : List Int) (aa : Option Addr) (ca : Nat) (ho : Out B w v xs) (hB : B ≤ w.heap.size) (hd : 0 ≤ d ∧ d < 4096) (hn1 : -9223372036854775808 ≤ n) (hn2 : n ≤ 9223372036854775807) (hal : args.length < 4) (ha : ∀ x ∈ args, 0 ≤ x ∧ x < 4096) (hu : ∀ w', Put B w w' → IntsV w' (.slice aa args.length ca) args) (hl : xs.length ≤ 900000000) :
    Calls Try.prog 16 #[v, .agg #[.int .u8 6, .int .u8 0, .int .i64 d, .int .i64 0, .int .i64 0, .int .i64 n, .slice aa args.length ca]] w fun e w' => ∃ v', e = .returned v' ∧ Out B w' v' (xs ++ insB (⟨6, 0, d, 0, 0, n, args⟩ : Ins)) ∧ Put B w w' := by
  obtain ⟨ao, nv, cap, rfl⟩ := ho.sl
  have hP0 := Put.alloc (Put.refl B w) hB (.cells #[.int .u8 6, .int .u8 0, .int .i64 d, .int .i64 0, .int .i64 0, .int .i64 n, .slice aa args.length ca] 49)
  have HX := hide (fun W (h : Put B (w.alloc (.cells #[.int .u8 6, .int .u8 0, .int .i64 d, .int .i64 0, .int .i64 0, .int .i64 n, .slice aa args.length ca] 49)) W) => ins_box h)
  have hO := ho.alloc (.cells #[.int .u8 6, .int .u8 0, .int .i64 d, .int .i64 0, .int .i64 0, .int .i64 n, .slice aa args.length ca] 49)
  have hB0 := hP0.to hB
  have hQ := Put.refl B (w.alloc (.cells #[.int .u8 6, .int .u8 0, .int .i64 d, .int .i64 0, .int .i64 0, .int .i64 n, .slice aa args.length ca] 49))
  have hlen := hide hl
  clear hl ho
  have HN1 := hide hn1
  clear hn1
  have HN2 := hide hn2
  clear hn2
  go_enter Try.func16, Try.ntmps16
  go_wp2_with fail
  refine (wput_any B _ _ _ _ [6] (hO.alloc _) (by simp; omega) (lit_ints [6] (by simp) rfl rfl (by simp)) (by simp) (by have := hlen.out; simp at this ⊢; omega)).mono ?_
  rintro e w1 ⟨v1, rfl, hO1, hR⟩
  have hQ1 := hQ.trans ((Put.alloc (Put.refl B _) (by omega) _).trans hR)
  have hlen := hide (app_len (ns := [6]) hlen.out (by simp))
  clear hR hQ hO
  have hQ := hQ1
  have hO := hO1
  clear hQ1 hO1
  have hB1 := hQ.to hB0
  obtain ⟨h0, h1, h2, h3, h4, h5, h6⟩ := HX.out _ hQ
  obtain ⟨ao1, nv1, cap1, rfl⟩ := hO.sl
  go_wp2_with fail
  refine (wput_any B _ _ _ _ [d] (hO.alloc _) (by simp; omega) (lit_ints [d] (by simp) rfl rfl (by simp)) (by simp; omega) (by have := hlen.out; simp at this ⊢; omega)).mono ?_
  rintro e w2 ⟨v2, rfl, hO2, hR⟩
  have hQ2 := hQ.trans ((Put.alloc (Put.refl B _) (by omega) _).trans hR)
  have hlen := hide (app_len (ns := [d]) hlen.out (by simp; omega))
  clear hR hQ hO h0 h1 h2 h3 h4 h5 h6
  have hQ := hQ2
  have hO := hO2
  clear hQ2 hO2
  have hB2 := hQ.to hB0
  clear hB1
  obtain ⟨h0, h1, h2, h3, h4, h5, h6⟩ := HX.out _ hQ
  obtain ⟨ao2, nv2, cap2, rfl⟩ := hO.sl
  go_wp2_with fail
  refine (wputInt_any B _ _ _ _ hO (by omega) HN1.out HN2.out (by have := hlen.out; simp at this ⊢; omega)).mono ?_
  rintro e w3 ⟨v3, rfl, hO3, hR⟩
  have hQ3 := hQ.trans hR
  have hlen := hide (app_len1 hlen.out HN1.out HN2.out)
  clear hR hQ hO h0 h1 h2 h3 h4 h5 h6
  have hQ := hQ3
  have hO := hO3
  clear hQ3 hO3
  have hB3 := hQ.to hB0
  clear hB2
  obtain ⟨h0, h1, h2, h3, h4, h5, h6⟩ := HX.out _ hQ
  obtain ⟨ao3, nv3, cap3, rfl⟩ := hO.sl
  go_wp2_with fail
  refine (wput_any B _ _ _ _ [(args.length : Int)] (hO.alloc _) (by simp; omega) (lit_ints [(args.length : Int)] (by simp) rfl rfl (by simp)) (by simp; omega) (by have := hlen.out; simp at this ⊢; omega)).mono ?_
  rintro e w4 ⟨v4, rfl, hO4, hR⟩
  have hQ4 := hQ.trans ((Put.alloc (Put.refl B _) (by omega) _).trans hR)
  have hlen := hide (app_len (ns := [(args.length : Int)]) hlen.out (by simp; omega))
  clear hR hQ hO h0 h1 h2 h3 h4 h5 h6
  have hQ := hQ4
  have hO := hO4
  clear hQ4 hO4
  have hB4 := hQ.to hB0
  clear hB3
  obtain ⟨h0, h1, h2, h3, h4, h5, h6⟩ := HX.out _ hQ
  obtain ⟨ao4, nv4, cap4, rfl⟩ := hO.sl
  go_wp2_with fail
  refine (wput_any B _ _ _ _ args hO (by omega) (fun w' hw => hu w' (hP0.trans (hQ.trans hw))) (fun x hx => by have := ha x hx; omega) (by have := hlen.out; simp at this ⊢; omega)).mono ?_
  rintro e w5 ⟨v5, rfl, hO5, hR⟩
  have hQ5 := hQ.trans hR
  have hlen := hide (app_len (ns := args) hlen.out (fun x hx => by have := ha x hx; omega))
  clear hR hQ hO h0 h1 h2 h3 h4 h5 h6
  have hQ := hQ5
  have hO := hO5
  clear hQ5 hO5
  have hB5 := hQ.to hB0
  clear hB4
  obtain ⟨h0, h1, h2, h3, h4, h5, h6⟩ := HX.out _ hQ
  obtain ⟨ao5, nv5, cap5, rfl⟩ := hO.sl
  go_wp2_with fail
  go_ret
  refine ⟨_, rfl, ?_, hP0.trans hQ⟩
  have e : xs ++ insB (⟨6, 0, d, 0, 0, n, args⟩ : Ins) = ((((xs ++ [6].flatMap nb) ++ [d].flatMap nb) ++ Leb.enc (Leb.zig n)) ++ [(args.length : Int)].flatMap nb) ++ args.flatMap nb := by simp [insB, nb]
  rw [e]
  exact hO
theorem putIns_any (B : Nat) (w : World) (v : Value) (xs : List Int) (i : Ins) (u : Value) (ho : Out B w v xs) (hB : B ≤ w.heap.size) (hw : WfI i) (hu : ∀ w', Put B w w' → IntsV w' u i.args) (hl : xs.length ≤ 900000000) :
    Calls Try.prog 16 #[v, insV i u] w fun e w' => ∃ v', e = .returned v' ∧ Out B w' v' (xs ++ insB i) ∧ Put B w w' := by
  obtain ⟨k, op, d, a, b, n, args⟩ := i
  obtain ⟨hk, h1, h2, h3, h4, h5, h6⟩ := hw
  simp only at hk h1 h2 h3 h4 h5 h6 hu
  have hc : k = 1 ∨ k = 2 ∨ k = 3 ∨ k = 4 ∨ k = 5 ∨ k = 6 ∨ k = 7 ∨ k = 8 := by omega
  rcases hc with rfl | rfl | rfl | rfl | rfl | rfl | rfl | rfl <;> simp at h1 h2 h3 h4 h5 h6
  · subst h1 h3 h4 h6
    exact putI1 B w v xs d n u ho hB h2 h5.1 h5.2 hl
  · subst h1 h4 h5 h6
    exact putI2 B w v xs d a u ho hB h2 h3 hl
  · subst h5 h6
    exact putI3 B w v xs op d a b u ho hB h1 h2 h3 h4 hl
  · subst h1 h4 h5 h6
    exact putI4 B w v xs d a u ho hB h2 h3 hl
  · subst h1 h2 h5 h6
    exact putI5 B w v xs a b u ho hB h3 h4 hl
  · subst h1 h3 h4
    obtain ⟨aa, ca, rfl⟩ := (hu w (Put.refl _ _)).slice
    exact putI6a B w v xs d n args aa ca ho hB h2 h5.1 h5.2 h6.1 h6.2 hu hl
  · subst h1 h4 h5 h6
    exact putI7 B w v xs d a u ho hB h2 h3 hl
  · subst h1 h4 h5 h6
    exact putI8 B w v xs d a u ho hB h2 h3 hl
set_option maxHeartbeats 1000000 in
set_option maxRecDepth 100000 in
theorem putE1 (B : Nat) (w : World) (v : Value) (xs : List Int) (to : Int) (ho : Out B w v xs) (hB : B ≤ w.heap.size) (ht : 0 ≤ to ∧ to < 4096) (hl : xs.length ≤ 900000000) :
    Calls Try.prog 17 #[v, .agg #[.int .u8 1, .int .i64 0, .int .i64 to, .int .i64 0]] w fun e w' => ∃ v', e = .returned v' ∧ Out B w' v' (xs ++ endB (⟨1, 0, to, 0⟩ : En)) ∧ Put B w w' := by
  obtain ⟨ao, nv, cap, rfl⟩ := ho.sl
  have hP0 := Put.alloc (Put.refl B w) hB (.cells #[.int .u8 1, .int .i64 0, .int .i64 to, .int .i64 0] 37)
  have HX := hide (fun W (h : Put B (w.alloc (.cells #[.int .u8 1, .int .i64 0, .int .i64 to, .int .i64 0] 37)) W) => end_box h)
  have hO := ho.alloc (.cells #[.int .u8 1, .int .i64 0, .int .i64 to, .int .i64 0] 37)
  have hB0 := hP0.to hB
  have hQ := Put.refl B (w.alloc (.cells #[.int .u8 1, .int .i64 0, .int .i64 to, .int .i64 0] 37))
  have hlen := hide hl
  clear hl ho
  go_enter Try.func17, Try.ntmps17
  go_wp2_with fail
  refine (wput_any B _ _ _ _ [1] (hO.alloc _) (by simp; omega) (lit_ints [1] (by simp) rfl rfl (by simp)) (by simp) (by have := hlen.out; simp at this ⊢; omega)).mono ?_
  rintro e w1 ⟨v1, rfl, hO1, hR⟩
  have hQ1 := hQ.trans ((Put.alloc (Put.refl B _) (by omega) _).trans hR)
  have hlen := hide (app_len (ns := [1]) hlen.out (by simp))
  clear hR hQ hO
  have hQ := hQ1
  have hO := hO1
  clear hQ1 hO1
  have hB1 := hQ.to hB0
  obtain ⟨h0, h1, h2, h3⟩ := HX.out _ hQ
  obtain ⟨ao1, nv1, cap1, rfl⟩ := hO.sl
  go_wp2_with fail
  refine (wput_any B _ _ _ _ [to] (hO.alloc _) (by simp; omega) (lit_ints [to] (by simp) rfl rfl (by simp)) (by simp; omega) (by have := hlen.out; simp at this ⊢; omega)).mono ?_
  rintro e w2 ⟨v2, rfl, hO2, hR⟩
  have hQ2 := hQ.trans ((Put.alloc (Put.refl B _) (by omega) _).trans hR)
  have hlen := hide (app_len (ns := [to]) hlen.out (by simp; omega))
  clear hR hQ hO h0 h1 h2 h3
  have hQ := hQ2
  have hO := hO2
  clear hQ2 hO2
  have hB2 := hQ.to hB0
  clear hB1
  obtain ⟨h0, h1, h2, h3⟩ := HX.out _ hQ
  obtain ⟨ao2, nv2, cap2, rfl⟩ := hO.sl
  go_wp2_with fail
  go_ret
  refine ⟨_, rfl, ?_, hP0.trans hQ⟩
  have e : xs ++ endB (⟨1, 0, to, 0⟩ : En) = ((xs ++ [1].flatMap nb) ++ [to].flatMap nb) := by simp [endB]
  rw [e]
  exact hO
set_option maxHeartbeats 1000000 in
set_option maxRecDepth 100000 in
theorem putE2 (B : Nat) (w : World) (v : Value) (xs : List Int) (a to el : Int) (ho : Out B w v xs) (hB : B ≤ w.heap.size) (ha : 0 ≤ a ∧ a < 4096) (ht : 0 ≤ to ∧ to < 4096) (he : 0 ≤ el ∧ el < 4096) (hl : xs.length ≤ 900000000) :
    Calls Try.prog 17 #[v, .agg #[.int .u8 2, .int .i64 a, .int .i64 to, .int .i64 el]] w fun e w' => ∃ v', e = .returned v' ∧ Out B w' v' (xs ++ endB (⟨2, a, to, el⟩ : En)) ∧ Put B w w' := by
  obtain ⟨ao, nv, cap, rfl⟩ := ho.sl
  have hP0 := Put.alloc (Put.refl B w) hB (.cells #[.int .u8 2, .int .i64 a, .int .i64 to, .int .i64 el] 37)
  have HX := hide (fun W (h : Put B (w.alloc (.cells #[.int .u8 2, .int .i64 a, .int .i64 to, .int .i64 el] 37)) W) => end_box h)
  have hO := ho.alloc (.cells #[.int .u8 2, .int .i64 a, .int .i64 to, .int .i64 el] 37)
  have hB0 := hP0.to hB
  have hQ := Put.refl B (w.alloc (.cells #[.int .u8 2, .int .i64 a, .int .i64 to, .int .i64 el] 37))
  have hlen := hide hl
  clear hl ho
  go_enter Try.func17, Try.ntmps17
  go_wp2_with fail
  refine (wput_any B _ _ _ _ [2] (hO.alloc _) (by simp; omega) (lit_ints [2] (by simp) rfl rfl (by simp)) (by simp) (by have := hlen.out; simp at this ⊢; omega)).mono ?_
  rintro e w1 ⟨v1, rfl, hO1, hR⟩
  have hQ1 := hQ.trans ((Put.alloc (Put.refl B _) (by omega) _).trans hR)
  have hlen := hide (app_len (ns := [2]) hlen.out (by simp))
  clear hR hQ hO
  have hQ := hQ1
  have hO := hO1
  clear hQ1 hO1
  have hB1 := hQ.to hB0
  obtain ⟨h0, h1, h2, h3⟩ := HX.out _ hQ
  obtain ⟨ao1, nv1, cap1, rfl⟩ := hO.sl
  go_wp2_with fail
  refine (wput_any B _ _ _ _ [a, to, el] (hO.alloc _) (by simp; omega) (lit_ints [a, to, el] (by simp) rfl rfl (by simp)) (by simp; omega) (by have := hlen.out; simp at this ⊢; omega)).mono ?_
  rintro e w2 ⟨v2, rfl, hO2, hR⟩
  have hQ2 := hQ.trans ((Put.alloc (Put.refl B _) (by omega) _).trans hR)
  have hlen := hide (app_len (ns := [a, to, el]) hlen.out (by simp; omega))
  clear hR hQ hO h0 h1 h2 h3
  have hQ := hQ2
  have hO := hO2
  clear hQ2 hO2
  have hB2 := hQ.to hB0
  clear hB1
  obtain ⟨h0, h1, h2, h3⟩ := HX.out _ hQ
  obtain ⟨ao2, nv2, cap2, rfl⟩ := hO.sl
  go_wp2_with fail
  go_ret
  refine ⟨_, rfl, ?_, hP0.trans hQ⟩
  have e : xs ++ endB (⟨2, a, to, el⟩ : En) = ((xs ++ [2].flatMap nb) ++ [a, to, el].flatMap nb) := by simp [endB]
  rw [e]
  exact hO
set_option maxHeartbeats 1000000 in
set_option maxRecDepth 100000 in
theorem putE3 (B : Nat) (w : World) (v : Value) (xs : List Int) (a : Int) (ho : Out B w v xs) (hB : B ≤ w.heap.size) (ha : 0 ≤ a ∧ a < 4096) (hl : xs.length ≤ 900000000) :
    Calls Try.prog 17 #[v, .agg #[.int .u8 3, .int .i64 a, .int .i64 0, .int .i64 0]] w fun e w' => ∃ v', e = .returned v' ∧ Out B w' v' (xs ++ endB (⟨3, a, 0, 0⟩ : En)) ∧ Put B w w' := by
  obtain ⟨ao, nv, cap, rfl⟩ := ho.sl
  have hP0 := Put.alloc (Put.refl B w) hB (.cells #[.int .u8 3, .int .i64 a, .int .i64 0, .int .i64 0] 37)
  have HX := hide (fun W (h : Put B (w.alloc (.cells #[.int .u8 3, .int .i64 a, .int .i64 0, .int .i64 0] 37)) W) => end_box h)
  have hO := ho.alloc (.cells #[.int .u8 3, .int .i64 a, .int .i64 0, .int .i64 0] 37)
  have hB0 := hP0.to hB
  have hQ := Put.refl B (w.alloc (.cells #[.int .u8 3, .int .i64 a, .int .i64 0, .int .i64 0] 37))
  have hlen := hide hl
  clear hl ho
  go_enter Try.func17, Try.ntmps17
  go_wp2_with fail
  refine (wput_any B _ _ _ _ [3] (hO.alloc _) (by simp; omega) (lit_ints [3] (by simp) rfl rfl (by simp)) (by simp) (by have := hlen.out; simp at this ⊢; omega)).mono ?_
  rintro e w1 ⟨v1, rfl, hO1, hR⟩
  have hQ1 := hQ.trans ((Put.alloc (Put.refl B _) (by omega) _).trans hR)
  have hlen := hide (app_len (ns := [3]) hlen.out (by simp))
  clear hR hQ hO
  have hQ := hQ1
  have hO := hO1
  clear hQ1 hO1
  have hB1 := hQ.to hB0
  obtain ⟨h0, h1, h2, h3⟩ := HX.out _ hQ
  obtain ⟨ao1, nv1, cap1, rfl⟩ := hO.sl
  go_wp2_with fail
  refine (wput_any B _ _ _ _ [a] (hO.alloc _) (by simp; omega) (lit_ints [a] (by simp) rfl rfl (by simp)) (by simp; omega) (by have := hlen.out; simp at this ⊢; omega)).mono ?_
  rintro e w2 ⟨v2, rfl, hO2, hR⟩
  have hQ2 := hQ.trans ((Put.alloc (Put.refl B _) (by omega) _).trans hR)
  have hlen := hide (app_len (ns := [a]) hlen.out (by simp; omega))
  clear hR hQ hO h0 h1 h2 h3
  have hQ := hQ2
  have hO := hO2
  clear hQ2 hO2
  have hB2 := hQ.to hB0
  clear hB1
  obtain ⟨h0, h1, h2, h3⟩ := HX.out _ hQ
  obtain ⟨ao2, nv2, cap2, rfl⟩ := hO.sl
  go_wp2_with fail
  go_ret
  refine ⟨_, rfl, ?_, hP0.trans hQ⟩
  have e : xs ++ endB (⟨3, a, 0, 0⟩ : En) = ((xs ++ [3].flatMap nb) ++ [a].flatMap nb) := by simp [endB]
  rw [e]
  exact hO
theorem putEnd_any (B : Nat) (w : World) (v : Value) (xs : List Int) (e : En) (ho : Out B w v xs) (hB : B ≤ w.heap.size) (hw : WfE e) (hl : xs.length ≤ 900000000) :
    Calls Try.prog 17 #[v, endV e] w fun r w' => ∃ v', r = .returned v' ∧ Out B w' v' (xs ++ endB e) ∧ Put B w w' := by
  obtain ⟨k, a, to, el⟩ := e
  obtain ⟨hk, h1, h2, h3⟩ := hw
  simp only at hk h1 h2 h3
  have hc : k = 1 ∨ k = 2 ∨ k = 3 := by omega
  rcases hc with rfl | rfl | rfl <;> simp at h1 h2 h3
  · subst h1 h3
    exact putE1 B w v xs to ho hB h2 hl
  · exact putE2 B w v xs a to el ho hB h1 h2 h3 hl
  · subst h2 h3
    exact putE3 B w v xs a ho hB h1 hl
end Go.Proofs.Ytbjnhicikkjadab
