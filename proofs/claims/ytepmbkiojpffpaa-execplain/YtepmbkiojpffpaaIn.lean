/- The law's Input: a right input, for so many parameters. -/
import Derived.Test.YtepmbkiojpffpaaLb
namespace Go.Proofs.Ytepmbkiojpffpaa
open Go Go.RowKit Ir

theorem size27 : (Try.prog.info? 27).map (·.size) = some 4 := by kernel_rfl
def ops_in1_ok : Array Oper := #[⟨some 8, .fieldAddr 27 (.tmp 2) 1, 0, "law.go:22", #[], none⟩, ⟨some 9, .load 25 (.tmp 8), 25, "law.go:22", #[⟨0, .data⟩], none⟩, ⟨some 10, .fieldAddr 27 (.tmp 2) 1, 0, "law.go:22", #[], none⟩, ⟨some 11, .load 25 (.tmp 10), 25, "law.go:22", #[⟨2, .data⟩], none⟩, ⟨some 12, .call { callee := Callee.builtin Builtin.len, args := #[.tmp 11], argTypes := #[25] }, 3, "law.go:22", #[⟨3, .data⟩], none⟩, ⟨some 13, .call { callee := Callee.builtin Builtin.min, args := #[.tmp 12, .const (.int .i64 100)], argTypes := #[3, 3] }, 3, "law.go:22", #[⟨4, .data⟩], none⟩, ⟨some 14, .slice 25 (.tmp 9) none (some (.tmp 13)) none, 25, "law.go:22", #[⟨1, .data⟩, ⟨5, .data⟩], none⟩, ⟨some 15, .fieldAddr 27 (.tmp 2) 2, 0, "law.go:22", #[], none⟩, ⟨some 16, .load 25 (.tmp 15), 25, "law.go:22", #[⟨7, .data⟩], none⟩, ⟨some 17, .fieldAddr 27 (.tmp 2) 2, 0, "law.go:22", #[], none⟩, ⟨some 18, .load 25 (.tmp 17), 25, "law.go:22", #[⟨9, .data⟩], none⟩, ⟨some 19, .call { callee := Callee.builtin Builtin.len, args := #[.tmp 18], argTypes := #[25] }, 3, "law.go:22", #[⟨10, .data⟩], none⟩, ⟨some 20, .call { callee := Callee.builtin Builtin.min, args := #[.tmp 19, .const (.int .i64 100)], argTypes := #[3, 3] }, 3, "law.go:22", #[⟨11, .data⟩], none⟩, ⟨some 21, .slice 25 (.tmp 16) none (some (.tmp 20)) none, 25, "law.go:22", #[⟨8, .data⟩, ⟨12, .data⟩], none⟩, ⟨some 22, .fieldAddr 27 (.tmp 2) 3, 0, "law.go:22", #[], none⟩, ⟨some 23, .load 3 (.tmp 22), 3, "law.go:22", #[⟨14, .data⟩], none⟩, ⟨some 24, .convert 3 72 (.tmp 23), 72, "law.go:22", #[⟨15, .data⟩], none⟩, ⟨some 25, .binOp .rem 72 (.tmp 24) (.const (.int .u64 400)) 72, 72, "law.go:22", #[⟨16, .data⟩], none⟩, ⟨some 26, .convert 72 3 (.tmp 25), 3, "law.go:22", #[⟨17, .data⟩], none⟩, ⟨some 27, .build 27 #[(1, .tmp 14), (2, .tmp 21), (3, .tmp 26)], 27, "law.go:22", #[⟨6, .data⟩, ⟨13, .data⟩, ⟨18, .data⟩], none⟩, ⟨some 5, .alloc 27, 0, "law.go:22", #[], none⟩, ⟨none, .store 27 (.tmp 5) (.tmp 27), 0, "law.go:22", #[⟨20, .data⟩, ⟨19, .data⟩, ⟨0, .phase⟩, ⟨1, .phase⟩, ⟨2, .phase⟩, ⟨3, .phase⟩, ⟨4, .phase⟩, ⟨5, .phase⟩, ⟨6, .phase⟩, ⟨7, .phase⟩, ⟨8, .phase⟩, ⟨9, .phase⟩, ⟨10, .phase⟩, ⟨11, .phase⟩, ⟨12, .phase⟩, ⟨13, .phase⟩, ⟨14, .phase⟩, ⟨15, .phase⟩, ⟨16, .phase⟩, ⟨17, .phase⟩, ⟨18, .phase⟩, ⟨19, .phase⟩, ⟨20, .phase⟩], none⟩]
/-- What is known of each temporary. -/
def G_in1_ok (gi gz ml mk mc cl ck cc : Nat) (fuel fu0 fu : Int) (ma ca : Option Addr) : Tmp → Value → World → Prop
  | 8, xx, _ => xx = .pointer (some ⟨gi, 1, none⟩)
  | 9, xx, _ => xx = .slice ma ml mc
  | 10, xx, _ => xx = .pointer (some ⟨gi, 1, none⟩)
  | 11, xx, _ => xx = .slice ma ml mc
  | 12, xx, _ => xx = .int .i64 (ml : Nat)
  | 13, xx, _ => xx = .int .i64 (mk : Nat)
  | 14, xx, _ => xx = .slice ma mk mc
  | 15, xx, _ => xx = .pointer (some ⟨gi, 2, none⟩)
  | 16, xx, _ => xx = .slice ca cl cc
  | 17, xx, _ => xx = .pointer (some ⟨gi, 2, none⟩)
  | 18, xx, _ => xx = .slice ca cl cc
  | 19, xx, _ => xx = .int .i64 (cl : Nat)
  | 20, xx, _ => xx = .int .i64 (ck : Nat)
  | 21, xx, _ => xx = .slice ca ck cc
  | 22, xx, _ => xx = .pointer (some ⟨gi, 3, none⟩)
  | 23, xx, _ => xx = .int .i64 fuel
  | 24, xx, _ => xx = .int .u64 fu0
  | 25, xx, _ => xx = .int .u64 fu
  | 26, xx, _ => xx = .int .i64 fu
  | 27, xx, _ => xx = .agg #[.slice none 0 0, .slice ma mk mc, .slice ca ck cc, .int .i64 fu]
  | 5, xx, _ => xx = .pointer (some ⟨gz, 0, none⟩)
  | _, _, _ => True
set_option maxHeartbeats 1000000 in
set_option maxRecDepth 100000 in
theorem in1_ok {Q : Exit → Act → World → Prop} {a0 : Act} {wa : World} {gi gz ml mk mc cl ck cc : Nat} {fuel fu0 fu : Int} {ma ca : Option Addr} {W1 W2 : World} (hz : a0.tmps.size = 51) (b2 : a0.eval (.tmp 2) = .pointer (some ⟨gi, 0, none⟩))
    (m1 : wa.cell? ⟨gi, 1, none⟩ = some (.slice ma ml mc)) (m1_1 : (W1).cell? ⟨gi, 1, none⟩ = some (.slice ma ml mc)) (m2 : wa.cell? ⟨gi, 2, none⟩ = some (.slice ca cl cc)) (m2_1 : (W1).cell? ⟨gi, 2, none⟩ = some (.slice ca cl cc)) (m3 : wa.cell? ⟨gi, 3, none⟩ = some (.int .i64 fuel)) (m3_1 : (W1).cell? ⟨gi, 3, none⟩ = some (.int .i64 fuel))  (hgz : wa.heap.size = gz) (hW1 : (wa.alloc (.cells #[.slice none 0 0, .slice none 0 0, .slice none 0 0, .int .i64 0] 27)).drew = W1) (hrow1 : W1.heap[gz]? = some (Obj.cells #[.slice none 0 0, .slice none 0 0, .slice none 0 0, .int .i64 0] 27 (0, 0))) (hW2 : W1.setRow gz #[.slice none 0 0, .slice ma mk mc, .slice ca ck cc, .int .i64 fu] = W2)
    (hmin1 : ∀ ts t W, (Builtin.min_ ts t #[.int .i64 (ml : Nat), .int .i64 100]).run Try.prog W = .ok (.int .i64 (mk : Nat)) W) (hmin2 : ∀ ts t W, (Builtin.min_ ts t #[.int .i64 (cl : Nat), .int .i64 100]).run Try.prog W = .ok (.int .i64 (ck : Nat)) W)
    (hcut1 : ∀ W, (Instr.sliceAt 25 (.slice ma ml mc) none (some (.int .i64 (mk : Nat))) none).run Try.prog W = .ok (.slice ma mk mc) W) (hcut2 : ∀ W, (Instr.sliceAt 25 (.slice ca cl cc) none (some (.int .i64 (ck : Nat))) none).run Try.prog W = .ok (.slice ca ck cc) W)
    (hcv : ∀ W, (convert 3 72 (.int .i64 fuel)).run Try.prog W = .ok (.int .u64 fu0) W) (hrem : ∀ W, (binOp .rem 72 (.int .u64 fu0) (.int .u64 400)).run Try.prog W = .ok (.int .u64 fu) W) (hcv2 : ∀ W, (convert 72 3 (.int .u64 fu)).run Try.prog W = .ok (.int .i64 fu) W)
    (hend : ∀ s : Tmp → Value, s 5 = .pointer (some ⟨gz, 0, none⟩) → Q .normal (overlay a0 (dstsOf ops_in1_ok) s) W2) : (Code.region 1 ops_in1_ok true).wp Try.prog Q a0 wa := by
  have m1 : wa.drew.cell? ⟨gi, 1, none⟩ = some (.slice ma ml mc) := m1
  have m2 : wa.drew.cell? ⟨gi, 2, none⟩ = some (.slice ca cl cc) := m2
  have m3 : wa.drew.cell? ⟨gi, 3, none⟩ = some (.int .i64 fuel) := m3
  refine L.wp_region_eachL (by kernel_rfl) (fun _ tt yv _ => G_in1_ok gi gz ml mk mc cl ck cc fuel fu0 fu ma ca tt yv wa) (fun l W => W = if l 21 = true then W2 else (if l 20 = true then W1 else wa.drew)) (by rw [hz]; kernel_rfl) rfl ?_ ?_
  · refine And.intro ?_ (And.intro ?_ (And.intro ?_ (And.intro ?_ (And.intro ?_ (And.intro ?_ (And.intro ?_ (And.intro ?_ (And.intro ?_ (And.intro ?_ (And.intro ?_ (And.intro ?_ (And.intro ?_ (And.intro ?_ (And.intro ?_ (And.intro ?_ (And.intro ?_ (And.intro ?_ (And.intro ?_ (And.intro ?_ (And.intro ?_ (And.intro ?_ trivial)))))))))))))))))))))
    · refine L.asked_pure rfl rfl (fun _ _ h => h) (fun _ _ _ _ _ h => h) (fun _ _ _ => rfl) (fun l a W H => ?_)
      have e2 : a.eval (.tmp 2) = .pointer (some ⟨gi, 0, none⟩) := (H.base 2 rfl).trans b2
      (simp only [execOp]; try simp only [Option.map]); (try simp only [List.map_toArray, List.map_cons, List.map_nil]); (simp only [e2]; go_simp)
      all_goals (try first | go_num | omega | (rw [IntKind.wrap_i64]; omega) | (rw [IntKind.wrap_u8]; omega))
    · refine L.asked_pure rfl rfl (fun _ _ h => h) (fun _ _ _ _ _ h => h) (fun _ _ _ => rfl) (fun l a W H => ?_)
      have n21 : l 21 = false := by
        cases hs : l 21 with
        | false => rfl
        | true =>
          have h1 := (H.closed 21 1 (by rfl) hs)
          rw [H.new] at h1
          cases h1
      cases hc20 : l 20 with
      | true =>
        have y20 : l 20 = true := hc20
        have hW : W1 = W := (H.s.trans (by simp only [n21, y20, if_true, if_false, Bool.false_eq_true])).symm
        subst hW
        have e8 : a.eval (.tmp 8) = .pointer (some ⟨gi, 1, none⟩) := H.facts 8 rfl
        (simp only [execOp]; try simp only [Option.map]); (try simp only [List.map_toArray, List.map_cons, List.map_nil]); (simp only [e8]; go_simp)
        all_goals (try first | go_num | omega | (rw [IntKind.wrap_i64]; omega) | (rw [IntKind.wrap_u8]; omega))
      | false =>
        have n20 : l 20 = false := hc20
        have hW : wa.drew = W := (H.s.trans (by simp only [n21, n20, if_false, Bool.false_eq_true])).symm
        subst hW
        have e8 : a.eval (.tmp 8) = .pointer (some ⟨gi, 1, none⟩) := H.facts 8 rfl
        (simp only [execOp]; try simp only [Option.map]); (try simp only [List.map_toArray, List.map_cons, List.map_nil]); (simp only [e8]; go_simp)
        all_goals (try first | go_num | omega | (rw [IntKind.wrap_i64]; omega) | (rw [IntKind.wrap_u8]; omega))
    · refine L.asked_pure rfl rfl (fun _ _ h => h) (fun _ _ _ _ _ h => h) (fun _ _ _ => rfl) (fun l a W H => ?_)
      have e2 : a.eval (.tmp 2) = .pointer (some ⟨gi, 0, none⟩) := (H.base 2 rfl).trans b2
      (simp only [execOp]; try simp only [Option.map]); (try simp only [List.map_toArray, List.map_cons, List.map_nil]); (simp only [e2]; go_simp)
      all_goals (try first | go_num | omega | (rw [IntKind.wrap_i64]; omega) | (rw [IntKind.wrap_u8]; omega))
    · refine L.asked_pure rfl rfl (fun _ _ h => h) (fun _ _ _ _ _ h => h) (fun _ _ _ => rfl) (fun l a W H => ?_)
      have n21 : l 21 = false := by
        cases hs : l 21 with
        | false => rfl
        | true =>
          have h1 := (H.closed 21 3 (by rfl) hs)
          rw [H.new] at h1
          cases h1
      cases hc20 : l 20 with
      | true =>
        have y20 : l 20 = true := hc20
        have hW : W1 = W := (H.s.trans (by simp only [n21, y20, if_true, if_false, Bool.false_eq_true])).symm
        subst hW
        have e10 : a.eval (.tmp 10) = .pointer (some ⟨gi, 1, none⟩) := H.facts 10 rfl
        (simp only [execOp]; try simp only [Option.map]); (try simp only [List.map_toArray, List.map_cons, List.map_nil]); (simp only [e10]; go_simp)
        all_goals (try first | go_num | omega | (rw [IntKind.wrap_i64]; omega) | (rw [IntKind.wrap_u8]; omega))
      | false =>
        have n20 : l 20 = false := hc20
        have hW : wa.drew = W := (H.s.trans (by simp only [n21, n20, if_false, Bool.false_eq_true])).symm
        subst hW
        have e10 : a.eval (.tmp 10) = .pointer (some ⟨gi, 1, none⟩) := H.facts 10 rfl
        (simp only [execOp]; try simp only [Option.map]); (try simp only [List.map_toArray, List.map_cons, List.map_nil]); (simp only [e10]; go_simp)
        all_goals (try first | go_num | omega | (rw [IntKind.wrap_i64]; omega) | (rw [IntKind.wrap_u8]; omega))
    · refine L.asked_pure rfl rfl (fun _ _ h => h) (fun _ _ _ _ _ h => h) (fun _ _ _ => rfl) (fun l a W H => ?_)
      have e11 : a.eval (.tmp 11) = .slice ma ml mc := H.facts 11 rfl
      exact run_len rfl e11 Try.underlying25
    · refine L.asked_pure rfl rfl (fun _ _ h => h) (fun _ _ _ _ _ h => h) (fun _ _ _ => rfl) (fun l a W H => ?_)
      have e12 : a.eval (.tmp 12) = .int .i64 (ml : Nat) := H.facts 12 rfl
      have ec : a.eval (.const (.int .i64 100)) = .int .i64 100 := rfl
      simp only [execOp, resolve, invoke, builtin, Sem.run_bind, Sem.run_pure, Result.andThen_ok, List.map_toArray, List.map_cons, List.map_nil, e12, ec, hmin1]
    · refine L.asked_pure rfl rfl (fun _ _ h => h) (fun _ _ _ _ _ h => h) (fun _ _ _ => rfl) (fun l a W H => ?_)
      have e9 : a.eval (.tmp 9) = .slice ma ml mc := H.facts 9 rfl
      have e13 : a.eval (.tmp 13) = .int .i64 (mk : Nat) := H.facts 13 rfl
      simp only [execOp, Option.map, Sem.run_bind, Sem.run_pure, Result.andThen_ok, e9, e13, hcut1]
    · refine L.asked_pure rfl rfl (fun _ _ h => h) (fun _ _ _ _ _ h => h) (fun _ _ _ => rfl) (fun l a W H => ?_)
      have e2 : a.eval (.tmp 2) = .pointer (some ⟨gi, 0, none⟩) := (H.base 2 rfl).trans b2
      (simp only [execOp]; try simp only [Option.map]); (try simp only [List.map_toArray, List.map_cons, List.map_nil]); (simp only [e2]; go_simp)
      all_goals (try first | go_num | omega | (rw [IntKind.wrap_i64]; omega) | (rw [IntKind.wrap_u8]; omega))
    · refine L.asked_pure rfl rfl (fun _ _ h => h) (fun _ _ _ _ _ h => h) (fun _ _ _ => rfl) (fun l a W H => ?_)
      have n21 : l 21 = false := by
        cases hs : l 21 with
        | false => rfl
        | true =>
          have h1 := (H.closed 21 8 (by rfl) hs)
          rw [H.new] at h1
          cases h1
      cases hc20 : l 20 with
      | true =>
        have y20 : l 20 = true := hc20
        have hW : W1 = W := (H.s.trans (by simp only [n21, y20, if_true, if_false, Bool.false_eq_true])).symm
        subst hW
        have e15 : a.eval (.tmp 15) = .pointer (some ⟨gi, 2, none⟩) := H.facts 15 rfl
        (simp only [execOp]; try simp only [Option.map]); (try simp only [List.map_toArray, List.map_cons, List.map_nil]); (simp only [e15]; go_simp)
        all_goals (try first | go_num | omega | (rw [IntKind.wrap_i64]; omega) | (rw [IntKind.wrap_u8]; omega))
      | false =>
        have n20 : l 20 = false := hc20
        have hW : wa.drew = W := (H.s.trans (by simp only [n21, n20, if_false, Bool.false_eq_true])).symm
        subst hW
        have e15 : a.eval (.tmp 15) = .pointer (some ⟨gi, 2, none⟩) := H.facts 15 rfl
        (simp only [execOp]; try simp only [Option.map]); (try simp only [List.map_toArray, List.map_cons, List.map_nil]); (simp only [e15]; go_simp)
        all_goals (try first | go_num | omega | (rw [IntKind.wrap_i64]; omega) | (rw [IntKind.wrap_u8]; omega))
    · refine L.asked_pure rfl rfl (fun _ _ h => h) (fun _ _ _ _ _ h => h) (fun _ _ _ => rfl) (fun l a W H => ?_)
      have e2 : a.eval (.tmp 2) = .pointer (some ⟨gi, 0, none⟩) := (H.base 2 rfl).trans b2
      (simp only [execOp]; try simp only [Option.map]); (try simp only [List.map_toArray, List.map_cons, List.map_nil]); (simp only [e2]; go_simp)
      all_goals (try first | go_num | omega | (rw [IntKind.wrap_i64]; omega) | (rw [IntKind.wrap_u8]; omega))
    · refine L.asked_pure rfl rfl (fun _ _ h => h) (fun _ _ _ _ _ h => h) (fun _ _ _ => rfl) (fun l a W H => ?_)
      have n21 : l 21 = false := by
        cases hs : l 21 with
        | false => rfl
        | true =>
          have h1 := (H.closed 21 10 (by rfl) hs)
          rw [H.new] at h1
          cases h1
      cases hc20 : l 20 with
      | true =>
        have y20 : l 20 = true := hc20
        have hW : W1 = W := (H.s.trans (by simp only [n21, y20, if_true, if_false, Bool.false_eq_true])).symm
        subst hW
        have e17 : a.eval (.tmp 17) = .pointer (some ⟨gi, 2, none⟩) := H.facts 17 rfl
        (simp only [execOp]; try simp only [Option.map]); (try simp only [List.map_toArray, List.map_cons, List.map_nil]); (simp only [e17]; go_simp)
        all_goals (try first | go_num | omega | (rw [IntKind.wrap_i64]; omega) | (rw [IntKind.wrap_u8]; omega))
      | false =>
        have n20 : l 20 = false := hc20
        have hW : wa.drew = W := (H.s.trans (by simp only [n21, n20, if_false, Bool.false_eq_true])).symm
        subst hW
        have e17 : a.eval (.tmp 17) = .pointer (some ⟨gi, 2, none⟩) := H.facts 17 rfl
        (simp only [execOp]; try simp only [Option.map]); (try simp only [List.map_toArray, List.map_cons, List.map_nil]); (simp only [e17]; go_simp)
        all_goals (try first | go_num | omega | (rw [IntKind.wrap_i64]; omega) | (rw [IntKind.wrap_u8]; omega))
    · refine L.asked_pure rfl rfl (fun _ _ h => h) (fun _ _ _ _ _ h => h) (fun _ _ _ => rfl) (fun l a W H => ?_)
      have e18 : a.eval (.tmp 18) = .slice ca cl cc := H.facts 18 rfl
      exact run_len rfl e18 Try.underlying25
    · refine L.asked_pure rfl rfl (fun _ _ h => h) (fun _ _ _ _ _ h => h) (fun _ _ _ => rfl) (fun l a W H => ?_)
      have e19 : a.eval (.tmp 19) = .int .i64 (cl : Nat) := H.facts 19 rfl
      have ec : a.eval (.const (.int .i64 100)) = .int .i64 100 := rfl
      simp only [execOp, resolve, invoke, builtin, Sem.run_bind, Sem.run_pure, Result.andThen_ok, List.map_toArray, List.map_cons, List.map_nil, e19, ec, hmin2]
    · refine L.asked_pure rfl rfl (fun _ _ h => h) (fun _ _ _ _ _ h => h) (fun _ _ _ => rfl) (fun l a W H => ?_)
      have e16 : a.eval (.tmp 16) = .slice ca cl cc := H.facts 16 rfl
      have e20 : a.eval (.tmp 20) = .int .i64 (ck : Nat) := H.facts 20 rfl
      simp only [execOp, Option.map, Sem.run_bind, Sem.run_pure, Result.andThen_ok, e16, e20, hcut2]
    · refine L.asked_pure rfl rfl (fun _ _ h => h) (fun _ _ _ _ _ h => h) (fun _ _ _ => rfl) (fun l a W H => ?_)
      have e2 : a.eval (.tmp 2) = .pointer (some ⟨gi, 0, none⟩) := (H.base 2 rfl).trans b2
      (simp only [execOp]; try simp only [Option.map]); (try simp only [List.map_toArray, List.map_cons, List.map_nil]); (simp only [e2]; go_simp)
      all_goals (try first | go_num | omega | (rw [IntKind.wrap_i64]; omega) | (rw [IntKind.wrap_u8]; omega))
    · refine L.asked_pure rfl rfl (fun _ _ h => h) (fun _ _ _ _ _ h => h) (fun _ _ _ => rfl) (fun l a W H => ?_)
      have n21 : l 21 = false := by
        cases hs : l 21 with
        | false => rfl
        | true =>
          have h1 := (H.closed 21 15 (by rfl) hs)
          rw [H.new] at h1
          cases h1
      cases hc20 : l 20 with
      | true =>
        have y20 : l 20 = true := hc20
        have hW : W1 = W := (H.s.trans (by simp only [n21, y20, if_true, if_false, Bool.false_eq_true])).symm
        subst hW
        have e22 : a.eval (.tmp 22) = .pointer (some ⟨gi, 3, none⟩) := H.facts 22 rfl
        (simp only [execOp]; try simp only [Option.map]); (try simp only [List.map_toArray, List.map_cons, List.map_nil]); (simp only [e22]; go_simp)
        all_goals (try first | go_num | omega | (rw [IntKind.wrap_i64]; omega) | (rw [IntKind.wrap_u8]; omega))
      | false =>
        have n20 : l 20 = false := hc20
        have hW : wa.drew = W := (H.s.trans (by simp only [n21, n20, if_false, Bool.false_eq_true])).symm
        subst hW
        have e22 : a.eval (.tmp 22) = .pointer (some ⟨gi, 3, none⟩) := H.facts 22 rfl
        (simp only [execOp]; try simp only [Option.map]); (try simp only [List.map_toArray, List.map_cons, List.map_nil]); (simp only [e22]; go_simp)
        all_goals (try first | go_num | omega | (rw [IntKind.wrap_i64]; omega) | (rw [IntKind.wrap_u8]; omega))
    · refine L.asked_pure rfl rfl (fun _ _ h => h) (fun _ _ _ _ _ h => h) (fun _ _ _ => rfl) (fun l a W H => ?_)
      have e23 : a.eval (.tmp 23) = .int .i64 fuel := H.facts 23 rfl
      simp only [execOp, Sem.run_bind, Sem.run_pure, Result.andThen_ok, e23, hcv]
    · refine L.asked_pure rfl rfl (fun _ _ h => h) (fun _ _ _ _ _ h => h) (fun _ _ _ => rfl) (fun l a W H => ?_)
      have e24 : a.eval (.tmp 24) = .int .u64 fu0 := H.facts 24 rfl
      have ec : a.eval (.const (.int .u64 400)) = .int .u64 400 := rfl
      simp only [execOp, Sem.run_bind, e24, ec, eqGuard]
      simp [hrem]
    · refine L.asked_pure rfl rfl (fun _ _ h => h) (fun _ _ _ _ _ h => h) (fun _ _ _ => rfl) (fun l a W H => ?_)
      have e25 : a.eval (.tmp 25) = .int .u64 fu := H.facts 25 rfl
      simp only [execOp, Sem.run_bind, Sem.run_pure, Result.andThen_ok, e25, hcv2]
    · refine L.asked_pure rfl rfl (fun _ _ h => h) (fun _ _ _ _ _ h => h) (fun _ _ _ => rfl) (fun l a W H => ?_)
      have e14 : a.eval (.tmp 14) = .slice ma mk mc := H.facts 14 rfl
      have e21 : a.eval (.tmp 21) = .slice ca ck cc := H.facts 21 rfl
      have e26 : a.eval (.tmp 26) = .int .i64 fu := H.facts 26 rfl
      (simp only [execOp]; try simp only [Option.map]); (try simp only [List.map_toArray, List.map_cons, List.map_nil]); (simp only [e14, e21, e26]; go_simp)
      all_goals (try first | go_num | omega | (rw [IntKind.wrap_i64]; omega) | (rw [IntKind.wrap_u8]; omega))
    · refine L.asked_any rfl (fun l a W H => ?_)
      have n20 : l 20 = false := H.new
      have n21 : l 21 = false := by
        cases hs : l 21 with
        | false => rfl
        | true =>
          have h1 := (H.closed 21 20 (by rfl) hs)
          rw [H.new] at h1
          cases h1
      have hW : wa.drew = W := (H.s.trans (by simp only [n21, n20, if_false, Bool.false_eq_true])).symm
      subst hW
      refine ⟨.pointer (some ⟨gz, 0, none⟩), W1, ?_, fun d hd => by cases hd; rfl, ?_, fun _ _ _ h => h⟩
      · (simp only [execOp]; try simp only [Option.map]); (try simp only [List.map_toArray, List.map_cons, List.map_nil])
        go_simp
      · simp [upd, n21]
    · refine L.asked_skip rfl rfl (fun l a W H => ?_)
      have n21 : l 21 = false := H.new
      have h20 : l 20 = true := H.deps ⟨20, .data⟩ (by simp) rfl
      have y20 : l 20 = true := h20
      have hW : W1 = W := (H.s.trans (by simp only [n21, y20, if_true, if_false, Bool.false_eq_true])).symm
      subst hW
      have e5 : a.eval (.tmp 5) = .pointer (some ⟨gz, 0, none⟩) := H.facts 5 rfl
      have e27 : a.eval (.tmp 27) = .agg #[.slice none 0 0, .slice ma mk mc, .slice ca ck cc, .int .i64 fu] := H.facts 27 rfl
      refine ⟨W2, ?_, ?_, fun _ _ h => h⟩
      · (simp only [execOp]; try simp only [Option.map]); (try simp only [List.map_toArray, List.map_cons, List.map_nil])
        simp only [e5, e27]
        have hst := run_storeVar_row (P := Try.prog) W1 gz 27 27 _ #[.slice none 0 0, .slice ma mk mc, .slice ca ck cc, .int .i64 fu] hrow1 size27 rfl (by kernel_rfl)
        simp only [Instr.storeAt, Instr.sureAddr, Sem.run_bind, Sem.run_pure, Result.andThen_ok, hst, hW2]
      · simp [upd]
  · intro l s W hall hS hs
    rw [if_pos (hall 21 (by decide))] at hS
    have hS := Eq.symm hS
    subst hS
    exact hend s (hs 5 rfl)

namespace Ir
def argsOf (n : Nat) (args : List Int) : List Int := (List.range n).map fun i => if i < args.length then args.getD i 0 else (i : Int)
/-- A right input. -/
def inpOf (I : Inp) (n : Nat) : Inp := ⟨argsOf n I.args, I.mem.take 100, I.ans.take 100, (I.fuel % 18446744073709551616) % 400⟩
theorem argsOf_len (n : Nat) (args : List Int) : (argsOf n args).length = n := by simp [argsOf]
theorem argsOf_snoc (n : Nat) (args : List Int) : argsOf (n + 1) args = argsOf n args ++ [if n < args.length then args.getD n 0 else (n : Int)] := by simp [argsOf, List.range_succ]
end Ir
theorem run_upto {ao : Option Addr} {n cap k : Nat} (hk : k ≤ n) (hn : n ≤ cap) (W : World) : (Instr.sliceAt 25 (.slice ao n cap) none (some (.int .i64 (k : Nat))) none).run Try.prog W = .ok (.slice ao k cap) W := by
  have h1 : (k : Int) ≤ (cap : Int) := by omega
  go_simp
theorem run_min100 (n : Nat) (ts : Array TypeId) (t : TypeId) (W : World) : (Builtin.min_ ts t #[.int .i64 (n : Nat), .int .i64 100]).run Try.prog W = .ok (.int .i64 ((min 100 n : Nat) : Int)) W := by
  rw [run_min_int2]
  congr 2
  split <;> omega
theorem run_cv1 (x : Int) (W : World) : (convert 3 72 (.int .i64 x)).run Try.prog W = .ok (.int .u64 (x % 18446744073709551616)) W := by
  go_simp
  rw [IntKind.wrap_u64]
theorem run_cv2 (x : Int) (h : 0 ≤ x ∧ x < 400) (W : World) : (convert 72 3 (.int .u64 x)).run Try.prog W = .ok (.int .i64 x) W := by
  go_simp
  rw [IntKind.wrap_i64]
  omega
theorem run_rem400 (x : Int) (h : 0 ≤ x) (W : World) : (binOp .rem 72 (.int .u64 x) (.int .u64 400)).run Try.prog W = .ok (.int .u64 (x % 400)) W := by
  rw [← Int.tmod_eq_emod_of_nonneg h]
  rfl

/-- Four cells, stored one behind the other. -/
theorem set4 {w : World} {g : Nat} {x0 x1 x2 x3 : Value} (y0 y1 y2 y3 : Value) (r0 : w.cell? ⟨g, 0, none⟩ = some x0) (r1 : w.cell? ⟨g, 1, none⟩ = some x1) (r2 : w.cell? ⟨g, 2, none⟩ = some x2) (r3 : w.cell? ⟨g, 3, none⟩ = some x3) : (w.setCell ⟨g, 0, none⟩ y0).cell? ⟨g, 0, none⟩ = some y0 ∧ ((w.setCell ⟨g, 0, none⟩ y0).setCell ⟨g, 1, none⟩ y1).cell? ⟨g, 1, none⟩ = some y1 ∧ (((w.setCell ⟨g, 0, none⟩ y0).setCell ⟨g, 1, none⟩ y1).setCell ⟨g, 2, none⟩ y2).cell? ⟨g, 2, none⟩ = some y2 ∧ ((((w.setCell ⟨g, 0, none⟩ y0).setCell ⟨g, 1, none⟩ y1).setCell ⟨g, 2, none⟩ y2).setCell ⟨g, 3, none⟩ y3).cell? ⟨g, 3, none⟩ = some y3 := by
  have other : ∀ (W : World) (i j : Nat) (y u : Value), i ≠ j → W.cell? ⟨g, j, none⟩ = some u → (W.setCell ⟨g, i, none⟩ y).cell? ⟨g, j, none⟩ = some u := fun W i j y u hij h => (World.cell?_setCell_other (w := W) (a := ⟨g, i, none⟩) (b := ⟨g, j, none⟩) (v := y) (by simp <;> omega)).trans h
  have s0 := World.cell?_setCell_same (w := w) (a := ⟨g, 0, none⟩) (v := y0) r0
  have s1 := World.cell?_setCell_same (w := (w.setCell ⟨g, 0, none⟩ y0)) (a := ⟨g, 1, none⟩) (v := y1) (other _ 0 1 y0 x1 (by decide) r1)
  have s2 := World.cell?_setCell_same (w := ((w.setCell ⟨g, 0, none⟩ y0).setCell ⟨g, 1, none⟩ y1)) (a := ⟨g, 2, none⟩) (v := y2) (other _ 1 2 y1 x2 (by decide) (other _ 0 2 y0 x2 (by decide) r2))
  have s3 := World.cell?_setCell_same (w := (((w.setCell ⟨g, 0, none⟩ y0).setCell ⟨g, 1, none⟩ y1).setCell ⟨g, 2, none⟩ y2)) (a := ⟨g, 3, none⟩) (v := y3) (other _ 2 3 y2 x3 (by decide) (other _ 1 3 y1 x3 (by decide) (other _ 0 3 y0 x3 (by decide) r3)))
  exact ⟨s0, s1, s2, s3⟩

set_option maxHeartbeats 2000000 in
set_option maxRecDepth 100000 in
theorem input_any (v : Value) (I : Inp) (n : Nat) (w : World) (hI : InpV w v I) (hn : n ≤ 4) : Calls Try.prog 9 #[v, .int .i64 (n : Nat)] w fun e w' => ∃ x, e = .returned x ∧ InpV w' x (inpOf I n) ∧ Below w.heap.size w w' := by
  obtain ⟨a, b, c, rfl, ha, hm, hc⟩ := hI
  obtain ⟨aa, ac, rfl⟩ := ha.slice
  obtain ⟨ma, mc, rfl⟩ := hm.slice
  obtain ⟨ca, cc, rfl⟩ := hc.slice
  have hmc := (SlV.cap hm).2.1
  have hcc := (SlV.cap hc).2.1
  have HA := hide ha
  have HM := hide hm
  have HC := hide hc
  clear ha hm hc
  go_enter Try.func9, Try.ntmps9
  go_wp2_with fail
  have hsz : (w.alloc (.cells #[.slice aa I.args.length ac, .slice ma I.mem.length mc, .slice ca I.ans.length cc, .int .i64 I.fuel] 27)).heap.size = w.heap.size + 1 := by simp
  have n1 := heap_alloc_new w (.cells #[.slice aa I.args.length ac, .slice ma I.mem.length mc, .slice ca I.ans.length cc, .int .i64 I.fuel] 27)
  have n2 := heap_alloc_new (w.alloc (.cells #[.slice aa I.args.length ac, .slice ma I.mem.length mc, .slice ca I.ans.length cc, .int .i64 I.fuel] 27)) (.cells #[.slice none 0 0, .slice none 0 0, .slice none 0 0, .int .i64 0] 27)
  have b1 := bel1' w (.cells #[.slice aa I.args.length ac, .slice ma I.mem.length mc, .slice ca I.ans.length cc, .int .i64 I.fuel] 27)
  have b2 := bel1' (w.alloc (.cells #[.slice aa I.args.length ac, .slice ma I.mem.length mc, .slice ca I.ans.length cc, .int .i64 I.fuel] 27)) (.cells #[.slice none 0 0, .slice none 0 0, .slice none 0 0, .int .i64 0] 27)
  rw [hsz] at n2 b2
  have m1 := (b2.block w.heap.size (by omega)).trans n1
  have hB0 : Below w.heap.size w _ := b1.trans (b2.mono (by omega))
  have hs0 : ((w.alloc (.cells #[.slice aa I.args.length ac, .slice ma I.mem.length mc, .slice ca I.ans.length cc, .int .i64 I.fuel] 27)).alloc (.cells #[.slice none 0 0, .slice none 0 0, .slice none 0 0, .int .i64 0] 27)).heap.size = w.heap.size + 2 := by simp
  clear n1 b1 b2 hsz
  generalize (w.alloc (.cells #[.slice aa I.args.length ac, .slice ma I.mem.length mc, .slice ca I.ans.length cc, .int .i64 I.fuel] 27)).alloc (.cells #[.slice none 0 0, .slice none 0 0, .slice none 0 0, .int .i64 0] 27) = W0 at *
  have hfu : 0 ≤ I.fuel % 18446744073709551616 := Int.emod_nonneg _ (by decide)
  obtain ⟨fu0, hfu0⟩ : ∃ fu0, fu0 = I.fuel % 18446744073709551616 := ⟨_, rfl⟩
  obtain ⟨fu, hfu1⟩ : ∃ fu, fu = fu0 % 400 := ⟨_, rfl⟩
  rw [← hfu0] at hfu
  obtain ⟨W1, hW1⟩ : ∃ W1, (W0.alloc (.cells #[.slice none 0 0, .slice none 0 0, .slice none 0 0, .int .i64 0] 27)).drew = W1 := ⟨_, rfl⟩
  obtain ⟨gz, hgz⟩ : ∃ gz, W0.heap.size = gz := ⟨_, rfl⟩
  have hrow1 : W1.heap[gz]? = some (Obj.cells #[.slice none 0 0, .slice none 0 0, .slice none 0 0, .int .i64 0] 27 (0, 0)) := by rw [← hW1, ← hgz]; exact heap_alloc_new W0 _
  have hB1 : Below gz W0 W1 := by rw [← hW1, ← hgz]; exact (bel1' W0 _).drew
  have c1 : W0.cell? ⟨w.heap.size, 1, none⟩ = some (.slice ma I.mem.length mc) := by rw [cell_of_row _ _ _ _ _ _ m1]; rfl
  have c2 : W0.cell? ⟨w.heap.size, 2, none⟩ = some (.slice ca I.ans.length cc) := by rw [cell_of_row _ _ _ _ _ _ m1]; rfl
  have c3 : W0.cell? ⟨w.heap.size, 3, none⟩ = some (.int .i64 I.fuel) := by rw [cell_of_row _ _ _ _ _ _ m1]; rfl
  have hgg : w.heap.size + 2 = gz := by rw [← hgz, hs0]
  have hB1' : Below W0.heap.size W0 W1 := by rw [hgz]; exact hB1
  have hcv : ∀ W, (convert 3 72 (.int .i64 I.fuel)).run Try.prog W = .ok (.int .u64 fu0) W := fun W => by rw [hfu0]; exact run_cv1 I.fuel W
  have hrem : ∀ W, (binOp .rem 72 (.int .u64 fu0) (.int .u64 400)).run Try.prog W = .ok (.int .u64 fu) W := fun W => by rw [hfu1]; exact run_rem400 fu0 hfu W
  have hcv2 : ∀ W, (convert 72 3 (.int .u64 fu)).run Try.prog W = .ok (.int .i64 fu) W := fun W => run_cv2 fu (by omega) W
  refine in1_ok (gi := w.heap.size) (gz := gz) (mk := min 100 I.mem.length) (ck := min 100 I.ans.length) (fu0 := fu0) (fu := fu) (W1 := W1) rfl rfl c1 (cell_below hB1' c1) c2 (cell_below hB1' c2) c3 (cell_below hB1' c3) hgz hW1 hrow1 rfl (run_min100 _) (run_min100 _) (run_upto (by omega) hmc) (run_upto (by omega) hcc) hcv hrem hcv2 ?_
  intro q h5
  have hrow2 : (W1.setRow gz #[.slice none 0 0, .slice ma (min 100 I.mem.length) mc, .slice ca (min 100 I.ans.length) cc, .int .i64 fu]).heap[gz]? = some (Obj.cells #[.slice none 0 0, .slice ma (min 100 I.mem.length) mc, .slice ca (min 100 I.ans.length) cc, .int .i64 fu] 27 (0, 0)) := setRow_heap W1 gz _ _ 27 _ hrow1
  have hB2 : Below gz W0 (W1.setRow gz #[.slice none 0 0, .slice ma (min 100 I.mem.length) mc, .slice ca (min 100 I.ans.length) cc, .int .i64 fu]) := below_setRow hB1 (Nat.le_refl _) _
  simp only [overlay, dstsOf, ops_in1_ok]
  simp [h5]
  generalize W1.setRow gz #[.slice none 0 0, .slice ma (min 100 I.mem.length) mc, .slice ca (min 100 I.ans.length) cc, .int .i64 fu] = W2 at *
  have HF := hide (And.intro hfu0 hfu1)
  have HB0 := hide (And.intro hB0 (And.intro m1 n2))
  have HB2 := hide hB2
  have HR2 := hide hrow2
  have hsz2 : gz ≤ W2.heap.size := by rw [← hgz]; exact hB2.size
  clear hcv hrem hcv2 hfu hfu0 hfu1 hB1 hB1' hrow1 hW1 c1 c2 c3 m1 n2 hB0 hs0 hB2 hrow2 h5 hgz hmc hcc
  have HMK := hide (HM.out.take 100)
  have HCK := hide (HC.out.take 100)
  generalize min 100 I.mem.length = mk at *
  generalize min 100 I.ans.length = ck at *
  have hnn : (n : Int) ≤ 4 := by omega
  go_wp2_with fail
  go_loopw [29] (fun iv wr => ∃ (j : Nat) (ua : Value), j ≤ n ∧ iv = .int .i64 j ∧ wr.heap[gz]? = some (Obj.cells #[ua, .slice ma mk mc, .slice ca ck cc, .int .i64 fu] 27 (0, 0)) ∧ NumsO gz wr ua (argsOf j I.args) ∧ Below gz W0 wr) (fun iv _ => n - (intOf iv).toNat)
  case atStart => exact ⟨0, _, by omega, rfl, HR2.out, NumsO.nil _ _, HB2.out⟩
  case round =>
    obtain ⟨j, ua, hj, rfl, hr, hO, hBr⟩ := hrel
    have hgr : gz < wr.heap.size := (Array.getElem?_eq_some_iff.1 hr).1
    obtain ⟨ua1, uc1, rfl⟩ := hO.v.slice
    rw [argsOf_len] at hr hO
    have hbox : wr.heap[w.heap.size]? = _ := (hBr.block w.heap.size (by omega)).trans HB0.out.2.1
    have i0 : wr.cell? ⟨w.heap.size, 0, none⟩ = some (.slice aa I.args.length ac) := by rw [cell_of_row _ _ _ _ _ _ hbox]; rfl
    have r0 : wr.cell? ⟨gz, 0, none⟩ = some (.slice ua1 j uc1) := by rw [cell_of_row _ _ _ _ _ _ hr]; rfl
    by_cases hlt : j < n
    · obtain ⟨x, hx⟩ : ∃ x, x = (if j < I.args.length then I.args.getD j 0 else (j : Int)) := ⟨_, rfl⟩
      have hB1 := bel1' wr (.cells #[.int .i64 x] 2)
      have hc1 : (wr.alloc (.cells #[.int .i64 x] 2)).cell? ⟨wr.heap.size, 0, none⟩ = some (.int .i64 x) := by rw [cell_of_row _ _ _ _ _ _ (heap_alloc_new wr _)]; rfl
      have hO1 : NumsO gz (wr.alloc (.cells #[.int .i64 x] 2)) (.slice ua1 j uc1) (argsOf j I.args) := hO.kept fun k e => hB1.block k (hO.own k e).2.1
      obtain ⟨va, vn, vc, W4, hrun, hO4, hg4⟩ := run_app2 _ hO1 hc1 (by rw [argsOf_len]; omega) (Nat.le_trans (Nat.le_of_lt hgr) hB1.size)
      have hne : ¬ some gz = (Value.slice ua1 j uc1).ownBlock := fun e => by
        obtain ⟨_, _, cs, hcs⟩ := hO.own gz e.symm
        rw [hr] at hcs
        simp at hcs
      have hr4 : W4.heap[gz]? = some (Obj.cells #[.slice ua1 j uc1, .slice ma mk mc, .slice ca ck cc, .int .i64 fu] 27 (0, 0)) := (hg4.block gz (Nat.lt_of_lt_of_le hgr hB1.size) hne).trans ((hB1.block gz hgr).trans hr)
      have hB4 : Below gz W0 W4 := (hBr.trans (hB1.mono (Nat.le_of_lt hgr))).grown hg4 (Nat.le_trans (Nat.le_of_lt hgr) hB1.size) fun k e => (hO.own k e).1
      have q0 : W4.cell? ⟨gz, 0, none⟩ = some (.slice ua1 j uc1) := by rw [cell_of_row _ _ _ _ _ _ hr4]; rfl
      have f0 : W4.frozen? ⟨gz, 0, none⟩ = false := frozen_of_row _ _ _ _ _ hr4
      have hr5 : (W4.setCell ⟨gz, 0, none⟩ (.slice va vn vc)).heap[gz]? = some (Obj.cells #[.slice va vn vc, .slice ma mk mc, .slice ca ck cc, .int .i64 fu] 27 (0, 0)) := by
        rw [heap_setCell_same W4 gz 0 _ _ _ hr4]
        rfl
      have hO5 : NumsO gz (W4.setCell ⟨gz, 0, none⟩ (.slice va vn vc)) (.slice va vn vc) (argsOf (j + 1) I.args) := by
        rw [argsOf_snoc, ← hx]
        exact hO4.kept fun k e => Below.heap_setCell _ _ _ _ (fun e2 => by
          simp only at e2
          subst e2
          obtain ⟨_, _, cs, hcs⟩ := hO4.own _ e
          rw [hr4] at hcs
          simp at hcs)
      have HREL := hide (And.intro hr5 (And.intro hO5 (hB4.setCell (p := ⟨gz, 0, none⟩) (Nat.le_refl _) (.slice va vn vc))))
      have hlt' : (j : Int) < (n : Int) := by omega
      have HRUN := hide hrun
      clear hrun
      by_cases hin : j < I.args.length
      · have hBw : Below w.heap.size w wr := HB0.out.1.trans (hBr.mono (by omega))
        obtain ⟨ab, aoff, rfl, hcx⟩ := IntsV.at (HA.out.below hBw) j hin
        rw [if_pos hin] at hx
        rw [← hx] at hcx
        have hin' : (j : Int) < (I.args.length : Int) := by omega
        clear hr5 hO5 hB4 hr4 hne hO4 hg4 hO1 hc1 hB1 hbox hr hO hBr hx hin hBw HR2 HB2
        go_wp2_with (refine wpList_appR (ux := .slice ua1 j uc1) (uy := .slice (some ⟨wr.heap.size, 0, none⟩) 1 1) (V := .slice va vn vc) 25 rfl (.tmp 44) (.tmp 46) rfl rfl rfl rfl HRUN.out ?_)
        go_roundw
        case rel => exact ⟨j + 1, _, by omega, by go_num, HREL.out.1, HREL.out.2.1, HREL.out.2.2⟩
        case measure => simp [intOf]; omega
      · rw [if_neg hin] at hx
        subst hx
        have hin' : (I.args.length : Int) ≤ (j : Int) := by omega
        clear hr5 hO5 hB4 hr4 hne hO4 hg4 hO1 hc1 hB1 hbox hr hO hBr hin HR2 HB2
        go_wp2_with (refine wpList_appR (ux := .slice ua1 j uc1) (uy := .slice (some ⟨wr.heap.size, 0, none⟩) 1 1) (V := .slice va vn vc) 25 rfl (.tmp 44) (.tmp 46) rfl rfl rfl rfl HRUN.out ?_)
        go_roundw
        case rel => exact ⟨j + 1, _, by omega, by go_num, HREL.out.1, HREL.out.2.1, HREL.out.2.2⟩
        case measure => simp [intOf]; omega
    · obtain rfl : j = n := by omega
      have r1 : wr.cell? ⟨gz, 1, none⟩ = some (.slice ma mk mc) := by rw [cell_of_row _ _ _ _ _ _ hr]; rfl
      have r2 : wr.cell? ⟨gz, 2, none⟩ = some (.slice ca ck cc) := by rw [cell_of_row _ _ _ _ _ _ hr]; rfl
      have r3 : wr.cell? ⟨gz, 3, none⟩ = some (.int .i64 fu) := by rw [cell_of_row _ _ _ _ _ _ hr]; rfl
      have hres : wr.heap[w.heap.size + 1]? = _ := (hBr.block (w.heap.size + 1) (by omega)).trans HB0.out.2.2
      have HREL := hide (And.intro hO (And.intro hBr hres))
      have hz0 : wr.cell? ⟨w.heap.size + 1, 0, none⟩ = some (.slice none 0 0) := by rw [cell_of_row _ _ _ _ _ _ hres]; rfl
      have hz1 : wr.cell? ⟨w.heap.size + 1, 1, none⟩ = some (.slice none 0 0) := by rw [cell_of_row _ _ _ _ _ _ hres]; rfl
      have hz2 : wr.cell? ⟨w.heap.size + 1, 2, none⟩ = some (.slice none 0 0) := by rw [cell_of_row _ _ _ _ _ _ hres]; rfl
      have hz3 : wr.cell? ⟨w.heap.size + 1, 3, none⟩ = some (.int .i64 0) := by rw [cell_of_row _ _ _ _ _ _ hres]; rfl
      have hf0 : wr.frozen? ⟨w.heap.size + 1, 0, none⟩ = false := frozen_of_row _ _ _ _ _ hres
      have hf1 : wr.frozen? ⟨w.heap.size + 1, 1, none⟩ = false := frozen_of_row _ _ _ _ _ hres
      have hf2 : wr.frozen? ⟨w.heap.size + 1, 2, none⟩ = false := frozen_of_row _ _ _ _ _ hres
      have hf3 : wr.frozen? ⟨w.heap.size + 1, 3, none⟩ = false := frozen_of_row _ _ _ _ _ hres
      obtain ⟨q0, q1, q2, q3⟩ := set4 (.slice ua1 j uc1) (.slice ma mk mc) (.slice ca ck cc) (.int .i64 fu) hz0 hz1 hz2 hz3
      clear hr hO hBr hbox i0 hres
      go_wp2_with fail
      refine bodyPost_ret (v := .agg #[.slice ua1 j uc1, .slice ma mk mc, .slice ca ck cc, .int .i64 fu]) (by simp [results, Try.results9, go_sem, q0, q1, q2, q3]) rfl ?_
      have hBf : Below w.heap.size w ((((wr.setCell ⟨w.heap.size + 1, 0, none⟩ (.slice ua1 j uc1)).setCell ⟨w.heap.size + 1, 1, none⟩ (.slice ma mk mc)).setCell ⟨w.heap.size + 1, 2, none⟩ (.slice ca ck cc)).setCell ⟨w.heap.size + 1, 3, none⟩ (.int .i64 fu)) := ((((HB0.out.1.trans (HREL.out.2.1.mono (by omega))).setCell (by simp) _).setCell (by simp) _).setCell (by simp) _).setCell (by simp) _
      refine ⟨_, rfl, ⟨.slice ua1 j uc1, .slice ma mk mc, .slice ca ck cc, ?_, ?_, HMK.out.below hBf, HCK.out.below hBf⟩, hBf⟩
      · show Value.agg _ = Value.agg _
        rw [HF.out.2, HF.out.1]
        rfl
      · refine NumsO.v (B := gz) (HREL.out.1.kept fun k e => ?_)
        have hk := (HREL.out.1.own k e).1
        rw [Below.heap_setCell _ _ _ _ (by simp only; omega), Below.heap_setCell _ _ _ _ (by simp only; omega), Below.heap_setCell _ _ _ _ (by simp only; omega), Below.heap_setCell _ _ _ _ (by simp only; omega)]
end Go.Proofs.Ytepmbkiojpffpaa
