/- ExecPlain: the fills are put ahead of the first block's instructions. -/
import Derived.Test.YtepmbkiojpffpaaXp0
namespace Go.Proofs.Ytepmbkiojpffpaa
open Go Go.RowKit Ir

def ops_xp21_ok : Array Oper := #[⟨some 84, .fieldAddr 31 (.tmp 8) 3, 0, "law.go:79", #[], none⟩, ⟨some 85, .load 29 (.tmp 84), 29, "law.go:79", #[⟨0, .data⟩], none⟩, ⟨some 86, .move (.tmp 9), 55, "law.go:79", #[], none⟩, ⟨some 87, .fieldAddr 31 (.tmp 8) 3, 0, "law.go:79", #[], none⟩, ⟨some 88, .load 29 (.tmp 87), 29, "law.go:79", #[⟨3, .data⟩], none⟩, ⟨some 89, .indexAddr 29 (.tmp 88) (.const (.int .i64 0)), 0, "law.go:79", #[⟨4, .data⟩], none⟩, ⟨some 90, .fieldAddr 60 (.tmp 89) 0, 0, "law.go:79", #[⟨5, .data⟩], none⟩, ⟨some 91, .load 55 (.tmp 90), 55, "law.go:79", #[⟨6, .data⟩], none⟩, ⟨some 92, .call { callee := Callee.builtin Builtin.append, args := #[.tmp 86, .tmp 91], argTypes := #[55, 55] }, 55, "law.go:79", #[⟨2, .data⟩, ⟨7, .data⟩], none⟩, ⟨some 93, .indexAddr 29 (.tmp 85) (.const (.int .i64 0)), 0, "law.go:79", #[⟨1, .data⟩, ⟨0, .phase⟩, ⟨1, .phase⟩, ⟨2, .phase⟩, ⟨3, .phase⟩, ⟨4, .phase⟩, ⟨5, .phase⟩, ⟨6, .phase⟩, ⟨7, .phase⟩, ⟨8, .phase⟩], none⟩, ⟨some 94, .fieldAddr 60 (.tmp 93) 0, 0, "law.go:79", #[⟨9, .data⟩, ⟨0, .phase⟩, ⟨1, .phase⟩, ⟨2, .phase⟩, ⟨3, .phase⟩, ⟨4, .phase⟩, ⟨5, .phase⟩, ⟨6, .phase⟩, ⟨7, .phase⟩, ⟨8, .phase⟩], none⟩, ⟨none, .store 55 (.tmp 94) (.tmp 92), 0, "law.go:79", #[⟨10, .data⟩, ⟨8, .data⟩, ⟨8, .chain⟩, ⟨0, .phase⟩, ⟨1, .phase⟩, ⟨2, .phase⟩, ⟨3, .phase⟩, ⟨4, .phase⟩, ⟨5, .phase⟩, ⟨6, .phase⟩, ⟨7, .phase⟩, ⟨8, .phase⟩], none⟩]
/-- What is known of each temporary. -/
def G_xp21_ok (gk g7 nb c7 qn qc vn vc zn zc : Nat) (qa va za : Option Addr) : Tmp → Value → World → Prop
  | 84, xx, _ => xx = .pointer (some ⟨gk, 3, none⟩)
  | 85, xx, _ => xx = .slice (some ⟨g7, 0, none⟩) nb c7
  | 86, xx, _ => xx = .slice va vn vc
  | 87, xx, _ => xx = .pointer (some ⟨gk, 3, none⟩)
  | 88, xx, _ => xx = .slice (some ⟨g7, 0, none⟩) nb c7
  | 89, xx, _ => xx = .pointer (some ⟨g7, 0, none⟩)
  | 90, xx, _ => xx = .pointer (some ⟨g7, 0, none⟩)
  | 91, xx, _ => xx = .slice qa qn qc
  | 92, xx, _ => xx = .slice za zn zc
  | 93, xx, _ => xx = .pointer (some ⟨g7, 0, none⟩)
  | 94, xx, _ => xx = .pointer (some ⟨g7, 0, none⟩)
  | _, _, _ => True
set_option maxHeartbeats 1000000 in
set_option maxRecDepth 100000 in
theorem xp21_ok {Q : Exit → Act → World → Prop} {a0 : Act} {wa : World} {gk g7 nb c7 qn qc vn vc zn zc : Nat} {qa va za : Option Addr} {W9 : World} (hz : a0.tmps.size = 122) (b8 : a0.eval (.tmp 8) = .pointer (some ⟨gk, 0, none⟩)) (b9 : a0.eval (.tmp 9) = .slice va vn vc)
    (m3 : wa.cell? ⟨gk, 3, none⟩ = some (.slice (some ⟨g7, 0, none⟩) nb c7)) (m3_1 : (W9).cell? ⟨gk, 3, none⟩ = some (.slice (some ⟨g7, 0, none⟩) nb c7)) (m0 : wa.cell? ⟨g7, 0, none⟩ = some (.slice qa qn qc)) (m0_1 : (W9).cell? ⟨g7, 0, none⟩ = some (.slice qa qn qc)) (f0 : (W9).frozen? ⟨g7, 0, none⟩ = false) (hnb : (0 : Int) < (nb : Int)) (hrun : (Builtin.append_ #[55, 55] 55 #[.slice va vn vc, .slice qa qn qc]).run Try.prog wa.drew = .ok (.slice za zn zc) W9)
    (hend : ∀ s : Tmp → Value, Q .normal (overlay a0 (dstsOf ops_xp21_ok) s) (W9.setCell ⟨g7, 0, none⟩ (.slice za zn zc))) : (Code.region 21 ops_xp21_ok true).wp Try.prog Q a0 wa := by
  have m3 : wa.drew.cell? ⟨gk, 3, none⟩ = some (.slice (some ⟨g7, 0, none⟩) nb c7) := m3
  have m0 : wa.drew.cell? ⟨g7, 0, none⟩ = some (.slice qa qn qc) := m0
  refine L.wp_region_eachL (by kernel_rfl) (fun _ tt yv _ => G_xp21_ok gk g7 nb c7 qn qc vn vc zn zc qa va za tt yv wa) (fun l W => W = if l 11 = true then W9.setCell ⟨g7, 0, none⟩ (.slice za zn zc) else (if l 8 = true then W9 else wa.drew)) (by rw [hz]; kernel_rfl) rfl ?_ ?_
  · refine And.intro ?_ (And.intro ?_ (And.intro ?_ (And.intro ?_ (And.intro ?_ (And.intro ?_ (And.intro ?_ (And.intro ?_ (And.intro ?_ (And.intro ?_ (And.intro ?_ (And.intro ?_ trivial)))))))))))
    · refine L.asked_pure rfl rfl (fun _ _ h => h) (fun _ _ _ _ _ h => h) (fun _ _ _ => rfl) (fun l a W H => ?_)
      have e8 : a.eval (.tmp 8) = .pointer (some ⟨gk, 0, none⟩) := (H.base 8 rfl).trans b8
      (simp only [execOp]; try simp only [Option.map]); (try simp only [List.map_toArray, List.map_cons, List.map_nil]); (simp only [e8]; go_simp)
      all_goals (try first | go_num | omega | (rw [IntKind.wrap_i64]; omega) | (rw [IntKind.wrap_u8]; omega))
    · refine L.asked_pure rfl rfl (fun _ _ h => h) (fun _ _ _ _ _ h => h) (fun _ _ _ => rfl) (fun l a W H => ?_)
      have n11 : l 11 = false := by
        cases hs : l 11 with
        | false => rfl
        | true =>
          have h1 := (H.closed 11 1 (by rfl) hs)
          rw [H.new] at h1
          cases h1
      cases hc8 : l 8 with
      | true =>
        have y8 : l 8 = true := hc8
        have hW : W9 = W := (H.s.trans (by simp only [n11, y8, if_true, if_false, Bool.false_eq_true])).symm
        subst hW
        have e84 : a.eval (.tmp 84) = .pointer (some ⟨gk, 3, none⟩) := H.facts 84 rfl
        (simp only [execOp]; try simp only [Option.map]); (try simp only [List.map_toArray, List.map_cons, List.map_nil]); (simp only [e84]; go_simp)
        all_goals (try first | go_num | omega | (rw [IntKind.wrap_i64]; omega) | (rw [IntKind.wrap_u8]; omega))
      | false =>
        have n8 : l 8 = false := hc8
        have hW : wa.drew = W := (H.s.trans (by simp only [n11, n8, if_false, Bool.false_eq_true])).symm
        subst hW
        have e84 : a.eval (.tmp 84) = .pointer (some ⟨gk, 3, none⟩) := H.facts 84 rfl
        (simp only [execOp]; try simp only [Option.map]); (try simp only [List.map_toArray, List.map_cons, List.map_nil]); (simp only [e84]; go_simp)
        all_goals (try first | go_num | omega | (rw [IntKind.wrap_i64]; omega) | (rw [IntKind.wrap_u8]; omega))
    · refine L.asked_pure rfl rfl (fun _ _ h => h) (fun _ _ _ _ _ h => h) (fun _ _ _ => rfl) (fun l a W H => ?_)
      have e9 : a.eval (.tmp 9) = .slice va vn vc := (H.base 9 rfl).trans b9
      exact run_move rfl e9
    · refine L.asked_pure rfl rfl (fun _ _ h => h) (fun _ _ _ _ _ h => h) (fun _ _ _ => rfl) (fun l a W H => ?_)
      have e8 : a.eval (.tmp 8) = .pointer (some ⟨gk, 0, none⟩) := (H.base 8 rfl).trans b8
      (simp only [execOp]; try simp only [Option.map]); (try simp only [List.map_toArray, List.map_cons, List.map_nil]); (simp only [e8]; go_simp)
      all_goals (try first | go_num | omega | (rw [IntKind.wrap_i64]; omega) | (rw [IntKind.wrap_u8]; omega))
    · refine L.asked_pure rfl rfl (fun _ _ h => h) (fun _ _ _ _ _ h => h) (fun _ _ _ => rfl) (fun l a W H => ?_)
      have n8 : l 8 = false := by
        cases hs : l 8 with
        | false => rfl
        | true =>
          have h1 := (H.closed 5 4 (by rfl) (H.closed 6 5 (by rfl) (H.closed 7 6 (by rfl) (H.closed 8 7 (by rfl) hs))))
          rw [H.new] at h1
          cases h1
      have n11 : l 11 = false := by
        cases hs : l 11 with
        | false => rfl
        | true =>
          have h1 := (H.closed 11 4 (by rfl) hs)
          rw [H.new] at h1
          cases h1
      have hW : wa.drew = W := (H.s.trans (by simp only [n11, n8, if_false, Bool.false_eq_true])).symm
      subst hW
      have e87 : a.eval (.tmp 87) = .pointer (some ⟨gk, 3, none⟩) := H.facts 87 rfl
      (simp only [execOp]; try simp only [Option.map]); (try simp only [List.map_toArray, List.map_cons, List.map_nil]); (simp only [e87]; go_simp)
      all_goals (try first | go_num | omega | (rw [IntKind.wrap_i64]; omega) | (rw [IntKind.wrap_u8]; omega))
    · refine L.asked_pure rfl rfl (fun _ _ h => h) (fun _ _ _ _ _ h => h) (fun _ _ _ => rfl) (fun l a W H => ?_)
      have e88 : a.eval (.tmp 88) = .slice (some ⟨g7, 0, none⟩) nb c7 := H.facts 88 rfl
      (simp only [execOp]; try simp only [Option.map]); (try simp only [List.map_toArray, List.map_cons, List.map_nil]); (simp only [e88]; go_simp)
      all_goals (try first | go_num | omega | (rw [IntKind.wrap_i64]; omega) | (rw [IntKind.wrap_u8]; omega))
    · refine L.asked_pure rfl rfl (fun _ _ h => h) (fun _ _ _ _ _ h => h) (fun _ _ _ => rfl) (fun l a W H => ?_)
      have e89 : a.eval (.tmp 89) = .pointer (some ⟨g7, 0, none⟩) := H.facts 89 rfl
      (simp only [execOp]; try simp only [Option.map]); (try simp only [List.map_toArray, List.map_cons, List.map_nil]); (simp only [e89]; go_simp)
      all_goals (try first | go_num | omega | (rw [IntKind.wrap_i64]; omega) | (rw [IntKind.wrap_u8]; omega))
    · refine L.asked_pure rfl rfl (fun _ _ h => h) (fun _ _ _ _ _ h => h) (fun _ _ _ => rfl) (fun l a W H => ?_)
      have n8 : l 8 = false := by
        cases hs : l 8 with
        | false => rfl
        | true =>
          have h1 := (H.closed 8 7 (by rfl) hs)
          rw [H.new] at h1
          cases h1
      have n11 : l 11 = false := by
        cases hs : l 11 with
        | false => rfl
        | true =>
          have h1 := (H.closed 11 7 (by rfl) hs)
          rw [H.new] at h1
          cases h1
      have hW : wa.drew = W := (H.s.trans (by simp only [n11, n8, if_false, Bool.false_eq_true])).symm
      subst hW
      have e90 : a.eval (.tmp 90) = .pointer (some ⟨g7, 0, none⟩) := H.facts 90 rfl
      (simp only [execOp]; try simp only [Option.map]); (try simp only [List.map_toArray, List.map_cons, List.map_nil]); (simp only [e90]; go_simp)
      all_goals (try first | go_num | omega | (rw [IntKind.wrap_i64]; omega) | (rw [IntKind.wrap_u8]; omega))
    · refine L.asked_any rfl (fun l a W H => ?_)
      have n8 : l 8 = false := H.new
      have n11 : l 11 = false := by
        cases hs : l 11 with
        | false => rfl
        | true =>
          have h1 := (H.closed 11 8 (by rfl) hs)
          rw [H.new] at h1
          cases h1
      have hW : wa.drew = W := (H.s.trans (by simp only [n11, n8, if_false, Bool.false_eq_true])).symm
      subst hW
      have e86 : a.eval (.tmp 86) = .slice va vn vc := H.facts 86 rfl
      have e91 : a.eval (.tmp 91) = .slice qa qn qc := H.facts 91 rfl
      refine ⟨.slice za zn zc, W9, ?_, fun d hd => by cases hd; rfl, ?_, fun _ _ _ h => h⟩
      · simp only [execOp, resolve, invoke, builtin, Sem.run_bind, Sem.run_pure, Result.andThen_ok, List.map_toArray, List.map_cons, List.map_nil, e86, e91, hrun]
      · simp [upd, n11]
    · refine L.asked_pure rfl rfl (fun _ _ h => h) (fun _ _ _ _ _ h => h) (fun _ _ _ => rfl) (fun l a W H => ?_)
      have e85 : a.eval (.tmp 85) = .slice (some ⟨g7, 0, none⟩) nb c7 := H.facts 85 rfl
      (simp only [execOp]; try simp only [Option.map]); (try simp only [List.map_toArray, List.map_cons, List.map_nil]); (simp only [e85]; go_simp)
      all_goals (try first | go_num | omega | (rw [IntKind.wrap_i64]; omega) | (rw [IntKind.wrap_u8]; omega))
    · refine L.asked_pure rfl rfl (fun _ _ h => h) (fun _ _ _ _ _ h => h) (fun _ _ _ => rfl) (fun l a W H => ?_)
      have e93 : a.eval (.tmp 93) = .pointer (some ⟨g7, 0, none⟩) := H.facts 93 rfl
      (simp only [execOp]; try simp only [Option.map]); (try simp only [List.map_toArray, List.map_cons, List.map_nil]); (simp only [e93]; go_simp)
      all_goals (try first | go_num | omega | (rw [IntKind.wrap_i64]; omega) | (rw [IntKind.wrap_u8]; omega))
    · refine L.asked_skip rfl rfl (fun l a W H => ?_)
      have n11 : l 11 = false := H.new
      have h8 : l 8 = true := H.deps ⟨8, .data⟩ (by simp) rfl
      have y8 : l 8 = true := h8
      have hW : W9 = W := (H.s.trans (by simp only [n11, y8, if_true, if_false, Bool.false_eq_true])).symm
      subst hW
      have e94 : a.eval (.tmp 94) = .pointer (some ⟨g7, 0, none⟩) := H.facts 94 rfl
      have e92 : a.eval (.tmp 92) = .slice za zn zc := H.facts 92 rfl
      refine ⟨W9.setCell ⟨g7, 0, none⟩ (.slice za zn zc), ?_, ?_, fun _ _ h => h⟩
      · (simp only [execOp]; try simp only [Option.map]); (try simp only [List.map_toArray, List.map_cons, List.map_nil])
        simp only [e94, e92]
        go_simp
      · simp [upd]
  · intro l s W hall hS hs
    rw [if_pos (hall 11 (by decide))] at hS
    have hS := Eq.symm hS
    subst hS
    exact hend s

end Go.Proofs.Ytepmbkiojpffpaa
