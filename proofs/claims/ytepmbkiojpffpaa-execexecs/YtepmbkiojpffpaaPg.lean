/- Regions of the document's Play that draw their order, each over any activation. -/
import Derived.Test.YtepmbkiojpffpaaSm
import Derived.Test.YtepmbkiojpffpaaAny
import Derived.Test.YtepmbkiojpffpaaOps
namespace Go.Proofs.Ytepmbkiojpffpaa
open Go Go.RowKit Ir

def ops_py16_ok : Array Oper := #[⟨some 88, .move (.tmp 11), 25, "ref.go:165", #[], none⟩, ⟨some 89, .fieldAddr 65 (.tmp 18) 2, 0, "ref.go:165", #[], none⟩, ⟨some 90, .load 3 (.tmp 89), 3, "ref.go:165", #[⟨1, .data⟩], none⟩, ⟨some 91, .move (.tmp 11), 25, "ref.go:165", #[], none⟩, ⟨some 92, .fieldAddr 65 (.tmp 18) 3, 0, "ref.go:165", #[], none⟩, ⟨some 93, .load 3 (.tmp 92), 3, "ref.go:165", #[⟨4, .data⟩], none⟩, ⟨some 94, .indexAddr 25 (.tmp 91) (.tmp 93), 0, "ref.go:165", #[⟨3, .data⟩, ⟨5, .data⟩], none⟩, ⟨some 95, .load 2 (.tmp 94), 2, "ref.go:165", #[⟨6, .data⟩], none⟩, ⟨some 96, .indexAddr 25 (.tmp 88) (.tmp 90), 0, "ref.go:165", #[⟨0, .data⟩, ⟨2, .data⟩, ⟨0, .phase⟩, ⟨1, .phase⟩, ⟨2, .phase⟩, ⟨3, .phase⟩, ⟨4, .phase⟩, ⟨5, .phase⟩, ⟨6, .phase⟩, ⟨7, .phase⟩], none⟩, ⟨none, .store 2 (.tmp 96) (.tmp 95), 0, "ref.go:165", #[⟨8, .data⟩, ⟨7, .data⟩, ⟨0, .phase⟩, ⟨1, .phase⟩, ⟨2, .phase⟩, ⟨3, .phase⟩, ⟨4, .phase⟩, ⟨5, .phase⟩, ⟨6, .phase⟩, ⟨7, .phase⟩], none⟩]
/-- What is known of each temporary. -/
def G_py16_ok (gp gb n d b : Nat) (x : Int) : Tmp → Value → World → Prop
  | 88, xx, _ => xx = .slice (some ⟨gp, 0, none⟩) n n
  | 89, xx, _ => xx = .pointer (some ⟨gb, 2, none⟩)
  | 90, xx, _ => xx = .int .i64 (d : Nat)
  | 91, xx, _ => xx = .slice (some ⟨gp, 0, none⟩) n n
  | 92, xx, _ => xx = .pointer (some ⟨gb, 3, none⟩)
  | 93, xx, _ => xx = .int .i64 (b : Nat)
  | 94, xx, _ => xx = .pointer (some ⟨gp, b, none⟩)
  | 95, xx, _ => xx = .int .i64 x
  | 96, xx, _ => xx = .pointer (some ⟨gp, d, none⟩)
  | _, _, _ => True
set_option maxHeartbeats 1000000 in
set_option maxRecDepth 100000 in
theorem py16_ok {Q : Exit → Act → World → Prop} {a0 : Act} {wa : World} {gp gb n d b : Nat} {x : Int} {y : Value} (hz : a0.tmps.size = 297) (b11 : a0.eval (.tmp 11) = .slice (some ⟨gp, 0, none⟩) n n) (b18 : a0.eval (.tmp 18) = .pointer (some ⟨gb, 0, none⟩))
    (m2 : wa.cell? ⟨gb, 2, none⟩ = some (.int .i64 (d : Nat))) (m3 : wa.cell? ⟨gb, 3, none⟩ = some (.int .i64 (b : Nat))) (p1 : wa.cell? ⟨gp, b, none⟩ = some (.int .i64 x)) (p0 : wa.cell? ⟨gp, d, none⟩ = some (y)) (f0 : wa.frozen? ⟨gp, d, none⟩ = false) (hd : (d : Int) < (n : Int)) (hb : (b : Int) < (n : Int))
    (hend : ∀ s : Tmp → Value, Q .normal (overlay a0 (dstsOf ops_py16_ok) s) (wa.drew.setCell ⟨gp, d, none⟩ (.int .i64 x))) : (Code.region 16 ops_py16_ok true).wp Try.prog Q a0 wa := by
  have m2 : wa.drew.cell? ⟨gb, 2, none⟩ = some (.int .i64 (d : Nat)) := m2
  have m3 : wa.drew.cell? ⟨gb, 3, none⟩ = some (.int .i64 (b : Nat)) := m3
  have p1 : wa.drew.cell? ⟨gp, b, none⟩ = some (.int .i64 x) := p1
  have p0 : wa.drew.cell? ⟨gp, d, none⟩ = some (y) := p0
  have f0 : wa.drew.frozen? ⟨gp, d, none⟩ = false := f0
  refine L.wp_region_eachL (by kernel_rfl) (fun _ tt yv _ => G_py16_ok gp gb n d b x tt yv wa) (fun l W => W = if l 9 = true then wa.drew.setCell ⟨gp, d, none⟩ (.int .i64 x) else wa.drew) (by rw [hz]; kernel_rfl) rfl ?_ ?_
  · refine And.intro ?_ (And.intro ?_ (And.intro ?_ (And.intro ?_ (And.intro ?_ (And.intro ?_ (And.intro ?_ (And.intro ?_ (And.intro ?_ (And.intro ?_ trivial)))))))))
    · refine L.asked_pure rfl rfl (fun _ _ h => h) (fun _ _ _ _ _ h => h) (fun _ _ _ => rfl) (fun l a W H => ?_)
      have e11 : a.eval (.tmp 11) = .slice (some ⟨gp, 0, none⟩) n n := (H.base 11 rfl).trans b11
      exact run_move rfl e11
    · refine L.asked_pure rfl rfl (fun _ _ h => h) (fun _ _ _ _ _ h => h) (fun _ _ _ => rfl) (fun l a W H => ?_)
      have e18 : a.eval (.tmp 18) = .pointer (some ⟨gb, 0, none⟩) := (H.base 18 rfl).trans b18
      simp only [execOp, e18]; go_simp
    · refine L.asked_pure rfl rfl (fun _ _ h => h) (fun _ _ _ _ _ h => h) (fun _ _ _ => rfl) (fun l a W H => ?_)
      have n9 : l 9 = false := by
        cases hs : l 9 with
        | false => rfl
        | true =>
          have h1 := (H.closed 9 2 (by rfl) hs)
          rw [H.new] at h1
          cases h1
      have hW : wa.drew = W := (H.s.trans (by simp only [n9, if_false, Bool.false_eq_true])).symm
      subst hW
      have e89 : a.eval (.tmp 89) = .pointer (some ⟨gb, 2, none⟩) := H.facts 89 rfl
      simp only [execOp, e89]; go_simp
    · refine L.asked_pure rfl rfl (fun _ _ h => h) (fun _ _ _ _ _ h => h) (fun _ _ _ => rfl) (fun l a W H => ?_)
      have e11 : a.eval (.tmp 11) = .slice (some ⟨gp, 0, none⟩) n n := (H.base 11 rfl).trans b11
      exact run_move rfl e11
    · refine L.asked_pure rfl rfl (fun _ _ h => h) (fun _ _ _ _ _ h => h) (fun _ _ _ => rfl) (fun l a W H => ?_)
      have e18 : a.eval (.tmp 18) = .pointer (some ⟨gb, 0, none⟩) := (H.base 18 rfl).trans b18
      simp only [execOp, e18]; go_simp
    · refine L.asked_pure rfl rfl (fun _ _ h => h) (fun _ _ _ _ _ h => h) (fun _ _ _ => rfl) (fun l a W H => ?_)
      have n9 : l 9 = false := by
        cases hs : l 9 with
        | false => rfl
        | true =>
          have h1 := (H.closed 9 5 (by rfl) hs)
          rw [H.new] at h1
          cases h1
      have hW : wa.drew = W := (H.s.trans (by simp only [n9, if_false, Bool.false_eq_true])).symm
      subst hW
      have e92 : a.eval (.tmp 92) = .pointer (some ⟨gb, 3, none⟩) := H.facts 92 rfl
      simp only [execOp, e92]; go_simp
    · refine L.asked_pure rfl rfl (fun _ _ h => h) (fun _ _ _ _ _ h => h) (fun _ _ _ => rfl) (fun l a W H => ?_)
      have e91 : a.eval (.tmp 91) = .slice (some ⟨gp, 0, none⟩) n n := H.facts 91 rfl
      have e93 : a.eval (.tmp 93) = .int .i64 (b : Nat) := H.facts 93 rfl
      simp only [execOp, e91, e93]; go_simp
    · refine L.asked_pure rfl rfl (fun _ _ h => h) (fun _ _ _ _ _ h => h) (fun _ _ _ => rfl) (fun l a W H => ?_)
      have n9 : l 9 = false := by
        cases hs : l 9 with
        | false => rfl
        | true =>
          have h1 := (H.closed 9 7 (by rfl) hs)
          rw [H.new] at h1
          cases h1
      have hW : wa.drew = W := (H.s.trans (by simp only [n9, if_false, Bool.false_eq_true])).symm
      subst hW
      have e94 : a.eval (.tmp 94) = .pointer (some ⟨gp, b, none⟩) := H.facts 94 rfl
      simp only [execOp, e94]; go_simp
    · refine L.asked_pure rfl rfl (fun _ _ h => h) (fun _ _ _ _ _ h => h) (fun _ _ _ => rfl) (fun l a W H => ?_)
      have e88 : a.eval (.tmp 88) = .slice (some ⟨gp, 0, none⟩) n n := H.facts 88 rfl
      have e90 : a.eval (.tmp 90) = .int .i64 (d : Nat) := H.facts 90 rfl
      simp only [execOp, e88, e90]; go_simp
    · refine L.asked_skip rfl rfl (fun l a W H => ?_)
      have n9 : l 9 = false := H.new
      have hW : wa.drew = W := (H.s.trans (by simp only [n9, if_false, Bool.false_eq_true])).symm
      subst hW
      have e96 : a.eval (.tmp 96) = .pointer (some ⟨gp, d, none⟩) := H.facts 96 rfl
      have e95 : a.eval (.tmp 95) = .int .i64 x := H.facts 95 rfl
      refine ⟨wa.drew.setCell ⟨gp, d, none⟩ (.int .i64 x), ?_, ?_, fun _ _ h => h⟩
      · (simp only [execOp]; try simp only [Option.map]); (try simp only [List.map_toArray, List.map_cons, List.map_nil])
        simp only [e96, e95]
        go_simp
      · simp [upd]
  · intro l s W hall hS hs
    rw [if_pos (hall 9 (by decide))] at hS
    have hS := Eq.symm hS
    subst hS
    exact hend s
def ops_py18_ok : Array Oper := #[⟨some 100, .move (.tmp 11), 25, "ref.go:169", #[], none⟩, ⟨some 101, .move (.tmp 1), 3, "ref.go:169", #[], none⟩, ⟨some 102, .fieldAddr 65 (.tmp 18) 2, 0, "ref.go:169", #[], none⟩, ⟨some 103, .load 3 (.tmp 102), 3, "ref.go:169", #[⟨2, .data⟩], none⟩, ⟨some 104, .binOp .add 3 (.tmp 101) (.tmp 103) 3, 3, "ref.go:169", #[⟨1, .data⟩, ⟨3, .data⟩], none⟩, ⟨some 105, .move (.tmp 11), 25, "ref.go:169", #[], none⟩, ⟨some 106, .fieldAddr 65 (.tmp 18) 3, 0, "ref.go:169", #[], none⟩, ⟨some 107, .load 3 (.tmp 106), 3, "ref.go:169", #[⟨6, .data⟩], none⟩, ⟨some 108, .indexAddr 25 (.tmp 105) (.tmp 107), 0, "ref.go:169", #[⟨5, .data⟩, ⟨7, .data⟩], none⟩, ⟨some 109, .load 2 (.tmp 108), 2, "ref.go:169", #[⟨8, .data⟩], none⟩, ⟨some 110, .indexAddr 25 (.tmp 100) (.tmp 104), 0, "ref.go:169", #[⟨0, .data⟩, ⟨4, .data⟩, ⟨0, .phase⟩, ⟨1, .phase⟩, ⟨2, .phase⟩, ⟨3, .phase⟩, ⟨4, .phase⟩, ⟨5, .phase⟩, ⟨6, .phase⟩, ⟨7, .phase⟩, ⟨8, .phase⟩, ⟨9, .phase⟩], none⟩, ⟨none, .store 2 (.tmp 110) (.tmp 109), 0, "ref.go:169", #[⟨10, .data⟩, ⟨9, .data⟩, ⟨0, .phase⟩, ⟨1, .phase⟩, ⟨2, .phase⟩, ⟨3, .phase⟩, ⟨4, .phase⟩, ⟨5, .phase⟩, ⟨6, .phase⟩, ⟨7, .phase⟩, ⟨8, .phase⟩, ⟨9, .phase⟩], none⟩]
/-- What is known of each temporary. -/
def G_py18_ok (gp gb n d b e : Nat) (r x : Int) : Tmp → Value → World → Prop
  | 100, xx, _ => xx = .slice (some ⟨gp, 0, none⟩) n n
  | 101, xx, _ => xx = .int .i64 r
  | 102, xx, _ => xx = .pointer (some ⟨gb, 2, none⟩)
  | 103, xx, _ => xx = .int .i64 (d : Nat)
  | 104, xx, _ => xx = .int .i64 (e : Nat)
  | 105, xx, _ => xx = .slice (some ⟨gp, 0, none⟩) n n
  | 106, xx, _ => xx = .pointer (some ⟨gb, 3, none⟩)
  | 107, xx, _ => xx = .int .i64 (b : Nat)
  | 108, xx, _ => xx = .pointer (some ⟨gp, b, none⟩)
  | 109, xx, _ => xx = .int .i64 x
  | 110, xx, _ => xx = .pointer (some ⟨gp, e, none⟩)
  | _, _, _ => True
set_option maxHeartbeats 1000000 in
set_option maxRecDepth 100000 in
theorem py18_ok {Q : Exit → Act → World → Prop} {a0 : Act} {wa : World} {gp gb n d b e : Nat} {r x : Int} {y : Value} (hz : a0.tmps.size = 297) (b11 : a0.eval (.tmp 11) = .slice (some ⟨gp, 0, none⟩) n n) (b18 : a0.eval (.tmp 18) = .pointer (some ⟨gb, 0, none⟩)) (b1 : a0.eval (.tmp 1) = .int .i64 r)
    (m2 : wa.cell? ⟨gb, 2, none⟩ = some (.int .i64 (d : Nat))) (m3 : wa.cell? ⟨gb, 3, none⟩ = some (.int .i64 (b : Nat))) (p1 : wa.cell? ⟨gp, b, none⟩ = some (.int .i64 x)) (p0 : wa.cell? ⟨gp, e, none⟩ = some (y)) (f0 : wa.frozen? ⟨gp, e, none⟩ = false) (he : r + (d : Int) = (e : Int)) (hd : (e : Int) < (n : Int)) (hb : (b : Int) < (n : Int)) (hn : (n : Int) ≤ 1000000)
    (hend : ∀ s : Tmp → Value, Q .normal (overlay a0 (dstsOf ops_py18_ok) s) (wa.drew.setCell ⟨gp, e, none⟩ (.int .i64 x))) : (Code.region 18 ops_py18_ok true).wp Try.prog Q a0 wa := by
  have m2 : wa.drew.cell? ⟨gb, 2, none⟩ = some (.int .i64 (d : Nat)) := m2
  have m3 : wa.drew.cell? ⟨gb, 3, none⟩ = some (.int .i64 (b : Nat)) := m3
  have p1 : wa.drew.cell? ⟨gp, b, none⟩ = some (.int .i64 x) := p1
  have p0 : wa.drew.cell? ⟨gp, e, none⟩ = some (y) := p0
  have f0 : wa.drew.frozen? ⟨gp, e, none⟩ = false := f0
  refine L.wp_region_eachL (by kernel_rfl) (fun _ tt yv _ => G_py18_ok gp gb n d b e r x tt yv wa) (fun l W => W = if l 11 = true then wa.drew.setCell ⟨gp, e, none⟩ (.int .i64 x) else wa.drew) (by rw [hz]; kernel_rfl) rfl ?_ ?_
  · refine And.intro ?_ (And.intro ?_ (And.intro ?_ (And.intro ?_ (And.intro ?_ (And.intro ?_ (And.intro ?_ (And.intro ?_ (And.intro ?_ (And.intro ?_ (And.intro ?_ (And.intro ?_ trivial)))))))))))
    · refine L.asked_pure rfl rfl (fun _ _ h => h) (fun _ _ _ _ _ h => h) (fun _ _ _ => rfl) (fun l a W H => ?_)
      have e11 : a.eval (.tmp 11) = .slice (some ⟨gp, 0, none⟩) n n := (H.base 11 rfl).trans b11
      exact run_move rfl e11
    · refine L.asked_pure rfl rfl (fun _ _ h => h) (fun _ _ _ _ _ h => h) (fun _ _ _ => rfl) (fun l a W H => ?_)
      have e1 : a.eval (.tmp 1) = .int .i64 r := (H.base 1 rfl).trans b1
      exact run_move rfl e1
    · refine L.asked_pure rfl rfl (fun _ _ h => h) (fun _ _ _ _ _ h => h) (fun _ _ _ => rfl) (fun l a W H => ?_)
      have e18 : a.eval (.tmp 18) = .pointer (some ⟨gb, 0, none⟩) := (H.base 18 rfl).trans b18
      simp only [execOp, e18]; go_simp
    · refine L.asked_pure rfl rfl (fun _ _ h => h) (fun _ _ _ _ _ h => h) (fun _ _ _ => rfl) (fun l a W H => ?_)
      have n11 : l 11 = false := by
        cases hs : l 11 with
        | false => rfl
        | true =>
          have h1 := (H.closed 11 3 (by rfl) hs)
          rw [H.new] at h1
          cases h1
      have hW : wa.drew = W := (H.s.trans (by simp only [n11, if_false, Bool.false_eq_true])).symm
      subst hW
      have e102 : a.eval (.tmp 102) = .pointer (some ⟨gb, 2, none⟩) := H.facts 102 rfl
      simp only [execOp, e102]; go_simp
    · refine L.asked_pure rfl rfl (fun _ _ h => h) (fun _ _ _ _ _ h => h) (fun _ _ _ => rfl) (fun l a W H => ?_)
      have e101 : a.eval (.tmp 101) = .int .i64 r := H.facts 101 rfl
      have e103 : a.eval (.tmp 103) = .int .i64 (d : Nat) := H.facts 103 rfl
      (simp only [execOp]; try simp only [Option.map]); (try simp only [List.map_toArray, List.map_cons, List.map_nil]); (simp only [e101, e103]; go_simp)
      all_goals (try first | go_num | omega | (rw [IntKind.wrap_i64]; omega) | (rw [IntKind.wrap_u8]; omega))
    · refine L.asked_pure rfl rfl (fun _ _ h => h) (fun _ _ _ _ _ h => h) (fun _ _ _ => rfl) (fun l a W H => ?_)
      have e11 : a.eval (.tmp 11) = .slice (some ⟨gp, 0, none⟩) n n := (H.base 11 rfl).trans b11
      exact run_move rfl e11
    · refine L.asked_pure rfl rfl (fun _ _ h => h) (fun _ _ _ _ _ h => h) (fun _ _ _ => rfl) (fun l a W H => ?_)
      have e18 : a.eval (.tmp 18) = .pointer (some ⟨gb, 0, none⟩) := (H.base 18 rfl).trans b18
      simp only [execOp, e18]; go_simp
    · refine L.asked_pure rfl rfl (fun _ _ h => h) (fun _ _ _ _ _ h => h) (fun _ _ _ => rfl) (fun l a W H => ?_)
      have n11 : l 11 = false := by
        cases hs : l 11 with
        | false => rfl
        | true =>
          have h1 := (H.closed 11 7 (by rfl) hs)
          rw [H.new] at h1
          cases h1
      have hW : wa.drew = W := (H.s.trans (by simp only [n11, if_false, Bool.false_eq_true])).symm
      subst hW
      have e106 : a.eval (.tmp 106) = .pointer (some ⟨gb, 3, none⟩) := H.facts 106 rfl
      simp only [execOp, e106]; go_simp
    · refine L.asked_pure rfl rfl (fun _ _ h => h) (fun _ _ _ _ _ h => h) (fun _ _ _ => rfl) (fun l a W H => ?_)
      have e105 : a.eval (.tmp 105) = .slice (some ⟨gp, 0, none⟩) n n := H.facts 105 rfl
      have e107 : a.eval (.tmp 107) = .int .i64 (b : Nat) := H.facts 107 rfl
      simp only [execOp, e105, e107]; go_simp
    · refine L.asked_pure rfl rfl (fun _ _ h => h) (fun _ _ _ _ _ h => h) (fun _ _ _ => rfl) (fun l a W H => ?_)
      have n11 : l 11 = false := by
        cases hs : l 11 with
        | false => rfl
        | true =>
          have h1 := (H.closed 11 9 (by rfl) hs)
          rw [H.new] at h1
          cases h1
      have hW : wa.drew = W := (H.s.trans (by simp only [n11, if_false, Bool.false_eq_true])).symm
      subst hW
      have e108 : a.eval (.tmp 108) = .pointer (some ⟨gp, b, none⟩) := H.facts 108 rfl
      simp only [execOp, e108]; go_simp
    · refine L.asked_pure rfl rfl (fun _ _ h => h) (fun _ _ _ _ _ h => h) (fun _ _ _ => rfl) (fun l a W H => ?_)
      have e100 : a.eval (.tmp 100) = .slice (some ⟨gp, 0, none⟩) n n := H.facts 100 rfl
      have e104 : a.eval (.tmp 104) = .int .i64 (e : Nat) := H.facts 104 rfl
      simp only [execOp, e100, e104]; go_simp
    · refine L.asked_skip rfl rfl (fun l a W H => ?_)
      have n11 : l 11 = false := H.new
      have hW : wa.drew = W := (H.s.trans (by simp only [n11, if_false, Bool.false_eq_true])).symm
      subst hW
      have e110 : a.eval (.tmp 110) = .pointer (some ⟨gp, e, none⟩) := H.facts 110 rfl
      have e109 : a.eval (.tmp 109) = .int .i64 x := H.facts 109 rfl
      refine ⟨wa.drew.setCell ⟨gp, e, none⟩ (.int .i64 x), ?_, ?_, fun _ _ h => h⟩
      · (simp only [execOp]; try simp only [Option.map]); (try simp only [List.map_toArray, List.map_cons, List.map_nil])
        simp only [e110, e109]
        go_simp
      · simp [upd]
  · intro l s W hall hS hs
    rw [if_pos (hall 11 (by decide))] at hS
    have hS := Eq.symm hS
    subst hS
    exact hend s
def ops_py20_ok : Array Oper := #[⟨some 114, .move (.tmp 11), 25, "ref.go:173", #[], none⟩, ⟨some 115, .fieldAddr 65 (.tmp 18) 2, 0, "ref.go:173", #[], none⟩, ⟨some 116, .load 3 (.tmp 115), 3, "ref.go:173", #[⟨1, .data⟩], none⟩, ⟨some 117, .move (.tmp 11), 25, "ref.go:173", #[], none⟩, ⟨some 118, .move (.tmp 1), 3, "ref.go:173", #[], none⟩, ⟨some 119, .fieldAddr 65 (.tmp 18) 3, 0, "ref.go:173", #[], none⟩, ⟨some 120, .load 3 (.tmp 119), 3, "ref.go:173", #[⟨5, .data⟩], none⟩, ⟨some 121, .binOp .add 3 (.tmp 118) (.tmp 120) 3, 3, "ref.go:173", #[⟨4, .data⟩, ⟨6, .data⟩], none⟩, ⟨some 122, .indexAddr 25 (.tmp 117) (.tmp 121), 0, "ref.go:173", #[⟨3, .data⟩, ⟨7, .data⟩], none⟩, ⟨some 123, .load 2 (.tmp 122), 2, "ref.go:173", #[⟨8, .data⟩], none⟩, ⟨some 124, .indexAddr 25 (.tmp 114) (.tmp 116), 0, "ref.go:173", #[⟨0, .data⟩, ⟨2, .data⟩, ⟨0, .phase⟩, ⟨1, .phase⟩, ⟨2, .phase⟩, ⟨3, .phase⟩, ⟨4, .phase⟩, ⟨5, .phase⟩, ⟨6, .phase⟩, ⟨7, .phase⟩, ⟨8, .phase⟩, ⟨9, .phase⟩], none⟩, ⟨none, .store 2 (.tmp 124) (.tmp 123), 0, "ref.go:173", #[⟨10, .data⟩, ⟨9, .data⟩, ⟨0, .phase⟩, ⟨1, .phase⟩, ⟨2, .phase⟩, ⟨3, .phase⟩, ⟨4, .phase⟩, ⟨5, .phase⟩, ⟨6, .phase⟩, ⟨7, .phase⟩, ⟨8, .phase⟩, ⟨9, .phase⟩], none⟩]
/-- What is known of each temporary. -/
def G_py20_ok (gp gb n d b e : Nat) (r x : Int) : Tmp → Value → World → Prop
  | 114, xx, _ => xx = .slice (some ⟨gp, 0, none⟩) n n
  | 115, xx, _ => xx = .pointer (some ⟨gb, 2, none⟩)
  | 116, xx, _ => xx = .int .i64 (d : Nat)
  | 117, xx, _ => xx = .slice (some ⟨gp, 0, none⟩) n n
  | 118, xx, _ => xx = .int .i64 r
  | 119, xx, _ => xx = .pointer (some ⟨gb, 3, none⟩)
  | 120, xx, _ => xx = .int .i64 (b : Nat)
  | 121, xx, _ => xx = .int .i64 (e : Nat)
  | 122, xx, _ => xx = .pointer (some ⟨gp, e, none⟩)
  | 123, xx, _ => xx = .int .i64 x
  | 124, xx, _ => xx = .pointer (some ⟨gp, d, none⟩)
  | _, _, _ => True
set_option maxHeartbeats 1000000 in
set_option maxRecDepth 100000 in
theorem py20_ok {Q : Exit → Act → World → Prop} {a0 : Act} {wa : World} {gp gb n d b e : Nat} {r x : Int} {y : Value} (hz : a0.tmps.size = 297) (b11 : a0.eval (.tmp 11) = .slice (some ⟨gp, 0, none⟩) n n) (b18 : a0.eval (.tmp 18) = .pointer (some ⟨gb, 0, none⟩)) (b1 : a0.eval (.tmp 1) = .int .i64 r)
    (m2 : wa.cell? ⟨gb, 2, none⟩ = some (.int .i64 (d : Nat))) (m3 : wa.cell? ⟨gb, 3, none⟩ = some (.int .i64 (b : Nat))) (p1 : wa.cell? ⟨gp, e, none⟩ = some (.int .i64 x)) (p0 : wa.cell? ⟨gp, d, none⟩ = some (y)) (f0 : wa.frozen? ⟨gp, d, none⟩ = false) (he : r + (b : Int) = (e : Int)) (hd : (d : Int) < (n : Int)) (hb : (e : Int) < (n : Int)) (hn : (n : Int) ≤ 1000000)
    (hend : ∀ s : Tmp → Value, Q .normal (overlay a0 (dstsOf ops_py20_ok) s) (wa.drew.setCell ⟨gp, d, none⟩ (.int .i64 x))) : (Code.region 20 ops_py20_ok true).wp Try.prog Q a0 wa := by
  have m2 : wa.drew.cell? ⟨gb, 2, none⟩ = some (.int .i64 (d : Nat)) := m2
  have m3 : wa.drew.cell? ⟨gb, 3, none⟩ = some (.int .i64 (b : Nat)) := m3
  have p1 : wa.drew.cell? ⟨gp, e, none⟩ = some (.int .i64 x) := p1
  have p0 : wa.drew.cell? ⟨gp, d, none⟩ = some (y) := p0
  have f0 : wa.drew.frozen? ⟨gp, d, none⟩ = false := f0
  refine L.wp_region_eachL (by kernel_rfl) (fun _ tt yv _ => G_py20_ok gp gb n d b e r x tt yv wa) (fun l W => W = if l 11 = true then wa.drew.setCell ⟨gp, d, none⟩ (.int .i64 x) else wa.drew) (by rw [hz]; kernel_rfl) rfl ?_ ?_
  · refine And.intro ?_ (And.intro ?_ (And.intro ?_ (And.intro ?_ (And.intro ?_ (And.intro ?_ (And.intro ?_ (And.intro ?_ (And.intro ?_ (And.intro ?_ (And.intro ?_ (And.intro ?_ trivial)))))))))))
    · refine L.asked_pure rfl rfl (fun _ _ h => h) (fun _ _ _ _ _ h => h) (fun _ _ _ => rfl) (fun l a W H => ?_)
      have e11 : a.eval (.tmp 11) = .slice (some ⟨gp, 0, none⟩) n n := (H.base 11 rfl).trans b11
      exact run_move rfl e11
    · refine L.asked_pure rfl rfl (fun _ _ h => h) (fun _ _ _ _ _ h => h) (fun _ _ _ => rfl) (fun l a W H => ?_)
      have e18 : a.eval (.tmp 18) = .pointer (some ⟨gb, 0, none⟩) := (H.base 18 rfl).trans b18
      simp only [execOp, e18]; go_simp
    · refine L.asked_pure rfl rfl (fun _ _ h => h) (fun _ _ _ _ _ h => h) (fun _ _ _ => rfl) (fun l a W H => ?_)
      have n11 : l 11 = false := by
        cases hs : l 11 with
        | false => rfl
        | true =>
          have h1 := (H.closed 11 2 (by rfl) hs)
          rw [H.new] at h1
          cases h1
      have hW : wa.drew = W := (H.s.trans (by simp only [n11, if_false, Bool.false_eq_true])).symm
      subst hW
      have e115 : a.eval (.tmp 115) = .pointer (some ⟨gb, 2, none⟩) := H.facts 115 rfl
      simp only [execOp, e115]; go_simp
    · refine L.asked_pure rfl rfl (fun _ _ h => h) (fun _ _ _ _ _ h => h) (fun _ _ _ => rfl) (fun l a W H => ?_)
      have e11 : a.eval (.tmp 11) = .slice (some ⟨gp, 0, none⟩) n n := (H.base 11 rfl).trans b11
      exact run_move rfl e11
    · refine L.asked_pure rfl rfl (fun _ _ h => h) (fun _ _ _ _ _ h => h) (fun _ _ _ => rfl) (fun l a W H => ?_)
      have e1 : a.eval (.tmp 1) = .int .i64 r := (H.base 1 rfl).trans b1
      exact run_move rfl e1
    · refine L.asked_pure rfl rfl (fun _ _ h => h) (fun _ _ _ _ _ h => h) (fun _ _ _ => rfl) (fun l a W H => ?_)
      have e18 : a.eval (.tmp 18) = .pointer (some ⟨gb, 0, none⟩) := (H.base 18 rfl).trans b18
      simp only [execOp, e18]; go_simp
    · refine L.asked_pure rfl rfl (fun _ _ h => h) (fun _ _ _ _ _ h => h) (fun _ _ _ => rfl) (fun l a W H => ?_)
      have n11 : l 11 = false := by
        cases hs : l 11 with
        | false => rfl
        | true =>
          have h1 := (H.closed 11 6 (by rfl) hs)
          rw [H.new] at h1
          cases h1
      have hW : wa.drew = W := (H.s.trans (by simp only [n11, if_false, Bool.false_eq_true])).symm
      subst hW
      have e119 : a.eval (.tmp 119) = .pointer (some ⟨gb, 3, none⟩) := H.facts 119 rfl
      simp only [execOp, e119]; go_simp
    · refine L.asked_pure rfl rfl (fun _ _ h => h) (fun _ _ _ _ _ h => h) (fun _ _ _ => rfl) (fun l a W H => ?_)
      have e118 : a.eval (.tmp 118) = .int .i64 r := H.facts 118 rfl
      have e120 : a.eval (.tmp 120) = .int .i64 (b : Nat) := H.facts 120 rfl
      (simp only [execOp]; try simp only [Option.map]); (try simp only [List.map_toArray, List.map_cons, List.map_nil]); (simp only [e118, e120]; go_simp)
      all_goals (try first | go_num | omega | (rw [IntKind.wrap_i64]; omega) | (rw [IntKind.wrap_u8]; omega))
    · refine L.asked_pure rfl rfl (fun _ _ h => h) (fun _ _ _ _ _ h => h) (fun _ _ _ => rfl) (fun l a W H => ?_)
      have e117 : a.eval (.tmp 117) = .slice (some ⟨gp, 0, none⟩) n n := H.facts 117 rfl
      have e121 : a.eval (.tmp 121) = .int .i64 (e : Nat) := H.facts 121 rfl
      simp only [execOp, e117, e121]; go_simp
    · refine L.asked_pure rfl rfl (fun _ _ h => h) (fun _ _ _ _ _ h => h) (fun _ _ _ => rfl) (fun l a W H => ?_)
      have n11 : l 11 = false := by
        cases hs : l 11 with
        | false => rfl
        | true =>
          have h1 := (H.closed 11 9 (by rfl) hs)
          rw [H.new] at h1
          cases h1
      have hW : wa.drew = W := (H.s.trans (by simp only [n11, if_false, Bool.false_eq_true])).symm
      subst hW
      have e122 : a.eval (.tmp 122) = .pointer (some ⟨gp, e, none⟩) := H.facts 122 rfl
      simp only [execOp, e122]; go_simp
    · refine L.asked_pure rfl rfl (fun _ _ h => h) (fun _ _ _ _ _ h => h) (fun _ _ _ => rfl) (fun l a W H => ?_)
      have e114 : a.eval (.tmp 114) = .slice (some ⟨gp, 0, none⟩) n n := H.facts 114 rfl
      have e116 : a.eval (.tmp 116) = .int .i64 (d : Nat) := H.facts 116 rfl
      simp only [execOp, e114, e116]; go_simp
    · refine L.asked_skip rfl rfl (fun l a W H => ?_)
      have n11 : l 11 = false := H.new
      have hW : wa.drew = W := (H.s.trans (by simp only [n11, if_false, Bool.false_eq_true])).symm
      subst hW
      have e124 : a.eval (.tmp 124) = .pointer (some ⟨gp, d, none⟩) := H.facts 124 rfl
      have e123 : a.eval (.tmp 123) = .int .i64 x := H.facts 123 rfl
      refine ⟨wa.drew.setCell ⟨gp, d, none⟩ (.int .i64 x), ?_, ?_, fun _ _ h => h⟩
      · (simp only [execOp]; try simp only [Option.map]); (try simp only [List.map_toArray, List.map_cons, List.map_nil])
        simp only [e124, e123]
        go_simp
      · simp [upd]
  · intro l s W hall hS hs
    rw [if_pos (hall 11 (by decide))] at hS
    have hS := Eq.symm hS
    subst hS
    exact hend s
def ops_py29_ok : Array Oper := #[⟨some 146, .move (.tmp 11), 25, "ref.go:185", #[], none⟩, ⟨some 147, .fieldAddr 65 (.tmp 18) 3, 0, "ref.go:185", #[], none⟩, ⟨some 148, .load 3 (.tmp 147), 3, "ref.go:185", #[⟨1, .data⟩], none⟩, ⟨some 149, .indexAddr 25 (.tmp 146) (.tmp 148), 0, "ref.go:185", #[⟨0, .data⟩, ⟨2, .data⟩], none⟩, ⟨some 150, .load 2 (.tmp 149), 2, "ref.go:185", #[⟨3, .data⟩], none⟩, ⟨some 151, .move (.tmp 11), 25, "ref.go:185", #[{ on := 10, ground := Ground.gcOnly Departure.lateStores }], none⟩, ⟨some 152, .fieldAddr 65 (.tmp 18) 4, 0, "ref.go:185", #[{ on := 10, ground := Ground.gcOnly Departure.lateStores }], none⟩, ⟨some 153, .load 3 (.tmp 152), 3, "ref.go:185", #[⟨6, .data⟩, { on := 10, ground := Ground.gcOnly Departure.lateStores }], none⟩, ⟨some 154, .indexAddr 25 (.tmp 151) (.tmp 153), 0, "ref.go:185", #[⟨5, .data⟩, ⟨7, .data⟩, { on := 10, ground := Ground.gcOnly Departure.lateStores }], none⟩, ⟨some 155, .load 2 (.tmp 154), 2, "ref.go:185", #[⟨8, .data⟩, { on := 10, ground := Ground.gcOnly Departure.lateStores }], none⟩, ⟨some 19, .assign (.tmp 150), 2, "ref.go:185", #[⟨4, .data⟩, ⟨0, .phase⟩, ⟨1, .phase⟩, ⟨2, .phase⟩, ⟨3, .phase⟩, ⟨4, .phase⟩, { on := 5, ground := Ground.textOnly Departure.lateStores }, { on := 6, ground := Ground.textOnly Departure.lateStores }, { on := 7, ground := Ground.textOnly Departure.lateStores }, { on := 8, ground := Ground.textOnly Departure.lateStores }, { on := 9, ground := Ground.textOnly Departure.lateStores }], none⟩, ⟨some 20, .assign (.tmp 155), 2, "ref.go:185", #[⟨9, .data⟩, ⟨10, .chain⟩, ⟨0, .phase⟩, ⟨1, .phase⟩, ⟨2, .phase⟩, ⟨3, .phase⟩, ⟨4, .phase⟩, ⟨5, .phase⟩, ⟨6, .phase⟩, ⟨7, .phase⟩, ⟨8, .phase⟩, ⟨9, .phase⟩, ⟨10, .phase⟩], none⟩]
/-- What is known of each temporary. -/
def G_py29_ok (gp gb n ia ib : Nat) (x y : Int) : Tmp → Value → World → Prop
  | 146, xx, _ => xx = .slice (some ⟨gp, 0, none⟩) n n
  | 147, xx, _ => xx = .pointer (some ⟨gb, 3, none⟩)
  | 148, xx, _ => xx = .int .i64 (ia : Nat)
  | 149, xx, _ => xx = .pointer (some ⟨gp, ia, none⟩)
  | 150, xx, _ => xx = .int .i64 x
  | 151, xx, _ => xx = .slice (some ⟨gp, 0, none⟩) n n
  | 152, xx, _ => xx = .pointer (some ⟨gb, 4, none⟩)
  | 153, xx, _ => xx = .int .i64 (ib : Nat)
  | 154, xx, _ => xx = .pointer (some ⟨gp, ib, none⟩)
  | 155, xx, _ => xx = .int .i64 y
  | 19, xx, _ => xx = .int .i64 x
  | 20, xx, _ => xx = .int .i64 y
  | _, _, _ => True
set_option maxHeartbeats 1000000 in
set_option maxRecDepth 100000 in
theorem py29_ok {Q : Exit → Act → World → Prop} {a0 : Act} {wa : World} {gp gb n ia ib : Nat} {x y : Int} (hz : a0.tmps.size = 297) (b11 : a0.eval (.tmp 11) = .slice (some ⟨gp, 0, none⟩) n n) (b18 : a0.eval (.tmp 18) = .pointer (some ⟨gb, 0, none⟩))
    (m3 : wa.cell? ⟨gb, 3, none⟩ = some (.int .i64 (ia : Nat))) (m4 : wa.cell? ⟨gb, 4, none⟩ = some (.int .i64 (ib : Nat))) (pa : wa.cell? ⟨gp, ia, none⟩ = some (.int .i64 x)) (pb : wa.cell? ⟨gp, ib, none⟩ = some (.int .i64 y))  (ha : (ia : Int) < (n : Int)) (hb : (ib : Int) < (n : Int))
    (hend : ∀ s : Tmp → Value, s 19 = .int .i64 x → s 20 = .int .i64 y → Q .normal (overlay a0 (dstsOf ops_py29_ok) s) wa.drew) : (Code.region 29 ops_py29_ok true).wp Try.prog Q a0 wa := by
  have m3 : wa.drew.cell? ⟨gb, 3, none⟩ = some (.int .i64 (ia : Nat)) := m3
  have m4 : wa.drew.cell? ⟨gb, 4, none⟩ = some (.int .i64 (ib : Nat)) := m4
  have pa : wa.drew.cell? ⟨gp, ia, none⟩ = some (.int .i64 x) := pa
  have pb : wa.drew.cell? ⟨gp, ib, none⟩ = some (.int .i64 y) := pb
  refine L.wp_region_eachL (by kernel_rfl) (fun _ tt yv _ => G_py29_ok gp gb n ia ib x y tt yv wa) (fun l W => W = wa.drew) (by rw [hz]; kernel_rfl) rfl ?_ ?_
  · refine And.intro ?_ (And.intro ?_ (And.intro ?_ (And.intro ?_ (And.intro ?_ (And.intro ?_ (And.intro ?_ (And.intro ?_ (And.intro ?_ (And.intro ?_ (And.intro ?_ (And.intro ?_ trivial)))))))))))
    · refine L.asked_pure rfl rfl (fun _ _ h => h) (fun _ _ _ _ _ h => h) (fun _ _ _ => rfl) (fun l a W H => ?_)
      have e11 : a.eval (.tmp 11) = .slice (some ⟨gp, 0, none⟩) n n := (H.base 11 rfl).trans b11
      exact run_move rfl e11
    · refine L.asked_pure rfl rfl (fun _ _ h => h) (fun _ _ _ _ _ h => h) (fun _ _ _ => rfl) (fun l a W H => ?_)
      have e18 : a.eval (.tmp 18) = .pointer (some ⟨gb, 0, none⟩) := (H.base 18 rfl).trans b18
      simp only [execOp, e18]; go_simp
    · refine L.asked_pure rfl rfl (fun _ _ h => h) (fun _ _ _ _ _ h => h) (fun _ _ _ => rfl) (fun l a W H => ?_)
      have hW : wa.drew = W := Eq.symm H.s
      subst hW
      have e147 : a.eval (.tmp 147) = .pointer (some ⟨gb, 3, none⟩) := H.facts 147 rfl
      simp only [execOp, e147]; go_simp
    · refine L.asked_pure rfl rfl (fun _ _ h => h) (fun _ _ _ _ _ h => h) (fun _ _ _ => rfl) (fun l a W H => ?_)
      have e146 : a.eval (.tmp 146) = .slice (some ⟨gp, 0, none⟩) n n := H.facts 146 rfl
      have e148 : a.eval (.tmp 148) = .int .i64 (ia : Nat) := H.facts 148 rfl
      simp only [execOp, e146, e148]; go_simp
    · refine L.asked_pure rfl rfl (fun _ _ h => h) (fun _ _ _ _ _ h => h) (fun _ _ _ => rfl) (fun l a W H => ?_)
      have hW : wa.drew = W := Eq.symm H.s
      subst hW
      have e149 : a.eval (.tmp 149) = .pointer (some ⟨gp, ia, none⟩) := H.facts 149 rfl
      simp only [execOp, e149]; go_simp
    · refine L.asked_pure rfl rfl (fun _ _ h => h) (fun _ _ _ _ _ h => h) (fun _ _ _ => rfl) (fun l a W H => ?_)
      have e11 : a.eval (.tmp 11) = .slice (some ⟨gp, 0, none⟩) n n := (H.base 11 rfl).trans b11
      exact run_move rfl e11
    · refine L.asked_pure rfl rfl (fun _ _ h => h) (fun _ _ _ _ _ h => h) (fun _ _ _ => rfl) (fun l a W H => ?_)
      have e18 : a.eval (.tmp 18) = .pointer (some ⟨gb, 0, none⟩) := (H.base 18 rfl).trans b18
      simp only [execOp, e18]; go_simp
    · refine L.asked_pure rfl rfl (fun _ _ h => h) (fun _ _ _ _ _ h => h) (fun _ _ _ => rfl) (fun l a W H => ?_)
      have hW : wa.drew = W := Eq.symm H.s
      subst hW
      have e152 : a.eval (.tmp 152) = .pointer (some ⟨gb, 4, none⟩) := H.facts 152 rfl
      simp only [execOp, e152]; go_simp
    · refine L.asked_pure rfl rfl (fun _ _ h => h) (fun _ _ _ _ _ h => h) (fun _ _ _ => rfl) (fun l a W H => ?_)
      have e151 : a.eval (.tmp 151) = .slice (some ⟨gp, 0, none⟩) n n := H.facts 151 rfl
      have e153 : a.eval (.tmp 153) = .int .i64 (ib : Nat) := H.facts 153 rfl
      simp only [execOp, e151, e153]; go_simp
    · refine L.asked_pure rfl rfl (fun _ _ h => h) (fun _ _ _ _ _ h => h) (fun _ _ _ => rfl) (fun l a W H => ?_)
      have hW : wa.drew = W := Eq.symm H.s
      subst hW
      have e154 : a.eval (.tmp 154) = .pointer (some ⟨gp, ib, none⟩) := H.facts 154 rfl
      simp only [execOp, e154]; go_simp
    · refine L.asked_pure rfl rfl (fun _ _ h => h) (fun _ _ _ _ _ h => h) (fun _ _ _ => rfl) (fun l a W H => ?_)
      have e150 : a.eval (.tmp 150) = .int .i64 x := H.facts 150 rfl
      exact run_assign rfl e150
    · refine L.asked_pure rfl rfl (fun _ _ h => h) (fun _ _ _ _ _ h => h) (fun _ _ _ => rfl) (fun l a W H => ?_)
      have e155 : a.eval (.tmp 155) = .int .i64 y := H.facts 155 rfl
      exact run_assign rfl e155
  · intro l s W hall hS hs
    have hS := Eq.symm hS
    subst hS
    exact hend s (hs 19 rfl) (hs 20 rfl)
def ops_py33_ok : Array Oper := #[⟨some 165, .move (.tmp 11), 25, "ref.go:190", #[], none⟩, ⟨some 166, .fieldAddr 65 (.tmp 18) 2, 0, "ref.go:190", #[], none⟩, ⟨some 167, .load 3 (.tmp 166), 3, "ref.go:190", #[⟨1, .data⟩], none⟩, ⟨some 168, .fieldAddr 65 (.tmp 18) 1, 0, "ref.go:190", #[], none⟩, ⟨some 169, .load 62 (.tmp 168), 62, "ref.go:190", #[⟨3, .data⟩], none⟩, ⟨some 170, .move (.tmp 19), 2, "ref.go:190", #[], none⟩, ⟨some 171, .move (.tmp 20), 2, "ref.go:190", #[], none⟩, ⟨some 172, .call { callee := Callee.value (Operand.func 23), args := #[.tmp 169, .tmp 170, .tmp 171], argTypes := #[62, 2, 2] }, 2, "ref.go:190", #[⟨4, .data⟩, ⟨5, .data⟩, ⟨6, .data⟩], none⟩, ⟨some 173, .indexAddr 25 (.tmp 165) (.tmp 167), 0, "ref.go:190", #[⟨0, .data⟩, ⟨2, .data⟩, ⟨0, .phase⟩, ⟨1, .phase⟩, ⟨2, .phase⟩, ⟨3, .phase⟩, ⟨4, .phase⟩, ⟨5, .phase⟩, ⟨6, .phase⟩, ⟨7, .phase⟩], none⟩, ⟨none, .store 2 (.tmp 173) (.tmp 172), 0, "ref.go:190", #[⟨8, .data⟩, ⟨7, .data⟩, ⟨7, .chain⟩, ⟨0, .phase⟩, ⟨1, .phase⟩, ⟨2, .phase⟩, ⟨3, .phase⟩, ⟨4, .phase⟩, ⟨5, .phase⟩, ⟨6, .phase⟩, ⟨7, .phase⟩], none⟩]
/-- What is known of each temporary. -/
def G_py33_ok (gp gb n d : Nat) (op x y : Int) : Tmp → Value → World → Prop
  | 165, xx, _ => xx = .slice (some ⟨gp, 0, none⟩) n n
  | 166, xx, _ => xx = .pointer (some ⟨gb, 2, none⟩)
  | 167, xx, _ => xx = .int .i64 (d : Nat)
  | 168, xx, _ => xx = .pointer (some ⟨gb, 1, none⟩)
  | 169, xx, _ => xx = .int .u8 op
  | 170, xx, _ => xx = .int .i64 x
  | 171, xx, _ => xx = .int .i64 y
  | 172, xx, _ => xx = .int .i64 (bnd op x y)
  | 173, xx, _ => xx = .pointer (some ⟨gp, d, none⟩)
  | _, _, _ => True
set_option maxHeartbeats 1000000 in
set_option maxRecDepth 100000 in
theorem py33_ok {Q : Exit → Act → World → Prop} {a0 : Act} {wa : World} {gp gb n d : Nat} {op x y : Int} {yy : Value} (hz : a0.tmps.size = 297) (b11 : a0.eval (.tmp 11) = .slice (some ⟨gp, 0, none⟩) n n) (b18 : a0.eval (.tmp 18) = .pointer (some ⟨gb, 0, none⟩)) (b19 : a0.eval (.tmp 19) = .int .i64 x) (b20 : a0.eval (.tmp 20) = .int .i64 y)
    (m1 : wa.cell? ⟨gb, 1, none⟩ = some (.int .u8 op)) (m2 : wa.cell? ⟨gb, 2, none⟩ = some (.int .i64 (d : Nat))) (p0 : wa.cell? ⟨gp, d, none⟩ = some (yy)) (f0 : wa.frozen? ⟨gp, d, none⟩ = false) (hd : (d : Int) < (n : Int)) (hop : 1 ≤ op ∧ op ≤ 7) (hy0 : op = 7 → y ≠ 0)
    (hend : ∀ s : Tmp → Value, Q .normal (overlay a0 (dstsOf ops_py33_ok) s) (wa.drew.setCell ⟨gp, d, none⟩ (.int .i64 (bnd op x y)))) : (Code.region 33 ops_py33_ok true).wp Try.prog Q a0 wa := by
  have m1 : wa.drew.cell? ⟨gb, 1, none⟩ = some (.int .u8 op) := m1
  have m2 : wa.drew.cell? ⟨gb, 2, none⟩ = some (.int .i64 (d : Nat)) := m2
  have p0 : wa.drew.cell? ⟨gp, d, none⟩ = some (yy) := p0
  have f0 : wa.drew.frozen? ⟨gp, d, none⟩ = false := f0
  refine L.wp_region_eachL (by kernel_rfl) (fun _ tt yv _ => G_py33_ok gp gb n d op x y tt yv wa) (fun l W => W = if l 9 = true then wa.drew.setCell ⟨gp, d, none⟩ (.int .i64 (bnd op x y)) else wa.drew) (by rw [hz]; kernel_rfl) rfl ?_ ?_
  · refine And.intro ?_ (And.intro ?_ (And.intro ?_ (And.intro ?_ (And.intro ?_ (And.intro ?_ (And.intro ?_ (And.intro ?_ (And.intro ?_ (And.intro ?_ trivial)))))))))
    · refine L.asked_pure rfl rfl (fun _ _ h => h) (fun _ _ _ _ _ h => h) (fun _ _ _ => rfl) (fun l a W H => ?_)
      have e11 : a.eval (.tmp 11) = .slice (some ⟨gp, 0, none⟩) n n := (H.base 11 rfl).trans b11
      exact run_move rfl e11
    · refine L.asked_pure rfl rfl (fun _ _ h => h) (fun _ _ _ _ _ h => h) (fun _ _ _ => rfl) (fun l a W H => ?_)
      have e18 : a.eval (.tmp 18) = .pointer (some ⟨gb, 0, none⟩) := (H.base 18 rfl).trans b18
      simp only [execOp, e18]; go_simp
    · refine L.asked_pure rfl rfl (fun _ _ h => h) (fun _ _ _ _ _ h => h) (fun _ _ _ => rfl) (fun l a W H => ?_)
      have n9 : l 9 = false := by
        cases hs : l 9 with
        | false => rfl
        | true =>
          have h1 := (H.closed 9 2 (by rfl) hs)
          rw [H.new] at h1
          cases h1
      have hW : wa.drew = W := (H.s.trans (by simp only [n9, if_false, Bool.false_eq_true])).symm
      subst hW
      have e166 : a.eval (.tmp 166) = .pointer (some ⟨gb, 2, none⟩) := H.facts 166 rfl
      simp only [execOp, e166]; go_simp
    · refine L.asked_pure rfl rfl (fun _ _ h => h) (fun _ _ _ _ _ h => h) (fun _ _ _ => rfl) (fun l a W H => ?_)
      have e18 : a.eval (.tmp 18) = .pointer (some ⟨gb, 0, none⟩) := (H.base 18 rfl).trans b18
      simp only [execOp, e18]; go_simp
    · refine L.asked_pure rfl rfl (fun _ _ h => h) (fun _ _ _ _ _ h => h) (fun _ _ _ => rfl) (fun l a W H => ?_)
      have n9 : l 9 = false := by
        cases hs : l 9 with
        | false => rfl
        | true =>
          have h1 := (H.closed 9 4 (by rfl) hs)
          rw [H.new] at h1
          cases h1
      have hW : wa.drew = W := (H.s.trans (by simp only [n9, if_false, Bool.false_eq_true])).symm
      subst hW
      have e168 : a.eval (.tmp 168) = .pointer (some ⟨gb, 1, none⟩) := H.facts 168 rfl
      simp only [execOp, e168]; go_simp
    · refine L.asked_pure rfl rfl (fun _ _ h => h) (fun _ _ _ _ _ h => h) (fun _ _ _ => rfl) (fun l a W H => ?_)
      have e19 : a.eval (.tmp 19) = .int .i64 x := (H.base 19 rfl).trans b19
      exact run_move rfl e19
    · refine L.asked_pure rfl rfl (fun _ _ h => h) (fun _ _ _ _ _ h => h) (fun _ _ _ => rfl) (fun l a W H => ?_)
      have e20 : a.eval (.tmp 20) = .int .i64 y := (H.base 20 rfl).trans b20
      exact run_move rfl e20
    · refine L.asked_call rfl Try.func23 (by kernel_rfl) (by kernel_rfl) rfl rfl (fun l a W H => ?_)
      have e169 : a.eval (.tmp 169) = .int .u8 op := H.facts 169 rfl
      have e170 : a.eval (.tmp 170) = .int .i64 x := H.facts 170 rfl
      have e171 : a.eval (.tmp 171) = .int .i64 y := H.facts 171 rfl
      have ea : (#[.tmp 169, .tmp 170, .tmp 171] : Array Operand).map a.eval = #[.int .u8 op, .int .i64 x, .int .i64 y] := by
        simp only [List.map_toArray, List.map_cons, List.map_nil, e169, e170, e171]
      rw [ea]
      refine (refBin_any op x y W hop hy0).mono ?_
      rintro e w' ⟨rfl, rfl⟩
      exact ⟨_, rfl, rfl, H.s, fun _ _ _ h => h⟩
    · refine L.asked_pure rfl rfl (fun _ _ h => h) (fun _ _ _ _ _ h => h) (fun _ _ _ => rfl) (fun l a W H => ?_)
      have e165 : a.eval (.tmp 165) = .slice (some ⟨gp, 0, none⟩) n n := H.facts 165 rfl
      have e167 : a.eval (.tmp 167) = .int .i64 (d : Nat) := H.facts 167 rfl
      simp only [execOp, e165, e167]; go_simp
    · refine L.asked_skip rfl rfl (fun l a W H => ?_)
      have n9 : l 9 = false := H.new
      have hW : wa.drew = W := (H.s.trans (by simp only [n9, if_false, Bool.false_eq_true])).symm
      subst hW
      have e173 : a.eval (.tmp 173) = .pointer (some ⟨gp, d, none⟩) := H.facts 173 rfl
      have e172 : a.eval (.tmp 172) = .int .i64 (bnd op x y) := H.facts 172 rfl
      refine ⟨wa.drew.setCell ⟨gp, d, none⟩ (.int .i64 (bnd op x y)), ?_, ?_, fun _ _ h => h⟩
      · (simp only [execOp]; try simp only [Option.map]); (try simp only [List.map_toArray, List.map_cons, List.map_nil])
        simp only [e173, e172]
        go_simp
      · simp [upd]
  · intro l s W hall hS hs
    rw [if_pos (hall 9 (by decide))] at hS
    have hS := Eq.symm hS
    subst hS
    exact hend s
def ops_py35_ok : Array Oper := #[⟨some 176, .move (.tmp 11), 25, "ref.go:192", #[], none⟩, ⟨some 177, .fieldAddr 65 (.tmp 18) 2, 0, "ref.go:192", #[], none⟩, ⟨some 178, .load 3 (.tmp 177), 3, "ref.go:192", #[⟨1, .data⟩], none⟩, ⟨some 179, .move (.tmp 11), 25, "ref.go:192", #[], none⟩, ⟨some 180, .fieldAddr 65 (.tmp 18) 3, 0, "ref.go:192", #[], none⟩, ⟨some 181, .load 3 (.tmp 180), 3, "ref.go:192", #[⟨4, .data⟩], none⟩, ⟨some 182, .indexAddr 25 (.tmp 179) (.tmp 181), 0, "ref.go:192", #[⟨3, .data⟩, ⟨5, .data⟩], none⟩, ⟨some 183, .load 2 (.tmp 182), 2, "ref.go:192", #[⟨6, .data⟩], none⟩, ⟨some 184, .convert 2 77 (.tmp 183), 77, "ref.go:192", #[⟨7, .data⟩], none⟩, ⟨some 185, .binOp .rem 77 (.tmp 184) (.const (.int .u64 64)) 77, 77, "ref.go:192", #[⟨8, .data⟩], none⟩, ⟨some 186, .fieldAddr 37 (.tmp 13) 3, 0, "ref.go:192", #[], none⟩, ⟨some 187, .indexAddr 35 (.tmp 186) (.tmp 185), 0, "ref.go:192", #[⟨10, .data⟩, ⟨9, .data⟩], none⟩, ⟨some 188, .load 2 (.tmp 187), 2, "ref.go:192", #[⟨11, .data⟩], none⟩, ⟨some 189, .indexAddr 25 (.tmp 176) (.tmp 178), 0, "ref.go:192", #[⟨0, .data⟩, ⟨2, .data⟩, ⟨0, .phase⟩, ⟨1, .phase⟩, ⟨2, .phase⟩, ⟨3, .phase⟩, ⟨4, .phase⟩, ⟨5, .phase⟩, ⟨6, .phase⟩, ⟨7, .phase⟩, ⟨8, .phase⟩, ⟨9, .phase⟩, ⟨10, .phase⟩, ⟨11, .phase⟩, ⟨12, .phase⟩], none⟩, ⟨none, .store 2 (.tmp 189) (.tmp 188), 0, "ref.go:192", #[⟨13, .data⟩, ⟨12, .data⟩, ⟨0, .phase⟩, ⟨1, .phase⟩, ⟨2, .phase⟩, ⟨3, .phase⟩, ⟨4, .phase⟩, ⟨5, .phase⟩, ⟨6, .phase⟩, ⟨7, .phase⟩, ⟨8, .phase⟩, ⟨9, .phase⟩, ⟨10, .phase⟩, ⟨11, .phase⟩, ⟨12, .phase⟩], none⟩]
/-- What is known of each temporary. -/
def G_py35_ok (go gp gb n d b j : Nat) (x z yw : Int) : Tmp → Value → World → Prop
  | 176, xx, _ => xx = .slice (some ⟨gp, 0, none⟩) n n
  | 177, xx, _ => xx = .pointer (some ⟨gb, 2, none⟩)
  | 178, xx, _ => xx = .int .i64 (d : Nat)
  | 179, xx, _ => xx = .slice (some ⟨gp, 0, none⟩) n n
  | 180, xx, _ => xx = .pointer (some ⟨gb, 3, none⟩)
  | 181, xx, _ => xx = .int .i64 (b : Nat)
  | 182, xx, _ => xx = .pointer (some ⟨gp, b, none⟩)
  | 183, xx, _ => xx = .int .i64 x
  | 184, xx, _ => xx = .int .u64 yw
  | 185, xx, _ => xx = .int .u64 (j : Nat)
  | 186, xx, _ => xx = .pointer (some ⟨go, 3, none⟩)
  | 187, xx, _ => xx = .pointer (some ⟨go, 3 + j, none⟩)
  | 188, xx, _ => xx = .int .i64 z
  | 189, xx, _ => xx = .pointer (some ⟨gp, d, none⟩)
  | _, _, _ => True
set_option maxHeartbeats 1000000 in
set_option maxRecDepth 100000 in
theorem py35_ok {Q : Exit → Act → World → Prop} {a0 : Act} {wa : World} {go gp gb n d b j : Nat} {x z yw : Int} {y : Value} (hz : a0.tmps.size = 297) (b11 : a0.eval (.tmp 11) = .slice (some ⟨gp, 0, none⟩) n n) (b18 : a0.eval (.tmp 18) = .pointer (some ⟨gb, 0, none⟩)) (b13 : a0.eval (.tmp 13) = .pointer (some ⟨go, 0, none⟩))
    (m2 : wa.cell? ⟨gb, 2, none⟩ = some (.int .i64 (d : Nat))) (m3 : wa.cell? ⟨gb, 3, none⟩ = some (.int .i64 (b : Nat))) (p1 : wa.cell? ⟨gp, b, none⟩ = some (.int .i64 x)) (p0 : wa.cell? ⟨gp, d, none⟩ = some (y)) (cm : wa.cell? ⟨go, 3 + j, none⟩ = some (.int .i64 z)) (f0 : wa.frozen? ⟨gp, d, none⟩ = false) (hd : (d : Int) < (n : Int)) (hb : (b : Int) < (n : Int)) (hcv : ∀ W, (convert 2 77 (.int .i64 x)).run Try.prog W = .ok (.int .u64 yw) W) (hw : yw.tmod 64 = (j : Int)) (hj : (j : Int) < 64)
    (hend : ∀ s : Tmp → Value, Q .normal (overlay a0 (dstsOf ops_py35_ok) s) (wa.drew.setCell ⟨gp, d, none⟩ (.int .i64 z))) : (Code.region 35 ops_py35_ok true).wp Try.prog Q a0 wa := by
  have m2 : wa.drew.cell? ⟨gb, 2, none⟩ = some (.int .i64 (d : Nat)) := m2
  have m3 : wa.drew.cell? ⟨gb, 3, none⟩ = some (.int .i64 (b : Nat)) := m3
  have p1 : wa.drew.cell? ⟨gp, b, none⟩ = some (.int .i64 x) := p1
  have p0 : wa.drew.cell? ⟨gp, d, none⟩ = some (y) := p0
  have cm : wa.drew.cell? ⟨go, 3 + j, none⟩ = some (.int .i64 z) := cm
  have f0 : wa.drew.frozen? ⟨gp, d, none⟩ = false := f0
  refine L.wp_region_eachL (by kernel_rfl) (fun _ tt yv _ => G_py35_ok go gp gb n d b j x z yw tt yv wa) (fun l W => W = if l 14 = true then wa.drew.setCell ⟨gp, d, none⟩ (.int .i64 z) else wa.drew) (by rw [hz]; kernel_rfl) rfl ?_ ?_
  · refine And.intro ?_ (And.intro ?_ (And.intro ?_ (And.intro ?_ (And.intro ?_ (And.intro ?_ (And.intro ?_ (And.intro ?_ (And.intro ?_ (And.intro ?_ (And.intro ?_ (And.intro ?_ (And.intro ?_ (And.intro ?_ (And.intro ?_ trivial))))))))))))))
    · refine L.asked_pure rfl rfl (fun _ _ h => h) (fun _ _ _ _ _ h => h) (fun _ _ _ => rfl) (fun l a W H => ?_)
      have e11 : a.eval (.tmp 11) = .slice (some ⟨gp, 0, none⟩) n n := (H.base 11 rfl).trans b11
      exact run_move rfl e11
    · refine L.asked_pure rfl rfl (fun _ _ h => h) (fun _ _ _ _ _ h => h) (fun _ _ _ => rfl) (fun l a W H => ?_)
      have e18 : a.eval (.tmp 18) = .pointer (some ⟨gb, 0, none⟩) := (H.base 18 rfl).trans b18
      simp only [execOp, e18]; go_simp
    · refine L.asked_pure rfl rfl (fun _ _ h => h) (fun _ _ _ _ _ h => h) (fun _ _ _ => rfl) (fun l a W H => ?_)
      have n14 : l 14 = false := by
        cases hs : l 14 with
        | false => rfl
        | true =>
          have h1 := (H.closed 14 2 (by rfl) hs)
          rw [H.new] at h1
          cases h1
      have hW : wa.drew = W := (H.s.trans (by simp only [n14, if_false, Bool.false_eq_true])).symm
      subst hW
      have e177 : a.eval (.tmp 177) = .pointer (some ⟨gb, 2, none⟩) := H.facts 177 rfl
      simp only [execOp, e177]; go_simp
    · refine L.asked_pure rfl rfl (fun _ _ h => h) (fun _ _ _ _ _ h => h) (fun _ _ _ => rfl) (fun l a W H => ?_)
      have e11 : a.eval (.tmp 11) = .slice (some ⟨gp, 0, none⟩) n n := (H.base 11 rfl).trans b11
      exact run_move rfl e11
    · refine L.asked_pure rfl rfl (fun _ _ h => h) (fun _ _ _ _ _ h => h) (fun _ _ _ => rfl) (fun l a W H => ?_)
      have e18 : a.eval (.tmp 18) = .pointer (some ⟨gb, 0, none⟩) := (H.base 18 rfl).trans b18
      simp only [execOp, e18]; go_simp
    · refine L.asked_pure rfl rfl (fun _ _ h => h) (fun _ _ _ _ _ h => h) (fun _ _ _ => rfl) (fun l a W H => ?_)
      have n14 : l 14 = false := by
        cases hs : l 14 with
        | false => rfl
        | true =>
          have h1 := (H.closed 14 5 (by rfl) hs)
          rw [H.new] at h1
          cases h1
      have hW : wa.drew = W := (H.s.trans (by simp only [n14, if_false, Bool.false_eq_true])).symm
      subst hW
      have e180 : a.eval (.tmp 180) = .pointer (some ⟨gb, 3, none⟩) := H.facts 180 rfl
      simp only [execOp, e180]; go_simp
    · refine L.asked_pure rfl rfl (fun _ _ h => h) (fun _ _ _ _ _ h => h) (fun _ _ _ => rfl) (fun l a W H => ?_)
      have e179 : a.eval (.tmp 179) = .slice (some ⟨gp, 0, none⟩) n n := H.facts 179 rfl
      have e181 : a.eval (.tmp 181) = .int .i64 (b : Nat) := H.facts 181 rfl
      simp only [execOp, e179, e181]; go_simp
    · refine L.asked_pure rfl rfl (fun _ _ h => h) (fun _ _ _ _ _ h => h) (fun _ _ _ => rfl) (fun l a W H => ?_)
      have n14 : l 14 = false := by
        cases hs : l 14 with
        | false => rfl
        | true =>
          have h1 := (H.closed 14 7 (by rfl) hs)
          rw [H.new] at h1
          cases h1
      have hW : wa.drew = W := (H.s.trans (by simp only [n14, if_false, Bool.false_eq_true])).symm
      subst hW
      have e182 : a.eval (.tmp 182) = .pointer (some ⟨gp, b, none⟩) := H.facts 182 rfl
      simp only [execOp, e182]; go_simp
    · refine L.asked_pure rfl rfl (fun _ _ h => h) (fun _ _ _ _ _ h => h) (fun _ _ _ => rfl) (fun l a W H => ?_)
      have e183 : a.eval (.tmp 183) = .int .i64 x := H.facts 183 rfl
      simp only [execOp, e183, Sem.run_bind, hcv, Result.andThen_ok, Sem.run_pure]
    · refine L.asked_pure rfl rfl (fun _ _ h => h) (fun _ _ _ _ _ h => h) (fun _ _ _ => rfl) (fun l a W H => ?_)
      have e184 : a.eval (.tmp 184) = .int .u64 yw := H.facts 184 rfl
      simp only [execOp, e184]
      go_simp
      all_goals (try rw [hw])
    · refine L.asked_pure rfl rfl (fun _ _ h => h) (fun _ _ _ _ _ h => h) (fun _ _ _ => rfl) (fun l a W H => ?_)
      have e13 : a.eval (.tmp 13) = .pointer (some ⟨go, 0, none⟩) := (H.base 13 rfl).trans b13
      simp only [execOp, e13]; go_simp
    · refine L.asked_pure rfl rfl (fun _ _ h => h) (fun _ _ _ _ _ h => h) (fun _ _ _ => rfl) (fun l a W H => ?_)
      have e186 : a.eval (.tmp 186) = .pointer (some ⟨go, 3, none⟩) := H.facts 186 rfl
      have e185 : a.eval (.tmp 185) = .int .u64 (j : Nat) := H.facts 185 rfl
      simp only [execOp, e186, e185]; go_simp
    · refine L.asked_pure rfl rfl (fun _ _ h => h) (fun _ _ _ _ _ h => h) (fun _ _ _ => rfl) (fun l a W H => ?_)
      have n14 : l 14 = false := by
        cases hs : l 14 with
        | false => rfl
        | true =>
          have h1 := (H.closed 14 12 (by rfl) hs)
          rw [H.new] at h1
          cases h1
      have hW : wa.drew = W := (H.s.trans (by simp only [n14, if_false, Bool.false_eq_true])).symm
      subst hW
      have e187 : a.eval (.tmp 187) = .pointer (some ⟨go, 3 + j, none⟩) := H.facts 187 rfl
      simp only [execOp, e187]; go_simp
    · refine L.asked_pure rfl rfl (fun _ _ h => h) (fun _ _ _ _ _ h => h) (fun _ _ _ => rfl) (fun l a W H => ?_)
      have e176 : a.eval (.tmp 176) = .slice (some ⟨gp, 0, none⟩) n n := H.facts 176 rfl
      have e178 : a.eval (.tmp 178) = .int .i64 (d : Nat) := H.facts 178 rfl
      simp only [execOp, e176, e178]; go_simp
    · refine L.asked_skip rfl rfl (fun l a W H => ?_)
      have n14 : l 14 = false := H.new
      have hW : wa.drew = W := (H.s.trans (by simp only [n14, if_false, Bool.false_eq_true])).symm
      subst hW
      have e189 : a.eval (.tmp 189) = .pointer (some ⟨gp, d, none⟩) := H.facts 189 rfl
      have e188 : a.eval (.tmp 188) = .int .i64 z := H.facts 188 rfl
      refine ⟨wa.drew.setCell ⟨gp, d, none⟩ (.int .i64 z), ?_, ?_, fun _ _ h => h⟩
      · (simp only [execOp]; try simp only [Option.map]); (try simp only [List.map_toArray, List.map_cons, List.map_nil])
        simp only [e189, e188]
        go_simp
      · simp [upd]
  · intro l s W hall hS hs
    rw [if_pos (hall 14 (by decide))] at hS
    have hS := Eq.symm hS
    subst hS
    exact hend s
def ops_py37_ok : Array Oper := #[⟨some 192, .move (.tmp 11), 25, "ref.go:194", #[], none⟩, ⟨some 193, .fieldAddr 65 (.tmp 18) 3, 0, "ref.go:194", #[], none⟩, ⟨some 194, .load 3 (.tmp 193), 3, "ref.go:194", #[⟨1, .data⟩], none⟩, ⟨some 195, .indexAddr 25 (.tmp 192) (.tmp 194), 0, "ref.go:194", #[⟨0, .data⟩, ⟨2, .data⟩], none⟩, ⟨some 196, .load 2 (.tmp 195), 2, "ref.go:194", #[⟨3, .data⟩], none⟩, ⟨some 197, .convert 2 77 (.tmp 196), 77, "ref.go:194", #[⟨4, .data⟩], none⟩, ⟨some 198, .binOp .rem 77 (.tmp 197) (.const (.int .u64 64)) 77, 77, "ref.go:194", #[⟨5, .data⟩], none⟩, ⟨some 199, .move (.tmp 11), 25, "ref.go:194", #[], none⟩, ⟨some 200, .fieldAddr 65 (.tmp 18) 4, 0, "ref.go:194", #[], none⟩, ⟨some 201, .load 3 (.tmp 200), 3, "ref.go:194", #[⟨8, .data⟩], none⟩, ⟨some 202, .indexAddr 25 (.tmp 199) (.tmp 201), 0, "ref.go:194", #[⟨7, .data⟩, ⟨9, .data⟩], none⟩, ⟨some 203, .load 2 (.tmp 202), 2, "ref.go:194", #[⟨10, .data⟩], none⟩, ⟨some 204, .fieldAddr 37 (.tmp 13) 3, 0, "ref.go:194", #[], none⟩, ⟨some 205, .indexAddr 35 (.tmp 204) (.tmp 198), 0, "ref.go:194", #[⟨12, .data⟩, ⟨6, .data⟩, ⟨0, .phase⟩, ⟨1, .phase⟩, ⟨2, .phase⟩, ⟨3, .phase⟩, ⟨4, .phase⟩, ⟨5, .phase⟩, ⟨6, .phase⟩, ⟨7, .phase⟩, ⟨8, .phase⟩, ⟨9, .phase⟩, ⟨10, .phase⟩, ⟨11, .phase⟩], none⟩, ⟨none, .store 2 (.tmp 205) (.tmp 203), 0, "ref.go:194", #[⟨13, .data⟩, ⟨11, .data⟩, ⟨0, .phase⟩, ⟨1, .phase⟩, ⟨2, .phase⟩, ⟨3, .phase⟩, ⟨4, .phase⟩, ⟨5, .phase⟩, ⟨6, .phase⟩, ⟨7, .phase⟩, ⟨8, .phase⟩, ⟨9, .phase⟩, ⟨10, .phase⟩, ⟨11, .phase⟩], none⟩]
/-- What is known of each temporary. -/
def G_py37_ok (go gp gb n d b j : Nat) (x z yw : Int) : Tmp → Value → World → Prop
  | 192, xx, _ => xx = .slice (some ⟨gp, 0, none⟩) n n
  | 193, xx, _ => xx = .pointer (some ⟨gb, 3, none⟩)
  | 194, xx, _ => xx = .int .i64 (d : Nat)
  | 195, xx, _ => xx = .pointer (some ⟨gp, d, none⟩)
  | 196, xx, _ => xx = .int .i64 x
  | 197, xx, _ => xx = .int .u64 yw
  | 198, xx, _ => xx = .int .u64 (j : Nat)
  | 199, xx, _ => xx = .slice (some ⟨gp, 0, none⟩) n n
  | 200, xx, _ => xx = .pointer (some ⟨gb, 4, none⟩)
  | 201, xx, _ => xx = .int .i64 (b : Nat)
  | 202, xx, _ => xx = .pointer (some ⟨gp, b, none⟩)
  | 203, xx, _ => xx = .int .i64 z
  | 204, xx, _ => xx = .pointer (some ⟨go, 3, none⟩)
  | 205, xx, _ => xx = .pointer (some ⟨go, 3 + j, none⟩)
  | _, _, _ => True
set_option maxHeartbeats 1000000 in
set_option maxRecDepth 100000 in
theorem py37_ok {Q : Exit → Act → World → Prop} {a0 : Act} {wa : World} {go gp gb n d b j : Nat} {x z yw : Int} {y : Value} (hz : a0.tmps.size = 297) (b11 : a0.eval (.tmp 11) = .slice (some ⟨gp, 0, none⟩) n n) (b18 : a0.eval (.tmp 18) = .pointer (some ⟨gb, 0, none⟩)) (b13 : a0.eval (.tmp 13) = .pointer (some ⟨go, 0, none⟩))
    (m2 : wa.cell? ⟨gb, 3, none⟩ = some (.int .i64 (d : Nat))) (m3 : wa.cell? ⟨gb, 4, none⟩ = some (.int .i64 (b : Nat))) (p0 : wa.cell? ⟨gp, d, none⟩ = some (.int .i64 x)) (p1 : wa.cell? ⟨gp, b, none⟩ = some (.int .i64 z)) (cm : wa.cell? ⟨go, 3 + j, none⟩ = some (y)) (f0 : wa.frozen? ⟨go, 3 + j, none⟩ = false) (hd : (d : Int) < (n : Int)) (hb : (b : Int) < (n : Int)) (hcv : ∀ W, (convert 2 77 (.int .i64 x)).run Try.prog W = .ok (.int .u64 yw) W) (hw : yw.tmod 64 = (j : Int)) (hj : (j : Int) < 64)
    (hend : ∀ s : Tmp → Value, Q .normal (overlay a0 (dstsOf ops_py37_ok) s) (wa.drew.setCell ⟨go, 3 + j, none⟩ (.int .i64 z))) : (Code.region 37 ops_py37_ok true).wp Try.prog Q a0 wa := by
  have m2 : wa.drew.cell? ⟨gb, 3, none⟩ = some (.int .i64 (d : Nat)) := m2
  have m3 : wa.drew.cell? ⟨gb, 4, none⟩ = some (.int .i64 (b : Nat)) := m3
  have p0 : wa.drew.cell? ⟨gp, d, none⟩ = some (.int .i64 x) := p0
  have p1 : wa.drew.cell? ⟨gp, b, none⟩ = some (.int .i64 z) := p1
  have cm : wa.drew.cell? ⟨go, 3 + j, none⟩ = some (y) := cm
  have f0 : wa.drew.frozen? ⟨go, 3 + j, none⟩ = false := f0
  refine L.wp_region_eachL (by kernel_rfl) (fun _ tt yv _ => G_py37_ok go gp gb n d b j x z yw tt yv wa) (fun l W => W = if l 14 = true then wa.drew.setCell ⟨go, 3 + j, none⟩ (.int .i64 z) else wa.drew) (by rw [hz]; kernel_rfl) rfl ?_ ?_
  · refine And.intro ?_ (And.intro ?_ (And.intro ?_ (And.intro ?_ (And.intro ?_ (And.intro ?_ (And.intro ?_ (And.intro ?_ (And.intro ?_ (And.intro ?_ (And.intro ?_ (And.intro ?_ (And.intro ?_ (And.intro ?_ (And.intro ?_ trivial))))))))))))))
    · refine L.asked_pure rfl rfl (fun _ _ h => h) (fun _ _ _ _ _ h => h) (fun _ _ _ => rfl) (fun l a W H => ?_)
      have e11 : a.eval (.tmp 11) = .slice (some ⟨gp, 0, none⟩) n n := (H.base 11 rfl).trans b11
      exact run_move rfl e11
    · refine L.asked_pure rfl rfl (fun _ _ h => h) (fun _ _ _ _ _ h => h) (fun _ _ _ => rfl) (fun l a W H => ?_)
      have e18 : a.eval (.tmp 18) = .pointer (some ⟨gb, 0, none⟩) := (H.base 18 rfl).trans b18
      simp only [execOp, e18]; go_simp
    · refine L.asked_pure rfl rfl (fun _ _ h => h) (fun _ _ _ _ _ h => h) (fun _ _ _ => rfl) (fun l a W H => ?_)
      have n14 : l 14 = false := by
        cases hs : l 14 with
        | false => rfl
        | true =>
          have h1 := (H.closed 14 2 (by rfl) hs)
          rw [H.new] at h1
          cases h1
      have hW : wa.drew = W := (H.s.trans (by simp only [n14, if_false, Bool.false_eq_true])).symm
      subst hW
      have e193 : a.eval (.tmp 193) = .pointer (some ⟨gb, 3, none⟩) := H.facts 193 rfl
      simp only [execOp, e193]; go_simp
    · refine L.asked_pure rfl rfl (fun _ _ h => h) (fun _ _ _ _ _ h => h) (fun _ _ _ => rfl) (fun l a W H => ?_)
      have e192 : a.eval (.tmp 192) = .slice (some ⟨gp, 0, none⟩) n n := H.facts 192 rfl
      have e194 : a.eval (.tmp 194) = .int .i64 (d : Nat) := H.facts 194 rfl
      simp only [execOp, e192, e194]; go_simp
    · refine L.asked_pure rfl rfl (fun _ _ h => h) (fun _ _ _ _ _ h => h) (fun _ _ _ => rfl) (fun l a W H => ?_)
      have n14 : l 14 = false := by
        cases hs : l 14 with
        | false => rfl
        | true =>
          have h1 := (H.closed 14 4 (by rfl) hs)
          rw [H.new] at h1
          cases h1
      have hW : wa.drew = W := (H.s.trans (by simp only [n14, if_false, Bool.false_eq_true])).symm
      subst hW
      have e195 : a.eval (.tmp 195) = .pointer (some ⟨gp, d, none⟩) := H.facts 195 rfl
      simp only [execOp, e195]; go_simp
    · refine L.asked_pure rfl rfl (fun _ _ h => h) (fun _ _ _ _ _ h => h) (fun _ _ _ => rfl) (fun l a W H => ?_)
      have e196 : a.eval (.tmp 196) = .int .i64 x := H.facts 196 rfl
      simp only [execOp, e196, Sem.run_bind, hcv, Result.andThen_ok, Sem.run_pure]
    · refine L.asked_pure rfl rfl (fun _ _ h => h) (fun _ _ _ _ _ h => h) (fun _ _ _ => rfl) (fun l a W H => ?_)
      have e197 : a.eval (.tmp 197) = .int .u64 yw := H.facts 197 rfl
      simp only [execOp, e197]
      go_simp
      all_goals (try rw [hw])
    · refine L.asked_pure rfl rfl (fun _ _ h => h) (fun _ _ _ _ _ h => h) (fun _ _ _ => rfl) (fun l a W H => ?_)
      have e11 : a.eval (.tmp 11) = .slice (some ⟨gp, 0, none⟩) n n := (H.base 11 rfl).trans b11
      exact run_move rfl e11
    · refine L.asked_pure rfl rfl (fun _ _ h => h) (fun _ _ _ _ _ h => h) (fun _ _ _ => rfl) (fun l a W H => ?_)
      have e18 : a.eval (.tmp 18) = .pointer (some ⟨gb, 0, none⟩) := (H.base 18 rfl).trans b18
      simp only [execOp, e18]; go_simp
    · refine L.asked_pure rfl rfl (fun _ _ h => h) (fun _ _ _ _ _ h => h) (fun _ _ _ => rfl) (fun l a W H => ?_)
      have n14 : l 14 = false := by
        cases hs : l 14 with
        | false => rfl
        | true =>
          have h1 := (H.closed 14 9 (by rfl) hs)
          rw [H.new] at h1
          cases h1
      have hW : wa.drew = W := (H.s.trans (by simp only [n14, if_false, Bool.false_eq_true])).symm
      subst hW
      have e200 : a.eval (.tmp 200) = .pointer (some ⟨gb, 4, none⟩) := H.facts 200 rfl
      simp only [execOp, e200]; go_simp
    · refine L.asked_pure rfl rfl (fun _ _ h => h) (fun _ _ _ _ _ h => h) (fun _ _ _ => rfl) (fun l a W H => ?_)
      have e199 : a.eval (.tmp 199) = .slice (some ⟨gp, 0, none⟩) n n := H.facts 199 rfl
      have e201 : a.eval (.tmp 201) = .int .i64 (b : Nat) := H.facts 201 rfl
      simp only [execOp, e199, e201]; go_simp
    · refine L.asked_pure rfl rfl (fun _ _ h => h) (fun _ _ _ _ _ h => h) (fun _ _ _ => rfl) (fun l a W H => ?_)
      have n14 : l 14 = false := by
        cases hs : l 14 with
        | false => rfl
        | true =>
          have h1 := (H.closed 14 11 (by rfl) hs)
          rw [H.new] at h1
          cases h1
      have hW : wa.drew = W := (H.s.trans (by simp only [n14, if_false, Bool.false_eq_true])).symm
      subst hW
      have e202 : a.eval (.tmp 202) = .pointer (some ⟨gp, b, none⟩) := H.facts 202 rfl
      simp only [execOp, e202]; go_simp
    · refine L.asked_pure rfl rfl (fun _ _ h => h) (fun _ _ _ _ _ h => h) (fun _ _ _ => rfl) (fun l a W H => ?_)
      have e13 : a.eval (.tmp 13) = .pointer (some ⟨go, 0, none⟩) := (H.base 13 rfl).trans b13
      simp only [execOp, e13]; go_simp
    · refine L.asked_pure rfl rfl (fun _ _ h => h) (fun _ _ _ _ _ h => h) (fun _ _ _ => rfl) (fun l a W H => ?_)
      have e204 : a.eval (.tmp 204) = .pointer (some ⟨go, 3, none⟩) := H.facts 204 rfl
      have e198 : a.eval (.tmp 198) = .int .u64 (j : Nat) := H.facts 198 rfl
      simp only [execOp, e204, e198]; go_simp
    · refine L.asked_skip rfl rfl (fun l a W H => ?_)
      have n14 : l 14 = false := H.new
      have hW : wa.drew = W := (H.s.trans (by simp only [n14, if_false, Bool.false_eq_true])).symm
      subst hW
      have e205 : a.eval (.tmp 205) = .pointer (some ⟨go, 3 + j, none⟩) := H.facts 205 rfl
      have e203 : a.eval (.tmp 203) = .int .i64 z := H.facts 203 rfl
      refine ⟨wa.drew.setCell ⟨go, 3 + j, none⟩ (.int .i64 z), ?_, ?_, fun _ _ h => h⟩
      · (simp only [execOp]; try simp only [Option.map]); (try simp only [List.map_toArray, List.map_cons, List.map_nil])
        simp only [e205, e203]
        go_simp
      · simp [upd]
  · intro l s W hall hS hs
    rw [if_pos (hall 14 (by decide))] at hS
    have hS := Eq.symm hS
    subst hS
    exact hend s
def ops_py43_ok : Array Oper := #[⟨some 218, .fieldAddr 75 (.tmp 21) 1, 0, "ref.go:198", #[], none⟩, ⟨some 219, .load 25 (.tmp 218), 25, "ref.go:198", #[⟨0, .data⟩], none⟩, ⟨some 220, .move (.tmp 11), 25, "ref.go:198", #[], none⟩, ⟨some 221, .fieldAddr 65 (.tmp 18) 6, 0, "ref.go:198", #[], none⟩, ⟨some 222, .load 63 (.tmp 221), 63, "ref.go:198", #[⟨3, .data⟩], none⟩, ⟨some 223, .move (.tmp 22), 3, "ref.go:198", #[], none⟩, ⟨some 224, .indexAddr 63 (.tmp 222) (.tmp 223), 0, "ref.go:198", #[⟨4, .data⟩, ⟨5, .data⟩], none⟩, ⟨some 225, .load 3 (.tmp 224), 3, "ref.go:198", #[⟨6, .data⟩], none⟩, ⟨some 226, .indexAddr 25 (.tmp 220) (.tmp 225), 0, "ref.go:198", #[⟨2, .data⟩, ⟨7, .data⟩], none⟩, ⟨some 227, .load 2 (.tmp 226), 2, "ref.go:198", #[⟨8, .data⟩], none⟩, ⟨some 228, .buildSlice 25 1 #[(0, .tmp 227)], 25, "ref.go:198", #[⟨9, .data⟩], none⟩, ⟨some 229, .call { callee := Callee.builtin Builtin.append, args := #[.tmp 219, .tmp 228], argTypes := #[25, 25] }, 25, "ref.go:198", #[⟨1, .data⟩, ⟨10, .data⟩], none⟩, ⟨some 230, .fieldAddr 75 (.tmp 21) 1, 0, "ref.go:198", #[⟨0, .phase⟩, ⟨1, .phase⟩, ⟨2, .phase⟩, ⟨3, .phase⟩, ⟨4, .phase⟩, ⟨5, .phase⟩, ⟨6, .phase⟩, ⟨7, .phase⟩, ⟨8, .phase⟩, ⟨9, .phase⟩, ⟨10, .phase⟩, ⟨11, .phase⟩], none⟩, ⟨none, .store 25 (.tmp 230) (.tmp 229), 0, "ref.go:198", #[⟨12, .data⟩, ⟨11, .data⟩, ⟨11, .chain⟩, ⟨0, .phase⟩, ⟨1, .phase⟩, ⟨2, .phase⟩, ⟨3, .phase⟩, ⟨4, .phase⟩, ⟨5, .phase⟩, ⟨6, .phase⟩, ⟨7, .phase⟩, ⟨8, .phase⟩, ⟨9, .phase⟩, ⟨10, .phase⟩, ⟨11, .phase⟩], none⟩]
/-- What is known of each temporary. -/
def G_py43_ok (gb gp gc n b j ab aoff an ac hz1 vn vc : Nat) (x : Int) (ua : Value) (va : Option Addr) : Tmp → Value → World → Prop
  | 218, xx, _ => xx = .pointer (some ⟨gc, 1, none⟩)
  | 219, xx, _ => xx = ua
  | 220, xx, _ => xx = .slice (some ⟨gp, 0, none⟩) n n
  | 221, xx, _ => xx = .pointer (some ⟨gb, 6, none⟩)
  | 222, xx, _ => xx = .slice (some ⟨ab, aoff, none⟩) an ac
  | 223, xx, _ => xx = .int .i64 (j : Nat)
  | 224, xx, _ => xx = .pointer (some ⟨ab, aoff + j, none⟩)
  | 225, xx, _ => xx = .int .i64 (b : Nat)
  | 226, xx, _ => xx = .pointer (some ⟨gp, b, none⟩)
  | 227, xx, _ => xx = .int .i64 x
  | 228, xx, _ => xx = .slice (some ⟨hz1, 0, none⟩) 1 1
  | 229, xx, _ => xx = .slice va vn vc
  | 230, xx, _ => xx = .pointer (some ⟨gc, 1, none⟩)
  | _, _, _ => True
set_option maxHeartbeats 1000000 in
set_option maxRecDepth 100000 in
theorem py43_ok {Q : Exit → Act → World → Prop} {a0 : Act} {wa : World} {gb gp gc n b j ab aoff an ac hz1 vn vc : Nat} {x : Int} {ua yy : Value} {va : Option Addr} {W1 W2 W3 : World} (hz : a0.tmps.size = 297) (b21 : a0.eval (.tmp 21) = .pointer (some ⟨gc, 0, none⟩)) (b11 : a0.eval (.tmp 11) = .slice (some ⟨gp, 0, none⟩) n n) (b18 : a0.eval (.tmp 18) = .pointer (some ⟨gb, 0, none⟩)) (b22 : a0.eval (.tmp 22) = .int .i64 (j : Nat))
    (k1 : wa.cell? ⟨gc, 1, none⟩ = some (ua)) (k1_1 : (W1).cell? ⟨gc, 1, none⟩ = some (ua)) (k1x_2 : (W2).cell? ⟨gc, 1, none⟩ = some (yy)) (m6 : wa.cell? ⟨gb, 6, none⟩ = some (.slice (some ⟨ab, aoff, none⟩) an ac)) (ca : wa.cell? ⟨ab, aoff + j, none⟩ = some (.int .i64 (b : Nat))) (p1 : wa.cell? ⟨gp, b, none⟩ = some (.int .i64 x)) (f1 : (W2).frozen? ⟨gc, 1, none⟩ = false) (hhz : wa.heap.size = hz1) (hW1 : (wa.alloc (.cells #[.int .i64 x] 2)).drew = W1) (hb : (b : Int) < (n : Int)) (hj : (j : Int) < (an : Int)) (hrun : (Builtin.append_ #[25, 25] 25 #[ua, .slice (some ⟨hz1, 0, none⟩) 1 1]).run Try.prog W1 = .ok (.slice va vn vc) W2) (hW3 : W2.setCell ⟨gc, 1, none⟩ (.slice va vn vc) = W3)
    (hend : ∀ s : Tmp → Value, Q .normal (overlay a0 (dstsOf ops_py43_ok) s) W3) : (Code.region 43 ops_py43_ok true).wp Try.prog Q a0 wa := by
  have k1 : wa.drew.cell? ⟨gc, 1, none⟩ = some (ua) := k1
  have m6 : wa.drew.cell? ⟨gb, 6, none⟩ = some (.slice (some ⟨ab, aoff, none⟩) an ac) := m6
  have ca : wa.drew.cell? ⟨ab, aoff + j, none⟩ = some (.int .i64 (b : Nat)) := ca
  have p1 : wa.drew.cell? ⟨gp, b, none⟩ = some (.int .i64 x) := p1
  refine L.wp_region_eachL (by kernel_rfl) (fun _ tt yv _ => G_py43_ok gb gp gc n b j ab aoff an ac hz1 vn vc x ua va tt yv wa) (fun l W => W = if l 13 = true then W3 else (if l 11 = true then W2 else (if l 10 = true then W1 else wa.drew))) (by rw [hz]; kernel_rfl) rfl ?_ ?_
  · refine And.intro ?_ (And.intro ?_ (And.intro ?_ (And.intro ?_ (And.intro ?_ (And.intro ?_ (And.intro ?_ (And.intro ?_ (And.intro ?_ (And.intro ?_ (And.intro ?_ (And.intro ?_ (And.intro ?_ (And.intro ?_ trivial)))))))))))))
    · refine L.asked_pure rfl rfl (fun _ _ h => h) (fun _ _ _ _ _ h => h) (fun _ _ _ => rfl) (fun l a W H => ?_)
      have e21 : a.eval (.tmp 21) = .pointer (some ⟨gc, 0, none⟩) := (H.base 21 rfl).trans b21
      simp only [execOp, e21]; go_simp
    · refine L.asked_pure rfl rfl (fun _ _ h => h) (fun _ _ _ _ _ h => h) (fun _ _ _ => rfl) (fun l a W H => ?_)
      have n11 : l 11 = false := by
        cases hs : l 11 with
        | false => rfl
        | true =>
          have h1 := (H.closed 11 1 (by rfl) hs)
          rw [H.new] at h1
          cases h1
      have n13 : l 13 = false := by
        cases hs : l 13 with
        | false => rfl
        | true =>
          have h1 := (H.closed 13 1 (by rfl) hs)
          rw [H.new] at h1
          cases h1
      cases hc10 : l 10 with
      | true =>
        have y10 : l 10 = true := hc10
        have hW : W1 = W := (H.s.trans (by simp only [n13, n11, y10, if_true, if_false, Bool.false_eq_true])).symm
        subst hW
        have e218 : a.eval (.tmp 218) = .pointer (some ⟨gc, 1, none⟩) := H.facts 218 rfl
        simp only [execOp, e218]; go_simp
      | false =>
        have n10 : l 10 = false := hc10
        have hW : wa.drew = W := (H.s.trans (by simp only [n13, n11, n10, if_false, Bool.false_eq_true])).symm
        subst hW
        have e218 : a.eval (.tmp 218) = .pointer (some ⟨gc, 1, none⟩) := H.facts 218 rfl
        simp only [execOp, e218]; go_simp
    · refine L.asked_pure rfl rfl (fun _ _ h => h) (fun _ _ _ _ _ h => h) (fun _ _ _ => rfl) (fun l a W H => ?_)
      have e11 : a.eval (.tmp 11) = .slice (some ⟨gp, 0, none⟩) n n := (H.base 11 rfl).trans b11
      exact run_move rfl e11
    · refine L.asked_pure rfl rfl (fun _ _ h => h) (fun _ _ _ _ _ h => h) (fun _ _ _ => rfl) (fun l a W H => ?_)
      have e18 : a.eval (.tmp 18) = .pointer (some ⟨gb, 0, none⟩) := (H.base 18 rfl).trans b18
      simp only [execOp, e18]; go_simp
    · refine L.asked_pure rfl rfl (fun _ _ h => h) (fun _ _ _ _ _ h => h) (fun _ _ _ => rfl) (fun l a W H => ?_)
      have n10 : l 10 = false := by
        cases hs : l 10 with
        | false => rfl
        | true =>
          have h1 := (H.closed 6 4 (by rfl) (H.closed 7 6 (by rfl) (H.closed 8 7 (by rfl) (H.closed 9 8 (by rfl) (H.closed 10 9 (by rfl) hs)))))
          rw [H.new] at h1
          cases h1
      have n11 : l 11 = false := by
        cases hs : l 11 with
        | false => rfl
        | true =>
          have h1 := (H.closed 6 4 (by rfl) (H.closed 7 6 (by rfl) (H.closed 8 7 (by rfl) (H.closed 9 8 (by rfl) (H.closed 10 9 (by rfl) (H.closed 11 10 (by rfl) hs))))))
          rw [H.new] at h1
          cases h1
      have n13 : l 13 = false := by
        cases hs : l 13 with
        | false => rfl
        | true =>
          have h1 := (H.closed 13 4 (by rfl) hs)
          rw [H.new] at h1
          cases h1
      have hW : wa.drew = W := (H.s.trans (by simp only [n13, n11, n10, if_false, Bool.false_eq_true])).symm
      subst hW
      have e221 : a.eval (.tmp 221) = .pointer (some ⟨gb, 6, none⟩) := H.facts 221 rfl
      simp only [execOp, e221]; go_simp
    · refine L.asked_pure rfl rfl (fun _ _ h => h) (fun _ _ _ _ _ h => h) (fun _ _ _ => rfl) (fun l a W H => ?_)
      have e22 : a.eval (.tmp 22) = .int .i64 (j : Nat) := (H.base 22 rfl).trans b22
      exact run_move rfl e22
    · refine L.asked_pure rfl rfl (fun _ _ h => h) (fun _ _ _ _ _ h => h) (fun _ _ _ => rfl) (fun l a W H => ?_)
      have e222 : a.eval (.tmp 222) = .slice (some ⟨ab, aoff, none⟩) an ac := H.facts 222 rfl
      have e223 : a.eval (.tmp 223) = .int .i64 (j : Nat) := H.facts 223 rfl
      simp only [execOp, e222, e223]; go_simp
    · refine L.asked_pure rfl rfl (fun _ _ h => h) (fun _ _ _ _ _ h => h) (fun _ _ _ => rfl) (fun l a W H => ?_)
      have n10 : l 10 = false := by
        cases hs : l 10 with
        | false => rfl
        | true =>
          have h1 := (H.closed 8 7 (by rfl) (H.closed 9 8 (by rfl) (H.closed 10 9 (by rfl) hs)))
          rw [H.new] at h1
          cases h1
      have n11 : l 11 = false := by
        cases hs : l 11 with
        | false => rfl
        | true =>
          have h1 := (H.closed 8 7 (by rfl) (H.closed 9 8 (by rfl) (H.closed 10 9 (by rfl) (H.closed 11 10 (by rfl) hs))))
          rw [H.new] at h1
          cases h1
      have n13 : l 13 = false := by
        cases hs : l 13 with
        | false => rfl
        | true =>
          have h1 := (H.closed 13 7 (by rfl) hs)
          rw [H.new] at h1
          cases h1
      have hW : wa.drew = W := (H.s.trans (by simp only [n13, n11, n10, if_false, Bool.false_eq_true])).symm
      subst hW
      have e224 : a.eval (.tmp 224) = .pointer (some ⟨ab, aoff + j, none⟩) := H.facts 224 rfl
      simp only [execOp, e224]; go_simp
    · refine L.asked_pure rfl rfl (fun _ _ h => h) (fun _ _ _ _ _ h => h) (fun _ _ _ => rfl) (fun l a W H => ?_)
      have e220 : a.eval (.tmp 220) = .slice (some ⟨gp, 0, none⟩) n n := H.facts 220 rfl
      have e225 : a.eval (.tmp 225) = .int .i64 (b : Nat) := H.facts 225 rfl
      simp only [execOp, e220, e225]; go_simp
    · refine L.asked_pure rfl rfl (fun _ _ h => h) (fun _ _ _ _ _ h => h) (fun _ _ _ => rfl) (fun l a W H => ?_)
      have n10 : l 10 = false := by
        cases hs : l 10 with
        | false => rfl
        | true =>
          have h1 := (H.closed 10 9 (by rfl) hs)
          rw [H.new] at h1
          cases h1
      have n11 : l 11 = false := by
        cases hs : l 11 with
        | false => rfl
        | true =>
          have h1 := (H.closed 10 9 (by rfl) (H.closed 11 10 (by rfl) hs))
          rw [H.new] at h1
          cases h1
      have n13 : l 13 = false := by
        cases hs : l 13 with
        | false => rfl
        | true =>
          have h1 := (H.closed 13 9 (by rfl) hs)
          rw [H.new] at h1
          cases h1
      have hW : wa.drew = W := (H.s.trans (by simp only [n13, n11, n10, if_false, Bool.false_eq_true])).symm
      subst hW
      have e226 : a.eval (.tmp 226) = .pointer (some ⟨gp, b, none⟩) := H.facts 226 rfl
      simp only [execOp, e226]; go_simp
    · refine L.asked_any rfl (fun l a W H => ?_)
      have n10 : l 10 = false := H.new
      have n11 : l 11 = false := by
        cases hs : l 11 with
        | false => rfl
        | true =>
          have h1 := (H.closed 11 10 (by rfl) hs)
          rw [H.new] at h1
          cases h1
      have n13 : l 13 = false := by
        cases hs : l 13 with
        | false => rfl
        | true =>
          have h1 := (H.closed 13 10 (by rfl) hs)
          rw [H.new] at h1
          cases h1
      have hW : wa.drew = W := (H.s.trans (by simp only [n13, n11, n10, if_false, Bool.false_eq_true])).symm
      subst hW
      have e227 : a.eval (.tmp 227) = .int .i64 x := H.facts 227 rfl
      refine ⟨.slice (some ⟨hz1, 0, none⟩) 1 1, W1, ?_, fun d hd => by cases hd; rfl, ?_, fun _ _ _ h => h⟩
      · (simp only [execOp]; try simp only [Option.map]); (try simp only [List.map_toArray, List.map_cons, List.map_nil])
        simp only [e227]
        go_simp
      · simp [upd, n13, n11]
    · refine L.asked_any rfl (fun l a W H => ?_)
      have n11 : l 11 = false := H.new
      have n13 : l 13 = false := by
        cases hs : l 13 with
        | false => rfl
        | true =>
          have h1 := (H.closed 13 11 (by rfl) hs)
          rw [H.new] at h1
          cases h1
      have h10 : l 10 = true := H.deps ⟨10, .data⟩ (by simp) rfl
      have y10 : l 10 = true := h10
      have hW : W1 = W := (H.s.trans (by simp only [n13, n11, y10, if_true, if_false, Bool.false_eq_true])).symm
      subst hW
      have e219 : a.eval (.tmp 219) = ua := H.facts 219 rfl
      have e228 : a.eval (.tmp 228) = .slice (some ⟨hz1, 0, none⟩) 1 1 := H.facts 228 rfl
      refine ⟨.slice va vn vc, W2, ?_, fun d hd => by cases hd; rfl, ?_, fun _ _ _ h => h⟩
      · simp only [execOp, resolve, invoke, builtin, Sem.run_bind, Sem.run_pure, Result.andThen_ok, List.map_toArray, List.map_cons, List.map_nil, e219, e228, hrun]
      · simp [upd, n13]
    · refine L.asked_pure rfl rfl (fun _ _ h => h) (fun _ _ _ _ _ h => h) (fun _ _ _ => rfl) (fun l a W H => ?_)
      have e21 : a.eval (.tmp 21) = .pointer (some ⟨gc, 0, none⟩) := (H.base 21 rfl).trans b21
      simp only [execOp, e21]; go_simp
    · refine L.asked_skip rfl rfl (fun l a W H => ?_)
      have n13 : l 13 = false := H.new
      have h11 : l 11 = true := H.deps ⟨11, .data⟩ (by simp) rfl
      have y11 : l 11 = true := h11
      have hW : W2 = W := (H.s.trans (by simp only [n13, y11, if_true, if_false, Bool.false_eq_true])).symm
      subst hW
      have e230 : a.eval (.tmp 230) = .pointer (some ⟨gc, 1, none⟩) := H.facts 230 rfl
      have e229 : a.eval (.tmp 229) = .slice va vn vc := H.facts 229 rfl
      refine ⟨W3, ?_, ?_, fun _ _ h => h⟩
      · (simp only [execOp]; try simp only [Option.map]); (try simp only [List.map_toArray, List.map_cons, List.map_nil])
        simp only [e230, e229]
        go_simp
      · simp [upd]
  · intro l s W hall hS hs
    rw [if_pos (hall 13 (by decide))] at hS
    have hS := Eq.symm hS
    subst hS
    exact hend s
def ops_py47_ok : Array Oper := #[⟨some 246, .move (.tmp 11), 25, "ref.go:203", #[], none⟩, ⟨some 247, .fieldAddr 65 (.tmp 18) 2, 0, "ref.go:203", #[], none⟩, ⟨some 248, .load 3 (.tmp 247), 3, "ref.go:203", #[⟨1, .data⟩], none⟩, ⟨some 249, .fieldAddr 27 (.tmp 9) 2, 0, "ref.go:203", #[], none⟩, ⟨some 250, .load 25 (.tmp 249), 25, "ref.go:203", #[⟨3, .data⟩], none⟩, ⟨some 251, .move (.tmp 17), 3, "ref.go:203", #[], none⟩, ⟨some 252, .indexAddr 25 (.tmp 250) (.tmp 251), 0, "ref.go:203", #[⟨4, .data⟩, ⟨5, .data⟩], none⟩, ⟨some 253, .load 2 (.tmp 252), 2, "ref.go:203", #[⟨6, .data⟩], none⟩, ⟨some 254, .indexAddr 25 (.tmp 246) (.tmp 248), 0, "ref.go:203", #[⟨0, .data⟩, ⟨2, .data⟩, ⟨0, .phase⟩, ⟨1, .phase⟩, ⟨2, .phase⟩, ⟨3, .phase⟩, ⟨4, .phase⟩, ⟨5, .phase⟩, ⟨6, .phase⟩, ⟨7, .phase⟩], none⟩, ⟨none, .store 2 (.tmp 254) (.tmp 253), 0, "ref.go:203", #[⟨8, .data⟩, ⟨7, .data⟩, ⟨0, .phase⟩, ⟨1, .phase⟩, ⟨2, .phase⟩, ⟨3, .phase⟩, ⟨4, .phase⟩, ⟨5, .phase⟩, ⟨6, .phase⟩, ⟨7, .phase⟩], none⟩]
/-- What is known of each temporary. -/
def G_py47_ok (gi gp gb n d j ab aoff an ac : Nat) (x : Int) : Tmp → Value → World → Prop
  | 246, xx, _ => xx = .slice (some ⟨gp, 0, none⟩) n n
  | 247, xx, _ => xx = .pointer (some ⟨gb, 2, none⟩)
  | 248, xx, _ => xx = .int .i64 (d : Nat)
  | 249, xx, _ => xx = .pointer (some ⟨gi, 2, none⟩)
  | 250, xx, _ => xx = .slice (some ⟨ab, aoff, none⟩) an ac
  | 251, xx, _ => xx = .int .i64 (j : Nat)
  | 252, xx, _ => xx = .pointer (some ⟨ab, aoff + j, none⟩)
  | 253, xx, _ => xx = .int .i64 x
  | 254, xx, _ => xx = .pointer (some ⟨gp, d, none⟩)
  | _, _, _ => True
set_option maxHeartbeats 1000000 in
set_option maxRecDepth 100000 in
theorem py47_ok {Q : Exit → Act → World → Prop} {a0 : Act} {wa : World} {gi gp gb n d j ab aoff an ac : Nat} {x : Int} {y : Value} (hz : a0.tmps.size = 297) (b11 : a0.eval (.tmp 11) = .slice (some ⟨gp, 0, none⟩) n n) (b18 : a0.eval (.tmp 18) = .pointer (some ⟨gb, 0, none⟩)) (b9 : a0.eval (.tmp 9) = .pointer (some ⟨gi, 0, none⟩)) (b17 : a0.eval (.tmp 17) = .int .i64 (j : Nat))
    (m2 : wa.cell? ⟨gb, 2, none⟩ = some (.int .i64 (d : Nat))) (i2 : wa.cell? ⟨gi, 2, none⟩ = some (.slice (some ⟨ab, aoff, none⟩) an ac)) (ca : wa.cell? ⟨ab, aoff + j, none⟩ = some (.int .i64 x)) (p0 : wa.cell? ⟨gp, d, none⟩ = some (y)) (f0 : wa.frozen? ⟨gp, d, none⟩ = false) (hd : (d : Int) < (n : Int)) (hj : (j : Int) < (an : Int))
    (hend : ∀ s : Tmp → Value, Q .normal (overlay a0 (dstsOf ops_py47_ok) s) (wa.drew.setCell ⟨gp, d, none⟩ (.int .i64 x))) : (Code.region 47 ops_py47_ok true).wp Try.prog Q a0 wa := by
  have m2 : wa.drew.cell? ⟨gb, 2, none⟩ = some (.int .i64 (d : Nat)) := m2
  have i2 : wa.drew.cell? ⟨gi, 2, none⟩ = some (.slice (some ⟨ab, aoff, none⟩) an ac) := i2
  have ca : wa.drew.cell? ⟨ab, aoff + j, none⟩ = some (.int .i64 x) := ca
  have p0 : wa.drew.cell? ⟨gp, d, none⟩ = some (y) := p0
  have f0 : wa.drew.frozen? ⟨gp, d, none⟩ = false := f0
  refine L.wp_region_eachL (by kernel_rfl) (fun _ tt yv _ => G_py47_ok gi gp gb n d j ab aoff an ac x tt yv wa) (fun l W => W = if l 9 = true then wa.drew.setCell ⟨gp, d, none⟩ (.int .i64 x) else wa.drew) (by rw [hz]; kernel_rfl) rfl ?_ ?_
  · refine And.intro ?_ (And.intro ?_ (And.intro ?_ (And.intro ?_ (And.intro ?_ (And.intro ?_ (And.intro ?_ (And.intro ?_ (And.intro ?_ (And.intro ?_ trivial)))))))))
    · refine L.asked_pure rfl rfl (fun _ _ h => h) (fun _ _ _ _ _ h => h) (fun _ _ _ => rfl) (fun l a W H => ?_)
      have e11 : a.eval (.tmp 11) = .slice (some ⟨gp, 0, none⟩) n n := (H.base 11 rfl).trans b11
      exact run_move rfl e11
    · refine L.asked_pure rfl rfl (fun _ _ h => h) (fun _ _ _ _ _ h => h) (fun _ _ _ => rfl) (fun l a W H => ?_)
      have e18 : a.eval (.tmp 18) = .pointer (some ⟨gb, 0, none⟩) := (H.base 18 rfl).trans b18
      simp only [execOp, e18]; go_simp
    · refine L.asked_pure rfl rfl (fun _ _ h => h) (fun _ _ _ _ _ h => h) (fun _ _ _ => rfl) (fun l a W H => ?_)
      have n9 : l 9 = false := by
        cases hs : l 9 with
        | false => rfl
        | true =>
          have h1 := (H.closed 9 2 (by rfl) hs)
          rw [H.new] at h1
          cases h1
      have hW : wa.drew = W := (H.s.trans (by simp only [n9, if_false, Bool.false_eq_true])).symm
      subst hW
      have e247 : a.eval (.tmp 247) = .pointer (some ⟨gb, 2, none⟩) := H.facts 247 rfl
      simp only [execOp, e247]; go_simp
    · refine L.asked_pure rfl rfl (fun _ _ h => h) (fun _ _ _ _ _ h => h) (fun _ _ _ => rfl) (fun l a W H => ?_)
      have e9 : a.eval (.tmp 9) = .pointer (some ⟨gi, 0, none⟩) := (H.base 9 rfl).trans b9
      simp only [execOp, e9]; go_simp
    · refine L.asked_pure rfl rfl (fun _ _ h => h) (fun _ _ _ _ _ h => h) (fun _ _ _ => rfl) (fun l a W H => ?_)
      have n9 : l 9 = false := by
        cases hs : l 9 with
        | false => rfl
        | true =>
          have h1 := (H.closed 9 4 (by rfl) hs)
          rw [H.new] at h1
          cases h1
      have hW : wa.drew = W := (H.s.trans (by simp only [n9, if_false, Bool.false_eq_true])).symm
      subst hW
      have e249 : a.eval (.tmp 249) = .pointer (some ⟨gi, 2, none⟩) := H.facts 249 rfl
      simp only [execOp, e249]; go_simp
    · refine L.asked_pure rfl rfl (fun _ _ h => h) (fun _ _ _ _ _ h => h) (fun _ _ _ => rfl) (fun l a W H => ?_)
      have e17 : a.eval (.tmp 17) = .int .i64 (j : Nat) := (H.base 17 rfl).trans b17
      exact run_move rfl e17
    · refine L.asked_pure rfl rfl (fun _ _ h => h) (fun _ _ _ _ _ h => h) (fun _ _ _ => rfl) (fun l a W H => ?_)
      have e250 : a.eval (.tmp 250) = .slice (some ⟨ab, aoff, none⟩) an ac := H.facts 250 rfl
      have e251 : a.eval (.tmp 251) = .int .i64 (j : Nat) := H.facts 251 rfl
      simp only [execOp, e250, e251]; go_simp
    · refine L.asked_pure rfl rfl (fun _ _ h => h) (fun _ _ _ _ _ h => h) (fun _ _ _ => rfl) (fun l a W H => ?_)
      have n9 : l 9 = false := by
        cases hs : l 9 with
        | false => rfl
        | true =>
          have h1 := (H.closed 9 7 (by rfl) hs)
          rw [H.new] at h1
          cases h1
      have hW : wa.drew = W := (H.s.trans (by simp only [n9, if_false, Bool.false_eq_true])).symm
      subst hW
      have e252 : a.eval (.tmp 252) = .pointer (some ⟨ab, aoff + j, none⟩) := H.facts 252 rfl
      simp only [execOp, e252]; go_simp
    · refine L.asked_pure rfl rfl (fun _ _ h => h) (fun _ _ _ _ _ h => h) (fun _ _ _ => rfl) (fun l a W H => ?_)
      have e246 : a.eval (.tmp 246) = .slice (some ⟨gp, 0, none⟩) n n := H.facts 246 rfl
      have e248 : a.eval (.tmp 248) = .int .i64 (d : Nat) := H.facts 248 rfl
      simp only [execOp, e246, e248]; go_simp
    · refine L.asked_skip rfl rfl (fun l a W H => ?_)
      have n9 : l 9 = false := H.new
      have hW : wa.drew = W := (H.s.trans (by simp only [n9, if_false, Bool.false_eq_true])).symm
      subst hW
      have e254 : a.eval (.tmp 254) = .pointer (some ⟨gp, d, none⟩) := H.facts 254 rfl
      have e253 : a.eval (.tmp 253) = .int .i64 x := H.facts 253 rfl
      refine ⟨wa.drew.setCell ⟨gp, d, none⟩ (.int .i64 x), ?_, ?_, fun _ _ h => h⟩
      · (simp only [execOp]; try simp only [Option.map]); (try simp only [List.map_toArray, List.map_cons, List.map_nil])
        simp only [e254, e253]
        go_simp
      · simp [upd]
  · intro l s W hall hS hs
    rw [if_pos (hall 9 (by decide))] at hS
    have hS := Eq.symm hS
    subst hS
    exact hend s
def ops_py55_ok : Array Oper := #[⟨some 274, .move (.tmp 11), 25, "ref.go:216", #[{ on := 6, ground := Ground.gcOnly Departure.lateStores }], none⟩, ⟨some 275, .fieldAddr 58 (.tmp 23) 1, 0, "ref.go:216", #[{ on := 6, ground := Ground.gcOnly Departure.lateStores }], none⟩, ⟨some 276, .load 3 (.tmp 275), 3, "ref.go:216", #[⟨1, .data⟩, { on := 6, ground := Ground.gcOnly Departure.lateStores }], none⟩, ⟨some 277, .indexAddr 25 (.tmp 274) (.tmp 276), 0, "ref.go:216", #[⟨0, .data⟩, ⟨2, .data⟩, { on := 6, ground := Ground.gcOnly Departure.lateStores }], none⟩, ⟨some 278, .load 2 (.tmp 277), 2, "ref.go:216", #[⟨3, .data⟩, { on := 6, ground := Ground.gcOnly Departure.lateStores }], none⟩, ⟨some 279, .fieldAddr 37 (.tmp 13) 0, 0, "ref.go:216", #[{ on := 0, ground := Ground.textOnly Departure.lateStores }, { on := 1, ground := Ground.textOnly Departure.lateStores }, { on := 2, ground := Ground.textOnly Departure.lateStores }, { on := 3, ground := Ground.textOnly Departure.lateStores }, { on := 4, ground := Ground.textOnly Departure.lateStores }], none⟩, ⟨none, .store 3 (.tmp 279) (.const (.int .i64 1)), 0, "ref.go:216", #[⟨5, .data⟩, { on := 0, ground := Ground.textOnly Departure.lateStores }, { on := 1, ground := Ground.textOnly Departure.lateStores }, { on := 2, ground := Ground.textOnly Departure.lateStores }, { on := 3, ground := Ground.textOnly Departure.lateStores }, { on := 4, ground := Ground.textOnly Departure.lateStores }], none⟩, ⟨some 280, .fieldAddr 37 (.tmp 13) 1, 0, "ref.go:216", #[⟨0, .phase⟩, ⟨1, .phase⟩, ⟨2, .phase⟩, ⟨3, .phase⟩, ⟨4, .phase⟩, ⟨5, .phase⟩, ⟨6, .phase⟩], none⟩, ⟨none, .store 2 (.tmp 280) (.tmp 278), 0, "ref.go:216", #[⟨7, .data⟩, ⟨4, .data⟩, ⟨6, .chain⟩, ⟨0, .phase⟩, ⟨1, .phase⟩, ⟨2, .phase⟩, ⟨3, .phase⟩, ⟨4, .phase⟩, ⟨5, .phase⟩, ⟨6, .phase⟩], none⟩]
/-- What is known of each temporary. -/
def G_py55_ok (go gp ge n b : Nat) (x : Int) : Tmp → Value → World → Prop
  | 274, xx, _ => xx = .slice (some ⟨gp, 0, none⟩) n n
  | 275, xx, _ => xx = .pointer (some ⟨ge, 1, none⟩)
  | 276, xx, _ => xx = .int .i64 (b : Nat)
  | 277, xx, _ => xx = .pointer (some ⟨gp, b, none⟩)
  | 278, xx, _ => xx = .int .i64 x
  | 279, xx, _ => xx = .pointer (some ⟨go, 0, none⟩)
  | 280, xx, _ => xx = .pointer (some ⟨go, 1, none⟩)
  | _, _, _ => True
set_option maxHeartbeats 1000000 in
set_option maxRecDepth 100000 in
theorem py55_ok {Q : Exit → Act → World → Prop} {a0 : Act} {wa : World} {go gp ge n b : Nat} {x : Int} {y y1 : Value} {W1 W2 : World} (hz : a0.tmps.size = 297) (b11 : a0.eval (.tmp 11) = .slice (some ⟨gp, 0, none⟩) n n) (b23 : a0.eval (.tmp 23) = .pointer (some ⟨ge, 0, none⟩)) (b13 : a0.eval (.tmp 13) = .pointer (some ⟨go, 0, none⟩))
    (m1 : wa.cell? ⟨ge, 1, none⟩ = some (.int .i64 (b : Nat))) (m1_1 : (W1).cell? ⟨ge, 1, none⟩ = some (.int .i64 (b : Nat))) (p1 : wa.cell? ⟨gp, b, none⟩ = some (.int .i64 x)) (p1_1 : (W1).cell? ⟨gp, b, none⟩ = some (.int .i64 x)) (c0 : wa.cell? ⟨go, 0, none⟩ = some (y)) (c1_1 : (W1).cell? ⟨go, 1, none⟩ = some (y1)) (f0 : wa.frozen? ⟨go, 0, none⟩ = false) (f1 : (W1).frozen? ⟨go, 1, none⟩ = false) (hb : (b : Int) < (n : Int)) (hW1 : wa.drew.setCell ⟨go, 0, none⟩ (.int .i64 1) = W1) (hW2 : W1.setCell ⟨go, 1, none⟩ (.int .i64 x) = W2)
    (hend : ∀ s : Tmp → Value, Q .normal (overlay a0 (dstsOf ops_py55_ok) s) W2) : (Code.region 55 ops_py55_ok true).wp Try.prog Q a0 wa := by
  have m1 : wa.drew.cell? ⟨ge, 1, none⟩ = some (.int .i64 (b : Nat)) := m1
  have p1 : wa.drew.cell? ⟨gp, b, none⟩ = some (.int .i64 x) := p1
  have c0 : wa.drew.cell? ⟨go, 0, none⟩ = some (y) := c0
  have f0 : wa.drew.frozen? ⟨go, 0, none⟩ = false := f0
  refine L.wp_region_eachL (by kernel_rfl) (fun _ tt yv _ => G_py55_ok go gp ge n b x tt yv wa) (fun l W => W = if l 8 = true then W2 else (if l 6 = true then W1 else wa.drew)) (by rw [hz]; kernel_rfl) rfl ?_ ?_
  · refine And.intro ?_ (And.intro ?_ (And.intro ?_ (And.intro ?_ (And.intro ?_ (And.intro ?_ (And.intro ?_ (And.intro ?_ (And.intro ?_ trivial))))))))
    · refine L.asked_pure rfl rfl (fun _ _ h => h) (fun _ _ _ _ _ h => h) (fun _ _ _ => rfl) (fun l a W H => ?_)
      have e11 : a.eval (.tmp 11) = .slice (some ⟨gp, 0, none⟩) n n := (H.base 11 rfl).trans b11
      exact run_move rfl e11
    · refine L.asked_pure rfl rfl (fun _ _ h => h) (fun _ _ _ _ _ h => h) (fun _ _ _ => rfl) (fun l a W H => ?_)
      have e23 : a.eval (.tmp 23) = .pointer (some ⟨ge, 0, none⟩) := (H.base 23 rfl).trans b23
      simp only [execOp, e23]; go_simp
    · refine L.asked_pure rfl rfl (fun _ _ h => h) (fun _ _ _ _ _ h => h) (fun _ _ _ => rfl) (fun l a W H => ?_)
      have n8 : l 8 = false := by
        cases hs : l 8 with
        | false => rfl
        | true =>
          have h1 := (H.closed 8 2 (by rfl) hs)
          rw [H.new] at h1
          cases h1
      cases hc6 : l 6 with
      | true =>
        have y6 : l 6 = true := hc6
        have hW : W1 = W := (H.s.trans (by simp only [n8, y6, if_true, if_false, Bool.false_eq_true])).symm
        subst hW
        have e275 : a.eval (.tmp 275) = .pointer (some ⟨ge, 1, none⟩) := H.facts 275 rfl
        simp only [execOp, e275]; go_simp
      | false =>
        have n6 : l 6 = false := hc6
        have hW : wa.drew = W := (H.s.trans (by simp only [n8, n6, if_false, Bool.false_eq_true])).symm
        subst hW
        have e275 : a.eval (.tmp 275) = .pointer (some ⟨ge, 1, none⟩) := H.facts 275 rfl
        simp only [execOp, e275]; go_simp
    · refine L.asked_pure rfl rfl (fun _ _ h => h) (fun _ _ _ _ _ h => h) (fun _ _ _ => rfl) (fun l a W H => ?_)
      have e274 : a.eval (.tmp 274) = .slice (some ⟨gp, 0, none⟩) n n := H.facts 274 rfl
      have e276 : a.eval (.tmp 276) = .int .i64 (b : Nat) := H.facts 276 rfl
      simp only [execOp, e274, e276]; go_simp
    · refine L.asked_pure rfl rfl (fun _ _ h => h) (fun _ _ _ _ _ h => h) (fun _ _ _ => rfl) (fun l a W H => ?_)
      have n8 : l 8 = false := by
        cases hs : l 8 with
        | false => rfl
        | true =>
          have h1 := (H.closed 8 4 (by rfl) hs)
          rw [H.new] at h1
          cases h1
      cases hc6 : l 6 with
      | true =>
        have y6 : l 6 = true := hc6
        have hW : W1 = W := (H.s.trans (by simp only [n8, y6, if_true, if_false, Bool.false_eq_true])).symm
        subst hW
        have e277 : a.eval (.tmp 277) = .pointer (some ⟨gp, b, none⟩) := H.facts 277 rfl
        simp only [execOp, e277]; go_simp
      | false =>
        have n6 : l 6 = false := hc6
        have hW : wa.drew = W := (H.s.trans (by simp only [n8, n6, if_false, Bool.false_eq_true])).symm
        subst hW
        have e277 : a.eval (.tmp 277) = .pointer (some ⟨gp, b, none⟩) := H.facts 277 rfl
        simp only [execOp, e277]; go_simp
    · refine L.asked_pure rfl rfl (fun _ _ h => h) (fun _ _ _ _ _ h => h) (fun _ _ _ => rfl) (fun l a W H => ?_)
      have e13 : a.eval (.tmp 13) = .pointer (some ⟨go, 0, none⟩) := (H.base 13 rfl).trans b13
      simp only [execOp, e13]; go_simp
    · refine L.asked_skip rfl rfl (fun l a W H => ?_)
      have n6 : l 6 = false := H.new
      have n8 : l 8 = false := by
        cases hs : l 8 with
        | false => rfl
        | true =>
          have h1 := (H.closed 8 6 (by rfl) hs)
          rw [H.new] at h1
          cases h1
      have hW : wa.drew = W := (H.s.trans (by simp only [n8, n6, if_false, Bool.false_eq_true])).symm
      subst hW
      have e279 : a.eval (.tmp 279) = .pointer (some ⟨go, 0, none⟩) := H.facts 279 rfl
      refine ⟨W1, ?_, ?_, fun _ _ h => h⟩
      · (simp only [execOp]; try simp only [Option.map]); (try simp only [List.map_toArray, List.map_cons, List.map_nil])
        simp only [e279]
        subst hW1
        go_simp
      · simp [upd, n8]
    · refine L.asked_pure rfl rfl (fun _ _ h => h) (fun _ _ _ _ _ h => h) (fun _ _ _ => rfl) (fun l a W H => ?_)
      have e13 : a.eval (.tmp 13) = .pointer (some ⟨go, 0, none⟩) := (H.base 13 rfl).trans b13
      simp only [execOp, e13]; go_simp
    · refine L.asked_skip rfl rfl (fun l a W H => ?_)
      have n8 : l 8 = false := H.new
      have h6 : l 6 = true := H.deps ⟨6, .chain⟩ (by simp) rfl
      have y6 : l 6 = true := h6
      have hW : W1 = W := (H.s.trans (by simp only [n8, y6, if_true, if_false, Bool.false_eq_true])).symm
      subst hW
      have e280 : a.eval (.tmp 280) = .pointer (some ⟨go, 1, none⟩) := H.facts 280 rfl
      have e278 : a.eval (.tmp 278) = .int .i64 x := H.facts 278 rfl
      refine ⟨W2, ?_, ?_, fun _ _ h => h⟩
      · (simp only [execOp]; try simp only [Option.map]); (try simp only [List.map_toArray, List.map_cons, List.map_nil])
        simp only [e280, e278]
        subst hW2
        go_simp
      · simp [upd]
  · intro l s W hall hS hs
    rw [if_pos (hall 8 (by decide))] at hS
    have hS := Eq.symm hS
    subst hS
    exact hend s
end Go.Proofs.Ytepmbkiojpffpaa
