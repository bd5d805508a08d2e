/- Regions of a run's methods that draw their order, each over any activation. -/
import Derived.Test.YtepmbkiojpffpaaSm
import Derived.Test.YtepmbkiojpffpaaAny
import Derived.Test.YtepmbkiojpffpaaOps
namespace Go.Proofs.Ytepmbkiojpffpaa
open Go Go.RowKit Ir

def ops_st2_ok : Array Oper := #[⟨some 21, .move (.tmp 4), 25, "running.go:53", #[], none⟩, ⟨some 22, .fieldAddr 65 (.tmp 3) 2, 0, "running.go:53", #[], none⟩, ⟨some 23, .load 3 (.tmp 22), 3, "running.go:53", #[⟨1, .data⟩], none⟩, ⟨some 24, .move (.tmp 4), 25, "running.go:53", #[], none⟩, ⟨some 25, .fieldAddr 65 (.tmp 3) 3, 0, "running.go:53", #[], none⟩, ⟨some 26, .load 3 (.tmp 25), 3, "running.go:53", #[⟨4, .data⟩], none⟩, ⟨some 27, .indexAddr 25 (.tmp 24) (.tmp 26), 0, "running.go:53", #[⟨3, .data⟩, ⟨5, .data⟩], none⟩, ⟨some 28, .load 2 (.tmp 27), 2, "running.go:53", #[⟨6, .data⟩], none⟩, ⟨some 29, .indexAddr 25 (.tmp 21) (.tmp 23), 0, "running.go:53", #[⟨0, .data⟩, ⟨2, .data⟩, ⟨0, .phase⟩, ⟨1, .phase⟩, ⟨2, .phase⟩, ⟨3, .phase⟩, ⟨4, .phase⟩, ⟨5, .phase⟩, ⟨6, .phase⟩, ⟨7, .phase⟩], none⟩, ⟨none, .store 2 (.tmp 29) (.tmp 28), 0, "running.go:53", #[⟨8, .data⟩, ⟨7, .data⟩, ⟨0, .phase⟩, ⟨1, .phase⟩, ⟨2, .phase⟩, ⟨3, .phase⟩, ⟨4, .phase⟩, ⟨5, .phase⟩, ⟨6, .phase⟩, ⟨7, .phase⟩], none⟩]
/-- What is known of each temporary. -/
def G_st2_ok (gp gb n d b : Nat) (x : Int) : Tmp → Value → World → Prop
  | 21, xx, _ => xx = .slice (some ⟨gp, 0, none⟩) n n
  | 22, xx, _ => xx = .pointer (some ⟨gb, 2, none⟩)
  | 23, xx, _ => xx = .int .i64 (d : Nat)
  | 24, xx, _ => xx = .slice (some ⟨gp, 0, none⟩) n n
  | 25, xx, _ => xx = .pointer (some ⟨gb, 3, none⟩)
  | 26, xx, _ => xx = .int .i64 (b : Nat)
  | 27, xx, _ => xx = .pointer (some ⟨gp, b, none⟩)
  | 28, xx, _ => xx = .int .i64 x
  | 29, xx, _ => xx = .pointer (some ⟨gp, d, none⟩)
  | _, _, _ => True
set_option maxHeartbeats 1000000 in
set_option maxRecDepth 100000 in
theorem st2_ok {Q : Exit → Act → World → Prop} {a0 : Act} {wa : World} {gp gb n d b : Nat} {x : Int} {y : Value} (hz : a0.tmps.size = 106) (b4 : a0.eval (.tmp 4) = .slice (some ⟨gp, 0, none⟩) n n) (b3 : a0.eval (.tmp 3) = .pointer (some ⟨gb, 0, none⟩))
    (m2 : wa.cell? ⟨gb, 2, none⟩ = some (.int .i64 (d : Nat))) (m3 : wa.cell? ⟨gb, 3, none⟩ = some (.int .i64 (b : Nat))) (p1 : wa.cell? ⟨gp, b, none⟩ = some (.int .i64 x)) (p0 : wa.cell? ⟨gp, d, none⟩ = some (y)) (f0 : wa.frozen? ⟨gp, d, none⟩ = false) (hd : (d : Int) < (n : Int)) (hb : (b : Int) < (n : Int))
    (hend : ∀ s : Tmp → Value, Q .normal (overlay a0 (dstsOf ops_st2_ok) s) (wa.drew.setCell ⟨gp, d, none⟩ (.int .i64 x))) : (Code.region 6 ops_st2_ok true).wp Try.prog Q a0 wa := by
  have m2 : wa.drew.cell? ⟨gb, 2, none⟩ = some (.int .i64 (d : Nat)) := m2
  have m3 : wa.drew.cell? ⟨gb, 3, none⟩ = some (.int .i64 (b : Nat)) := m3
  have p1 : wa.drew.cell? ⟨gp, b, none⟩ = some (.int .i64 x) := p1
  have p0 : wa.drew.cell? ⟨gp, d, none⟩ = some (y) := p0
  have f0 : wa.drew.frozen? ⟨gp, d, none⟩ = false := f0
  refine L.wp_region_eachL (by kernel_rfl) (fun _ tt yv _ => G_st2_ok gp gb n d b x tt yv wa) (fun l W => W = if l 9 = true then wa.drew.setCell ⟨gp, d, none⟩ (.int .i64 x) else wa.drew) (by rw [hz]; kernel_rfl) rfl ?_ ?_
  · refine And.intro ?_ (And.intro ?_ (And.intro ?_ (And.intro ?_ (And.intro ?_ (And.intro ?_ (And.intro ?_ (And.intro ?_ (And.intro ?_ (And.intro ?_ trivial)))))))))
    · refine L.asked_pure rfl rfl (fun _ _ h => h) (fun _ _ _ _ _ h => h) (fun _ _ _ => rfl) (fun l a W H => ?_)
      have e4 : a.eval (.tmp 4) = .slice (some ⟨gp, 0, none⟩) n n := (H.base 4 rfl).trans b4
      exact run_move rfl e4
    · refine L.asked_pure rfl rfl (fun _ _ h => h) (fun _ _ _ _ _ h => h) (fun _ _ _ => rfl) (fun l a W H => ?_)
      have e3 : a.eval (.tmp 3) = .pointer (some ⟨gb, 0, none⟩) := (H.base 3 rfl).trans b3
      simp only [execOp, e3]; go_simp
    · refine L.asked_pure rfl rfl (fun _ _ h => h) (fun _ _ _ _ _ h => h) (fun _ _ _ => rfl) (fun l a W H => ?_)
      have n9 : l 9 = false := by
        cases hs : l 9 with
        | false => rfl
        | true =>
          have h1 := (H.closed 9 2 (by rfl) hs)
          rw [H.new] at h1
          cases h1
      have hW : wa.drew = W := (H.s.trans (by simp only [n9, if_false, Bool.false_eq_true])).symm
      subst hW
      have e22 : a.eval (.tmp 22) = .pointer (some ⟨gb, 2, none⟩) := H.facts 22 rfl
      simp only [execOp, e22]; go_simp
    · refine L.asked_pure rfl rfl (fun _ _ h => h) (fun _ _ _ _ _ h => h) (fun _ _ _ => rfl) (fun l a W H => ?_)
      have e4 : a.eval (.tmp 4) = .slice (some ⟨gp, 0, none⟩) n n := (H.base 4 rfl).trans b4
      exact run_move rfl e4
    · refine L.asked_pure rfl rfl (fun _ _ h => h) (fun _ _ _ _ _ h => h) (fun _ _ _ => rfl) (fun l a W H => ?_)
      have e3 : a.eval (.tmp 3) = .pointer (some ⟨gb, 0, none⟩) := (H.base 3 rfl).trans b3
      simp only [execOp, e3]; go_simp
    · refine L.asked_pure rfl rfl (fun _ _ h => h) (fun _ _ _ _ _ h => h) (fun _ _ _ => rfl) (fun l a W H => ?_)
      have n9 : l 9 = false := by
        cases hs : l 9 with
        | false => rfl
        | true =>
          have h1 := (H.closed 9 5 (by rfl) hs)
          rw [H.new] at h1
          cases h1
      have hW : wa.drew = W := (H.s.trans (by simp only [n9, if_false, Bool.false_eq_true])).symm
      subst hW
      have e25 : a.eval (.tmp 25) = .pointer (some ⟨gb, 3, none⟩) := H.facts 25 rfl
      simp only [execOp, e25]; go_simp
    · refine L.asked_pure rfl rfl (fun _ _ h => h) (fun _ _ _ _ _ h => h) (fun _ _ _ => rfl) (fun l a W H => ?_)
      have e24 : a.eval (.tmp 24) = .slice (some ⟨gp, 0, none⟩) n n := H.facts 24 rfl
      have e26 : a.eval (.tmp 26) = .int .i64 (b : Nat) := H.facts 26 rfl
      simp only [execOp, e24, e26]; go_simp
    · refine L.asked_pure rfl rfl (fun _ _ h => h) (fun _ _ _ _ _ h => h) (fun _ _ _ => rfl) (fun l a W H => ?_)
      have n9 : l 9 = false := by
        cases hs : l 9 with
        | false => rfl
        | true =>
          have h1 := (H.closed 9 7 (by rfl) hs)
          rw [H.new] at h1
          cases h1
      have hW : wa.drew = W := (H.s.trans (by simp only [n9, if_false, Bool.false_eq_true])).symm
      subst hW
      have e27 : a.eval (.tmp 27) = .pointer (some ⟨gp, b, none⟩) := H.facts 27 rfl
      simp only [execOp, e27]; go_simp
    · refine L.asked_pure rfl rfl (fun _ _ h => h) (fun _ _ _ _ _ h => h) (fun _ _ _ => rfl) (fun l a W H => ?_)
      have e21 : a.eval (.tmp 21) = .slice (some ⟨gp, 0, none⟩) n n := H.facts 21 rfl
      have e23 : a.eval (.tmp 23) = .int .i64 (d : Nat) := H.facts 23 rfl
      simp only [execOp, e21, e23]; go_simp
    · refine L.asked_skip rfl rfl (fun l a W H => ?_)
      have n9 : l 9 = false := H.new
      have hW : wa.drew = W := (H.s.trans (by simp only [n9, if_false, Bool.false_eq_true])).symm
      subst hW
      have e29 : a.eval (.tmp 29) = .pointer (some ⟨gp, d, none⟩) := H.facts 29 rfl
      have e28 : a.eval (.tmp 28) = .int .i64 x := H.facts 28 rfl
      refine ⟨wa.drew.setCell ⟨gp, d, none⟩ (.int .i64 x), ?_, ?_, fun _ _ h => h⟩
      · (simp only [execOp]; try simp only [Option.map]); (try simp only [List.map_toArray, List.map_cons, List.map_nil])
        simp only [e29, e28]
        go_simp
      · simp [upd]
  · intro l s W hall hS hs
    rw [if_pos (hall 9 (by decide))] at hS
    have hS := Eq.symm hS
    subst hS
    exact hend s
def ops_st4_ok : Array Oper := #[⟨some 37, .move (.tmp 4), 25, "running.go:57", #[], none⟩, ⟨some 38, .fieldAddr 65 (.tmp 3) 2, 0, "running.go:57", #[], none⟩, ⟨some 39, .load 3 (.tmp 38), 3, "running.go:57", #[⟨1, .data⟩], none⟩, ⟨some 40, .move (.tmp 0), 99, "running.go:57", #[], none⟩, ⟨some 41, .move (.tmp 4), 25, "running.go:57", #[], none⟩, ⟨some 42, .fieldAddr 65 (.tmp 3) 3, 0, "running.go:57", #[], none⟩, ⟨some 43, .load 3 (.tmp 42), 3, "running.go:57", #[⟨5, .data⟩], none⟩, ⟨some 44, .indexAddr 25 (.tmp 41) (.tmp 43), 0, "running.go:57", #[⟨4, .data⟩, ⟨6, .data⟩], none⟩, ⟨some 45, .load 2 (.tmp 44), 2, "running.go:57", #[⟨7, .data⟩], none⟩, ⟨some 46, .call { callee := Callee.value (Operand.func 57), args := #[.tmp 40, .tmp 45], argTypes := #[99, 2] }, 114, "running.go:57", #[⟨3, .data⟩, ⟨8, .data⟩], none⟩, ⟨some 47, .nilCheck (.tmp 46), 0, "running.go:57", #[⟨9, .data⟩], none⟩, ⟨some 48, .load 2 (.tmp 47), 2, "running.go:57", #[⟨10, .data⟩], none⟩, ⟨some 49, .indexAddr 25 (.tmp 37) (.tmp 39), 0, "running.go:57", #[⟨0, .data⟩, ⟨2, .data⟩, ⟨0, .phase⟩, ⟨1, .phase⟩, ⟨2, .phase⟩, ⟨3, .phase⟩, ⟨4, .phase⟩, ⟨5, .phase⟩, ⟨6, .phase⟩, ⟨7, .phase⟩, ⟨8, .phase⟩, ⟨9, .phase⟩, ⟨10, .phase⟩, ⟨11, .phase⟩], none⟩, ⟨none, .store 2 (.tmp 49) (.tmp 48), 0, "running.go:57", #[⟨12, .data⟩, ⟨11, .data⟩, ⟨9, .chain⟩, ⟨0, .phase⟩, ⟨1, .phase⟩, ⟨2, .phase⟩, ⟨3, .phase⟩, ⟨4, .phase⟩, ⟨5, .phase⟩, ⟨6, .phase⟩, ⟨7, .phase⟩, ⟨8, .phase⟩, ⟨9, .phase⟩, ⟨10, .phase⟩, ⟨11, .phase⟩], none⟩]
/-- What is known of each temporary. -/
def G_st4_ok (g gp gb n d b : Nat) (x z : Int) : Tmp → Value → World → Prop
  | 37, xx, _ => xx = .slice (some ⟨gp, 0, none⟩) n n
  | 38, xx, _ => xx = .pointer (some ⟨gb, 2, none⟩)
  | 39, xx, _ => xx = .int .i64 (d : Nat)
  | 40, xx, _ => xx = .pointer (some ⟨g, 0, none⟩)
  | 41, xx, _ => xx = .slice (some ⟨gp, 0, none⟩) n n
  | 42, xx, _ => xx = .pointer (some ⟨gb, 3, none⟩)
  | 43, xx, _ => xx = .int .i64 (b : Nat)
  | 44, xx, _ => xx = .pointer (some ⟨gp, b, none⟩)
  | 45, xx, _ => xx = .int .i64 x
  | 46, xx, _ => xx = .pointer (some ⟨g, 3 + wd x, none⟩)
  | 47, xx, _ => xx = .pointer (some ⟨g, 3 + wd x, none⟩)
  | 48, xx, _ => xx = .int .i64 z
  | 49, xx, _ => xx = .pointer (some ⟨gp, d, none⟩)
  | _, _, _ => True
set_option maxHeartbeats 1000000 in
set_option maxRecDepth 100000 in
theorem st4_ok {Q : Exit → Act → World → Prop} {a0 : Act} {wa : World} {g gp gb n d b : Nat} {x z : Int} {y : Value} (hz : a0.tmps.size = 106) (b4 : a0.eval (.tmp 4) = .slice (some ⟨gp, 0, none⟩) n n) (b3 : a0.eval (.tmp 3) = .pointer (some ⟨gb, 0, none⟩)) (b0 : a0.eval (.tmp 0) = .pointer (some ⟨g, 0, none⟩))
    (m2 : wa.cell? ⟨gb, 2, none⟩ = some (.int .i64 (d : Nat))) (m3 : wa.cell? ⟨gb, 3, none⟩ = some (.int .i64 (b : Nat))) (p1 : wa.cell? ⟨gp, b, none⟩ = some (.int .i64 x)) (p0 : wa.cell? ⟨gp, d, none⟩ = some (y)) (cm : wa.cell? ⟨g, 3 + wd x, none⟩ = some (.int .i64 z)) (f0 : wa.frozen? ⟨gp, d, none⟩ = false) (hd : (d : Int) < (n : Int)) (hb : (b : Int) < (n : Int))
    (hend : ∀ s : Tmp → Value, Q .normal (overlay a0 (dstsOf ops_st4_ok) s) (wa.drew.setCell ⟨gp, d, none⟩ (.int .i64 z))) : (Code.region 10 ops_st4_ok true).wp Try.prog Q a0 wa := by
  have m2 : wa.drew.cell? ⟨gb, 2, none⟩ = some (.int .i64 (d : Nat)) := m2
  have m3 : wa.drew.cell? ⟨gb, 3, none⟩ = some (.int .i64 (b : Nat)) := m3
  have p1 : wa.drew.cell? ⟨gp, b, none⟩ = some (.int .i64 x) := p1
  have p0 : wa.drew.cell? ⟨gp, d, none⟩ = some (y) := p0
  have cm : wa.drew.cell? ⟨g, 3 + wd x, none⟩ = some (.int .i64 z) := cm
  have f0 : wa.drew.frozen? ⟨gp, d, none⟩ = false := f0
  refine L.wp_region_eachL (by kernel_rfl) (fun _ tt yv _ => G_st4_ok g gp gb n d b x z tt yv wa) (fun l W => W = if l 13 = true then wa.drew.setCell ⟨gp, d, none⟩ (.int .i64 z) else wa.drew) (by rw [hz]; kernel_rfl) rfl ?_ ?_
  · refine And.intro ?_ (And.intro ?_ (And.intro ?_ (And.intro ?_ (And.intro ?_ (And.intro ?_ (And.intro ?_ (And.intro ?_ (And.intro ?_ (And.intro ?_ (And.intro ?_ (And.intro ?_ (And.intro ?_ (And.intro ?_ trivial)))))))))))))
    · refine L.asked_pure rfl rfl (fun _ _ h => h) (fun _ _ _ _ _ h => h) (fun _ _ _ => rfl) (fun l a W H => ?_)
      have e4 : a.eval (.tmp 4) = .slice (some ⟨gp, 0, none⟩) n n := (H.base 4 rfl).trans b4
      exact run_move rfl e4
    · refine L.asked_pure rfl rfl (fun _ _ h => h) (fun _ _ _ _ _ h => h) (fun _ _ _ => rfl) (fun l a W H => ?_)
      have e3 : a.eval (.tmp 3) = .pointer (some ⟨gb, 0, none⟩) := (H.base 3 rfl).trans b3
      simp only [execOp, e3]; go_simp
    · refine L.asked_pure rfl rfl (fun _ _ h => h) (fun _ _ _ _ _ h => h) (fun _ _ _ => rfl) (fun l a W H => ?_)
      have n13 : l 13 = false := by
        cases hs : l 13 with
        | false => rfl
        | true =>
          have h1 := (H.closed 13 2 (by rfl) hs)
          rw [H.new] at h1
          cases h1
      have hW : wa.drew = W := (H.s.trans (by simp only [n13, if_false, Bool.false_eq_true])).symm
      subst hW
      have e38 : a.eval (.tmp 38) = .pointer (some ⟨gb, 2, none⟩) := H.facts 38 rfl
      simp only [execOp, e38]; go_simp
    · refine L.asked_pure rfl rfl (fun _ _ h => h) (fun _ _ _ _ _ h => h) (fun _ _ _ => rfl) (fun l a W H => ?_)
      have e0 : a.eval (.tmp 0) = .pointer (some ⟨g, 0, none⟩) := (H.base 0 rfl).trans b0
      exact run_move rfl e0
    · refine L.asked_pure rfl rfl (fun _ _ h => h) (fun _ _ _ _ _ h => h) (fun _ _ _ => rfl) (fun l a W H => ?_)
      have e4 : a.eval (.tmp 4) = .slice (some ⟨gp, 0, none⟩) n n := (H.base 4 rfl).trans b4
      exact run_move rfl e4
    · refine L.asked_pure rfl rfl (fun _ _ h => h) (fun _ _ _ _ _ h => h) (fun _ _ _ => rfl) (fun l a W H => ?_)
      have e3 : a.eval (.tmp 3) = .pointer (some ⟨gb, 0, none⟩) := (H.base 3 rfl).trans b3
      simp only [execOp, e3]; go_simp
    · refine L.asked_pure rfl rfl (fun _ _ h => h) (fun _ _ _ _ _ h => h) (fun _ _ _ => rfl) (fun l a W H => ?_)
      have n13 : l 13 = false := by
        cases hs : l 13 with
        | false => rfl
        | true =>
          have h1 := (H.closed 13 6 (by rfl) hs)
          rw [H.new] at h1
          cases h1
      have hW : wa.drew = W := (H.s.trans (by simp only [n13, if_false, Bool.false_eq_true])).symm
      subst hW
      have e42 : a.eval (.tmp 42) = .pointer (some ⟨gb, 3, none⟩) := H.facts 42 rfl
      simp only [execOp, e42]; go_simp
    · refine L.asked_pure rfl rfl (fun _ _ h => h) (fun _ _ _ _ _ h => h) (fun _ _ _ => rfl) (fun l a W H => ?_)
      have e41 : a.eval (.tmp 41) = .slice (some ⟨gp, 0, none⟩) n n := H.facts 41 rfl
      have e43 : a.eval (.tmp 43) = .int .i64 (b : Nat) := H.facts 43 rfl
      simp only [execOp, e41, e43]; go_simp
    · refine L.asked_pure rfl rfl (fun _ _ h => h) (fun _ _ _ _ _ h => h) (fun _ _ _ => rfl) (fun l a W H => ?_)
      have n13 : l 13 = false := by
        cases hs : l 13 with
        | false => rfl
        | true =>
          have h1 := (H.closed 13 8 (by rfl) hs)
          rw [H.new] at h1
          cases h1
      have hW : wa.drew = W := (H.s.trans (by simp only [n13, if_false, Bool.false_eq_true])).symm
      subst hW
      have e44 : a.eval (.tmp 44) = .pointer (some ⟨gp, b, none⟩) := H.facts 44 rfl
      simp only [execOp, e44]; go_simp
    · refine L.asked_call rfl Try.func57 (by kernel_rfl) (by kernel_rfl) rfl rfl (fun l a W H => ?_)
      have e40 : a.eval (.tmp 40) = .pointer (some ⟨g, 0, none⟩) := H.facts 40 rfl
      have e45 : a.eval (.tmp 45) = .int .i64 x := H.facts 45 rfl
      have ea : (#[.tmp 40, .tmp 45] : Array Operand).map a.eval = #[.pointer (some ⟨g, 0, none⟩), .int .i64 x] := by
        simp only [List.map_toArray, List.map_cons, List.map_nil, e40, e45]
      rw [ea]
      refine (word_any g x W).mono ?_
      rintro e w' ⟨rfl, rfl⟩
      exact ⟨_, rfl, rfl, H.s, fun _ _ _ h => h⟩
    · refine L.asked_pure rfl rfl (fun _ _ h => h) (fun _ _ _ _ _ h => h) (fun _ _ _ => rfl) (fun l a W H => ?_)
      have e46 : a.eval (.tmp 46) = .pointer (some ⟨g, 3 + wd x, none⟩) := H.facts 46 rfl
      simp only [execOp, e46]; go_simp
    · refine L.asked_pure rfl rfl (fun _ _ h => h) (fun _ _ _ _ _ h => h) (fun _ _ _ => rfl) (fun l a W H => ?_)
      have n13 : l 13 = false := by
        cases hs : l 13 with
        | false => rfl
        | true =>
          have h1 := (H.closed 13 11 (by rfl) hs)
          rw [H.new] at h1
          cases h1
      have hW : wa.drew = W := (H.s.trans (by simp only [n13, if_false, Bool.false_eq_true])).symm
      subst hW
      have e47 : a.eval (.tmp 47) = .pointer (some ⟨g, 3 + wd x, none⟩) := H.facts 47 rfl
      simp only [execOp, e47]; go_simp
    · refine L.asked_pure rfl rfl (fun _ _ h => h) (fun _ _ _ _ _ h => h) (fun _ _ _ => rfl) (fun l a W H => ?_)
      have e37 : a.eval (.tmp 37) = .slice (some ⟨gp, 0, none⟩) n n := H.facts 37 rfl
      have e39 : a.eval (.tmp 39) = .int .i64 (d : Nat) := H.facts 39 rfl
      simp only [execOp, e37, e39]; go_simp
    · refine L.asked_skip rfl rfl (fun l a W H => ?_)
      have n13 : l 13 = false := H.new
      have hW : wa.drew = W := (H.s.trans (by simp only [n13, if_false, Bool.false_eq_true])).symm
      subst hW
      have e49 : a.eval (.tmp 49) = .pointer (some ⟨gp, d, none⟩) := H.facts 49 rfl
      have e48 : a.eval (.tmp 48) = .int .i64 z := H.facts 48 rfl
      refine ⟨wa.drew.setCell ⟨gp, d, none⟩ (.int .i64 z), ?_, ?_, fun _ _ h => h⟩
      · (simp only [execOp]; try simp only [Option.map]); (try simp only [List.map_toArray, List.map_cons, List.map_nil])
        simp only [e49, e48]
        go_simp
      · simp [upd]
  · intro l s W hall hS hs
    rw [if_pos (hall 13 (by decide))] at hS
    have hS := Eq.symm hS
    subst hS
    exact hend s
def ops_st5_ok : Array Oper := #[⟨some 52, .move (.tmp 0), 99, "running.go:59", #[], none⟩, ⟨some 53, .move (.tmp 4), 25, "running.go:59", #[], none⟩, ⟨some 54, .fieldAddr 65 (.tmp 3) 3, 0, "running.go:59", #[], none⟩, ⟨some 55, .load 3 (.tmp 54), 3, "running.go:59", #[⟨2, .data⟩], none⟩, ⟨some 56, .indexAddr 25 (.tmp 53) (.tmp 55), 0, "running.go:59", #[⟨1, .data⟩, ⟨3, .data⟩], none⟩, ⟨some 57, .load 2 (.tmp 56), 2, "running.go:59", #[⟨4, .data⟩], none⟩, ⟨some 58, .call { callee := Callee.value (Operand.func 57), args := #[.tmp 52, .tmp 57], argTypes := #[99, 2] }, 114, "running.go:59", #[⟨0, .data⟩, ⟨5, .data⟩], none⟩, ⟨some 59, .move (.tmp 4), 25, "running.go:59", #[], none⟩, ⟨some 60, .fieldAddr 65 (.tmp 3) 4, 0, "running.go:59", #[], none⟩, ⟨some 61, .load 3 (.tmp 60), 3, "running.go:59", #[⟨8, .data⟩], none⟩, ⟨some 62, .indexAddr 25 (.tmp 59) (.tmp 61), 0, "running.go:59", #[⟨7, .data⟩, ⟨9, .data⟩], none⟩, ⟨some 63, .load 2 (.tmp 62), 2, "running.go:59", #[⟨10, .data⟩], none⟩, ⟨some 64, .nilCheck (.tmp 58), 0, "running.go:59", #[⟨6, .data⟩, ⟨0, .phase⟩, ⟨1, .phase⟩, ⟨2, .phase⟩, ⟨3, .phase⟩, ⟨4, .phase⟩, ⟨5, .phase⟩, ⟨6, .phase⟩, ⟨7, .phase⟩, ⟨8, .phase⟩, ⟨9, .phase⟩, ⟨10, .phase⟩, ⟨11, .phase⟩], none⟩, ⟨none, .store 2 (.tmp 64) (.tmp 63), 0, "running.go:59", #[⟨12, .data⟩, ⟨11, .data⟩, ⟨6, .chain⟩, ⟨0, .phase⟩, ⟨1, .phase⟩, ⟨2, .phase⟩, ⟨3, .phase⟩, ⟨4, .phase⟩, ⟨5, .phase⟩, ⟨6, .phase⟩, ⟨7, .phase⟩, ⟨8, .phase⟩, ⟨9, .phase⟩, ⟨10, .phase⟩, ⟨11, .phase⟩], none⟩]
/-- What is known of each temporary. -/
def G_st5_ok (g gp gb n d b : Nat) (x z : Int) : Tmp → Value → World → Prop
  | 52, xx, _ => xx = .pointer (some ⟨g, 0, none⟩)
  | 53, xx, _ => xx = .slice (some ⟨gp, 0, none⟩) n n
  | 54, xx, _ => xx = .pointer (some ⟨gb, 3, none⟩)
  | 55, xx, _ => xx = .int .i64 (d : Nat)
  | 56, xx, _ => xx = .pointer (some ⟨gp, d, none⟩)
  | 57, xx, _ => xx = .int .i64 x
  | 58, xx, _ => xx = .pointer (some ⟨g, 3 + wd x, none⟩)
  | 59, xx, _ => xx = .slice (some ⟨gp, 0, none⟩) n n
  | 60, xx, _ => xx = .pointer (some ⟨gb, 4, none⟩)
  | 61, xx, _ => xx = .int .i64 (b : Nat)
  | 62, xx, _ => xx = .pointer (some ⟨gp, b, none⟩)
  | 63, xx, _ => xx = .int .i64 z
  | 64, xx, _ => xx = .pointer (some ⟨g, 3 + wd x, none⟩)
  | _, _, _ => True
set_option maxHeartbeats 1000000 in
set_option maxRecDepth 100000 in
theorem st5_ok {Q : Exit → Act → World → Prop} {a0 : Act} {wa : World} {g gp gb n d b : Nat} {x z : Int} {y : Value} (hz : a0.tmps.size = 106) (b4 : a0.eval (.tmp 4) = .slice (some ⟨gp, 0, none⟩) n n) (b3 : a0.eval (.tmp 3) = .pointer (some ⟨gb, 0, none⟩)) (b0 : a0.eval (.tmp 0) = .pointer (some ⟨g, 0, none⟩))
    (m2 : wa.cell? ⟨gb, 3, none⟩ = some (.int .i64 (d : Nat))) (m3 : wa.cell? ⟨gb, 4, none⟩ = some (.int .i64 (b : Nat))) (p0 : wa.cell? ⟨gp, d, none⟩ = some (.int .i64 x)) (p1 : wa.cell? ⟨gp, b, none⟩ = some (.int .i64 z)) (cm : wa.cell? ⟨g, 3 + wd x, none⟩ = some (y)) (f0 : wa.frozen? ⟨g, 3 + wd x, none⟩ = false) (hd : (d : Int) < (n : Int)) (hb : (b : Int) < (n : Int))
    (hend : ∀ s : Tmp → Value, Q .normal (overlay a0 (dstsOf ops_st5_ok) s) (wa.drew.setCell ⟨g, 3 + wd x, none⟩ (.int .i64 z))) : (Code.region 12 ops_st5_ok true).wp Try.prog Q a0 wa := by
  have m2 : wa.drew.cell? ⟨gb, 3, none⟩ = some (.int .i64 (d : Nat)) := m2
  have m3 : wa.drew.cell? ⟨gb, 4, none⟩ = some (.int .i64 (b : Nat)) := m3
  have p0 : wa.drew.cell? ⟨gp, d, none⟩ = some (.int .i64 x) := p0
  have p1 : wa.drew.cell? ⟨gp, b, none⟩ = some (.int .i64 z) := p1
  have cm : wa.drew.cell? ⟨g, 3 + wd x, none⟩ = some (y) := cm
  have f0 : wa.drew.frozen? ⟨g, 3 + wd x, none⟩ = false := f0
  refine L.wp_region_eachL (by kernel_rfl) (fun _ tt yv _ => G_st5_ok g gp gb n d b x z tt yv wa) (fun l W => W = if l 13 = true then wa.drew.setCell ⟨g, 3 + wd x, none⟩ (.int .i64 z) else wa.drew) (by rw [hz]; kernel_rfl) rfl ?_ ?_
  · refine And.intro ?_ (And.intro ?_ (And.intro ?_ (And.intro ?_ (And.intro ?_ (And.intro ?_ (And.intro ?_ (And.intro ?_ (And.intro ?_ (And.intro ?_ (And.intro ?_ (And.intro ?_ (And.intro ?_ (And.intro ?_ trivial)))))))))))))
    · refine L.asked_pure rfl rfl (fun _ _ h => h) (fun _ _ _ _ _ h => h) (fun _ _ _ => rfl) (fun l a W H => ?_)
      have e0 : a.eval (.tmp 0) = .pointer (some ⟨g, 0, none⟩) := (H.base 0 rfl).trans b0
      exact run_move rfl e0
    · refine L.asked_pure rfl rfl (fun _ _ h => h) (fun _ _ _ _ _ h => h) (fun _ _ _ => rfl) (fun l a W H => ?_)
      have e4 : a.eval (.tmp 4) = .slice (some ⟨gp, 0, none⟩) n n := (H.base 4 rfl).trans b4
      exact run_move rfl e4
    · refine L.asked_pure rfl rfl (fun _ _ h => h) (fun _ _ _ _ _ h => h) (fun _ _ _ => rfl) (fun l a W H => ?_)
      have e3 : a.eval (.tmp 3) = .pointer (some ⟨gb, 0, none⟩) := (H.base 3 rfl).trans b3
      simp only [execOp, e3]; go_simp
    · refine L.asked_pure rfl rfl (fun _ _ h => h) (fun _ _ _ _ _ h => h) (fun _ _ _ => rfl) (fun l a W H => ?_)
      have n13 : l 13 = false := by
        cases hs : l 13 with
        | false => rfl
        | true =>
          have h1 := (H.closed 13 3 (by rfl) hs)
          rw [H.new] at h1
          cases h1
      have hW : wa.drew = W := (H.s.trans (by simp only [n13, if_false, Bool.false_eq_true])).symm
      subst hW
      have e54 : a.eval (.tmp 54) = .pointer (some ⟨gb, 3, none⟩) := H.facts 54 rfl
      simp only [execOp, e54]; go_simp
    · refine L.asked_pure rfl rfl (fun _ _ h => h) (fun _ _ _ _ _ h => h) (fun _ _ _ => rfl) (fun l a W H => ?_)
      have e53 : a.eval (.tmp 53) = .slice (some ⟨gp, 0, none⟩) n n := H.facts 53 rfl
      have e55 : a.eval (.tmp 55) = .int .i64 (d : Nat) := H.facts 55 rfl
      simp only [execOp, e53, e55]; go_simp
    · refine L.asked_pure rfl rfl (fun _ _ h => h) (fun _ _ _ _ _ h => h) (fun _ _ _ => rfl) (fun l a W H => ?_)
      have n13 : l 13 = false := by
        cases hs : l 13 with
        | false => rfl
        | true =>
          have h1 := (H.closed 13 5 (by rfl) hs)
          rw [H.new] at h1
          cases h1
      have hW : wa.drew = W := (H.s.trans (by simp only [n13, if_false, Bool.false_eq_true])).symm
      subst hW
      have e56 : a.eval (.tmp 56) = .pointer (some ⟨gp, d, none⟩) := H.facts 56 rfl
      simp only [execOp, e56]; go_simp
    · refine L.asked_call rfl Try.func57 (by kernel_rfl) (by kernel_rfl) rfl rfl (fun l a W H => ?_)
      have e52 : a.eval (.tmp 52) = .pointer (some ⟨g, 0, none⟩) := H.facts 52 rfl
      have e57 : a.eval (.tmp 57) = .int .i64 x := H.facts 57 rfl
      have ea : (#[.tmp 52, .tmp 57] : Array Operand).map a.eval = #[.pointer (some ⟨g, 0, none⟩), .int .i64 x] := by
        simp only [List.map_toArray, List.map_cons, List.map_nil, e52, e57]
      rw [ea]
      refine (word_any g x W).mono ?_
      rintro e w' ⟨rfl, rfl⟩
      exact ⟨_, rfl, rfl, H.s, fun _ _ _ h => h⟩
    · refine L.asked_pure rfl rfl (fun _ _ h => h) (fun _ _ _ _ _ h => h) (fun _ _ _ => rfl) (fun l a W H => ?_)
      have e4 : a.eval (.tmp 4) = .slice (some ⟨gp, 0, none⟩) n n := (H.base 4 rfl).trans b4
      exact run_move rfl e4
    · refine L.asked_pure rfl rfl (fun _ _ h => h) (fun _ _ _ _ _ h => h) (fun _ _ _ => rfl) (fun l a W H => ?_)
      have e3 : a.eval (.tmp 3) = .pointer (some ⟨gb, 0, none⟩) := (H.base 3 rfl).trans b3
      simp only [execOp, e3]; go_simp
    · refine L.asked_pure rfl rfl (fun _ _ h => h) (fun _ _ _ _ _ h => h) (fun _ _ _ => rfl) (fun l a W H => ?_)
      have n13 : l 13 = false := by
        cases hs : l 13 with
        | false => rfl
        | true =>
          have h1 := (H.closed 13 9 (by rfl) hs)
          rw [H.new] at h1
          cases h1
      have hW : wa.drew = W := (H.s.trans (by simp only [n13, if_false, Bool.false_eq_true])).symm
      subst hW
      have e60 : a.eval (.tmp 60) = .pointer (some ⟨gb, 4, none⟩) := H.facts 60 rfl
      simp only [execOp, e60]; go_simp
    · refine L.asked_pure rfl rfl (fun _ _ h => h) (fun _ _ _ _ _ h => h) (fun _ _ _ => rfl) (fun l a W H => ?_)
      have e59 : a.eval (.tmp 59) = .slice (some ⟨gp, 0, none⟩) n n := H.facts 59 rfl
      have e61 : a.eval (.tmp 61) = .int .i64 (b : Nat) := H.facts 61 rfl
      simp only [execOp, e59, e61]; go_simp
    · refine L.asked_pure rfl rfl (fun _ _ h => h) (fun _ _ _ _ _ h => h) (fun _ _ _ => rfl) (fun l a W H => ?_)
      have n13 : l 13 = false := by
        cases hs : l 13 with
        | false => rfl
        | true =>
          have h1 := (H.closed 13 11 (by rfl) hs)
          rw [H.new] at h1
          cases h1
      have hW : wa.drew = W := (H.s.trans (by simp only [n13, if_false, Bool.false_eq_true])).symm
      subst hW
      have e62 : a.eval (.tmp 62) = .pointer (some ⟨gp, b, none⟩) := H.facts 62 rfl
      simp only [execOp, e62]; go_simp
    · refine L.asked_pure rfl rfl (fun _ _ h => h) (fun _ _ _ _ _ h => h) (fun _ _ _ => rfl) (fun l a W H => ?_)
      have e58 : a.eval (.tmp 58) = .pointer (some ⟨g, 3 + wd x, none⟩) := H.facts 58 rfl
      simp only [execOp, e58]; go_simp
    · refine L.asked_skip rfl rfl (fun l a W H => ?_)
      have n13 : l 13 = false := H.new
      have hW : wa.drew = W := (H.s.trans (by simp only [n13, if_false, Bool.false_eq_true])).symm
      subst hW
      have e64 : a.eval (.tmp 64) = .pointer (some ⟨g, 3 + wd x, none⟩) := H.facts 64 rfl
      have e63 : a.eval (.tmp 63) = .int .i64 z := H.facts 63 rfl
      refine ⟨wa.drew.setCell ⟨g, 3 + wd x, none⟩ (.int .i64 z), ?_, ?_, fun _ _ h => h⟩
      · (simp only [execOp]; try simp only [Option.map]); (try simp only [List.map_toArray, List.map_cons, List.map_nil])
        simp only [e64, e63]
        go_simp
      · simp [upd]
  · intro l s W hall hS hs
    rw [if_pos (hall 13 (by decide))] at hS
    have hS := Eq.symm hS
    subst hS
    exact hend s
def ops_st7_ok : Array Oper := #[⟨some 76, .move (.tmp 4), 25, "running.go:63", #[], none⟩, ⟨some 77, .move (.tmp 0), 99, "running.go:63", #[], none⟩, ⟨some 78, .nilCheck (.tmp 77), 0, "running.go:63", #[⟨1, .data⟩], none⟩, ⟨some 79, .fieldAddr 88 (.tmp 78) 1, 0, "running.go:63", #[⟨2, .data⟩], none⟩, ⟨some 80, .load 3 (.tmp 79), 3, "running.go:63", #[⟨3, .data⟩], none⟩, ⟨some 81, .fieldAddr 65 (.tmp 3) 2, 0, "running.go:63", #[], none⟩, ⟨some 82, .load 3 (.tmp 81), 3, "running.go:63", #[⟨5, .data⟩], none⟩, ⟨some 83, .binOp .add 3 (.tmp 80) (.tmp 82) 3, 3, "running.go:63", #[⟨4, .data⟩, ⟨6, .data⟩], none⟩, ⟨some 84, .move (.tmp 4), 25, "running.go:63", #[], none⟩, ⟨some 85, .fieldAddr 65 (.tmp 3) 3, 0, "running.go:63", #[], none⟩, ⟨some 86, .load 3 (.tmp 85), 3, "running.go:63", #[⟨9, .data⟩], none⟩, ⟨some 87, .indexAddr 25 (.tmp 84) (.tmp 86), 0, "running.go:63", #[⟨8, .data⟩, ⟨10, .data⟩], none⟩, ⟨some 88, .load 2 (.tmp 87), 2, "running.go:63", #[⟨11, .data⟩], none⟩, ⟨some 89, .indexAddr 25 (.tmp 76) (.tmp 83), 0, "running.go:63", #[⟨0, .data⟩, ⟨7, .data⟩, ⟨0, .phase⟩, ⟨1, .phase⟩, ⟨2, .phase⟩, ⟨3, .phase⟩, ⟨4, .phase⟩, ⟨5, .phase⟩, ⟨6, .phase⟩, ⟨7, .phase⟩, ⟨8, .phase⟩, ⟨9, .phase⟩, ⟨10, .phase⟩, ⟨11, .phase⟩, ⟨12, .phase⟩], none⟩, ⟨none, .store 2 (.tmp 89) (.tmp 88), 0, "running.go:63", #[⟨13, .data⟩, ⟨12, .data⟩, ⟨0, .phase⟩, ⟨1, .phase⟩, ⟨2, .phase⟩, ⟨3, .phase⟩, ⟨4, .phase⟩, ⟨5, .phase⟩, ⟨6, .phase⟩, ⟨7, .phase⟩, ⟨8, .phase⟩, ⟨9, .phase⟩, ⟨10, .phase⟩, ⟨11, .phase⟩, ⟨12, .phase⟩], none⟩]
/-- What is known of each temporary. -/
def G_st7_ok (g gp gb n d b e : Nat) (r x : Int) : Tmp → Value → World → Prop
  | 76, xx, _ => xx = .slice (some ⟨gp, 0, none⟩) n n
  | 77, xx, _ => xx = .pointer (some ⟨g, 0, none⟩)
  | 78, xx, _ => xx = .pointer (some ⟨g, 0, none⟩)
  | 79, xx, _ => xx = .pointer (some ⟨g, 68, none⟩)
  | 80, xx, _ => xx = .int .i64 r
  | 81, xx, _ => xx = .pointer (some ⟨gb, 2, none⟩)
  | 82, xx, _ => xx = .int .i64 (d : Nat)
  | 83, xx, _ => xx = .int .i64 (e : Nat)
  | 84, xx, _ => xx = .slice (some ⟨gp, 0, none⟩) n n
  | 85, xx, _ => xx = .pointer (some ⟨gb, 3, none⟩)
  | 86, xx, _ => xx = .int .i64 (b : Nat)
  | 87, xx, _ => xx = .pointer (some ⟨gp, b, none⟩)
  | 88, xx, _ => xx = .int .i64 x
  | 89, xx, _ => xx = .pointer (some ⟨gp, e, none⟩)
  | _, _, _ => True
set_option maxHeartbeats 1000000 in
set_option maxRecDepth 100000 in
theorem st7_ok {Q : Exit → Act → World → Prop} {a0 : Act} {wa : World} {g gp gb n d b e : Nat} {r x : Int} {y : Value} (hz : a0.tmps.size = 106) (b4 : a0.eval (.tmp 4) = .slice (some ⟨gp, 0, none⟩) n n) (b3 : a0.eval (.tmp 3) = .pointer (some ⟨gb, 0, none⟩)) (b0 : a0.eval (.tmp 0) = .pointer (some ⟨g, 0, none⟩))
    (c68 : wa.cell? ⟨g, 68, none⟩ = some (.int .i64 r)) (m2 : wa.cell? ⟨gb, 2, none⟩ = some (.int .i64 (d : Nat))) (m3 : wa.cell? ⟨gb, 3, none⟩ = some (.int .i64 (b : Nat))) (p1 : wa.cell? ⟨gp, b, none⟩ = some (.int .i64 x)) (p0 : wa.cell? ⟨gp, e, none⟩ = some (y)) (f0 : wa.frozen? ⟨gp, e, none⟩ = false) (he : r + (d : Int) = (e : Int)) (hd : (e : Int) < (n : Int)) (hb : (b : Int) < (n : Int)) (hn : (n : Int) ≤ 1000000)
    (hend : ∀ s : Tmp → Value, Q .normal (overlay a0 (dstsOf ops_st7_ok) s) (wa.drew.setCell ⟨gp, e, none⟩ (.int .i64 x))) : (Code.region 16 ops_st7_ok true).wp Try.prog Q a0 wa := by
  have c68 : wa.drew.cell? ⟨g, 68, none⟩ = some (.int .i64 r) := c68
  have m2 : wa.drew.cell? ⟨gb, 2, none⟩ = some (.int .i64 (d : Nat)) := m2
  have m3 : wa.drew.cell? ⟨gb, 3, none⟩ = some (.int .i64 (b : Nat)) := m3
  have p1 : wa.drew.cell? ⟨gp, b, none⟩ = some (.int .i64 x) := p1
  have p0 : wa.drew.cell? ⟨gp, e, none⟩ = some (y) := p0
  have f0 : wa.drew.frozen? ⟨gp, e, none⟩ = false := f0
  refine L.wp_region_eachL (by kernel_rfl) (fun _ tt yv _ => G_st7_ok g gp gb n d b e r x tt yv wa) (fun l W => W = if l 14 = true then wa.drew.setCell ⟨gp, e, none⟩ (.int .i64 x) else wa.drew) (by rw [hz]; kernel_rfl) rfl ?_ ?_
  · refine And.intro ?_ (And.intro ?_ (And.intro ?_ (And.intro ?_ (And.intro ?_ (And.intro ?_ (And.intro ?_ (And.intro ?_ (And.intro ?_ (And.intro ?_ (And.intro ?_ (And.intro ?_ (And.intro ?_ (And.intro ?_ (And.intro ?_ trivial))))))))))))))
    · refine L.asked_pure rfl rfl (fun _ _ h => h) (fun _ _ _ _ _ h => h) (fun _ _ _ => rfl) (fun l a W H => ?_)
      have e4 : a.eval (.tmp 4) = .slice (some ⟨gp, 0, none⟩) n n := (H.base 4 rfl).trans b4
      exact run_move rfl e4
    · refine L.asked_pure rfl rfl (fun _ _ h => h) (fun _ _ _ _ _ h => h) (fun _ _ _ => rfl) (fun l a W H => ?_)
      have e0 : a.eval (.tmp 0) = .pointer (some ⟨g, 0, none⟩) := (H.base 0 rfl).trans b0
      exact run_move rfl e0
    · refine L.asked_pure rfl rfl (fun _ _ h => h) (fun _ _ _ _ _ h => h) (fun _ _ _ => rfl) (fun l a W H => ?_)
      have e77 : a.eval (.tmp 77) = .pointer (some ⟨g, 0, none⟩) := H.facts 77 rfl
      simp only [execOp, e77]; go_simp
    · refine L.asked_pure rfl rfl (fun _ _ h => h) (fun _ _ _ _ _ h => h) (fun _ _ _ => rfl) (fun l a W H => ?_)
      have e78 : a.eval (.tmp 78) = .pointer (some ⟨g, 0, none⟩) := H.facts 78 rfl
      simp only [execOp, e78]; go_simp
    · refine L.asked_pure rfl rfl (fun _ _ h => h) (fun _ _ _ _ _ h => h) (fun _ _ _ => rfl) (fun l a W H => ?_)
      have n14 : l 14 = false := by
        cases hs : l 14 with
        | false => rfl
        | true =>
          have h1 := (H.closed 14 4 (by rfl) hs)
          rw [H.new] at h1
          cases h1
      have hW : wa.drew = W := (H.s.trans (by simp only [n14, if_false, Bool.false_eq_true])).symm
      subst hW
      have e79 : a.eval (.tmp 79) = .pointer (some ⟨g, 68, none⟩) := H.facts 79 rfl
      simp only [execOp, e79]; go_simp
    · refine L.asked_pure rfl rfl (fun _ _ h => h) (fun _ _ _ _ _ h => h) (fun _ _ _ => rfl) (fun l a W H => ?_)
      have e3 : a.eval (.tmp 3) = .pointer (some ⟨gb, 0, none⟩) := (H.base 3 rfl).trans b3
      simp only [execOp, e3]; go_simp
    · refine L.asked_pure rfl rfl (fun _ _ h => h) (fun _ _ _ _ _ h => h) (fun _ _ _ => rfl) (fun l a W H => ?_)
      have n14 : l 14 = false := by
        cases hs : l 14 with
        | false => rfl
        | true =>
          have h1 := (H.closed 14 6 (by rfl) hs)
          rw [H.new] at h1
          cases h1
      have hW : wa.drew = W := (H.s.trans (by simp only [n14, if_false, Bool.false_eq_true])).symm
      subst hW
      have e81 : a.eval (.tmp 81) = .pointer (some ⟨gb, 2, none⟩) := H.facts 81 rfl
      simp only [execOp, e81]; go_simp
    · refine L.asked_pure rfl rfl (fun _ _ h => h) (fun _ _ _ _ _ h => h) (fun _ _ _ => rfl) (fun l a W H => ?_)
      have e80 : a.eval (.tmp 80) = .int .i64 r := H.facts 80 rfl
      have e82 : a.eval (.tmp 82) = .int .i64 (d : Nat) := H.facts 82 rfl
      (simp only [execOp]; try simp only [Option.map]); (try simp only [List.map_toArray, List.map_cons, List.map_nil]); (simp only [e80, e82]; go_simp)
      all_goals (try first | go_num | omega | (rw [IntKind.wrap_i64]; omega) | (rw [IntKind.wrap_u8]; omega))
    · refine L.asked_pure rfl rfl (fun _ _ h => h) (fun _ _ _ _ _ h => h) (fun _ _ _ => rfl) (fun l a W H => ?_)
      have e4 : a.eval (.tmp 4) = .slice (some ⟨gp, 0, none⟩) n n := (H.base 4 rfl).trans b4
      exact run_move rfl e4
    · refine L.asked_pure rfl rfl (fun _ _ h => h) (fun _ _ _ _ _ h => h) (fun _ _ _ => rfl) (fun l a W H => ?_)
      have e3 : a.eval (.tmp 3) = .pointer (some ⟨gb, 0, none⟩) := (H.base 3 rfl).trans b3
      simp only [execOp, e3]; go_simp
    · refine L.asked_pure rfl rfl (fun _ _ h => h) (fun _ _ _ _ _ h => h) (fun _ _ _ => rfl) (fun l a W H => ?_)
      have n14 : l 14 = false := by
        cases hs : l 14 with
        | false => rfl
        | true =>
          have h1 := (H.closed 14 10 (by rfl) hs)
          rw [H.new] at h1
          cases h1
      have hW : wa.drew = W := (H.s.trans (by simp only [n14, if_false, Bool.false_eq_true])).symm
      subst hW
      have e85 : a.eval (.tmp 85) = .pointer (some ⟨gb, 3, none⟩) := H.facts 85 rfl
      simp only [execOp, e85]; go_simp
    · refine L.asked_pure rfl rfl (fun _ _ h => h) (fun _ _ _ _ _ h => h) (fun _ _ _ => rfl) (fun l a W H => ?_)
      have e84 : a.eval (.tmp 84) = .slice (some ⟨gp, 0, none⟩) n n := H.facts 84 rfl
      have e86 : a.eval (.tmp 86) = .int .i64 (b : Nat) := H.facts 86 rfl
      simp only [execOp, e84, e86]; go_simp
    · refine L.asked_pure rfl rfl (fun _ _ h => h) (fun _ _ _ _ _ h => h) (fun _ _ _ => rfl) (fun l a W H => ?_)
      have n14 : l 14 = false := by
        cases hs : l 14 with
        | false => rfl
        | true =>
          have h1 := (H.closed 14 12 (by rfl) hs)
          rw [H.new] at h1
          cases h1
      have hW : wa.drew = W := (H.s.trans (by simp only [n14, if_false, Bool.false_eq_true])).symm
      subst hW
      have e87 : a.eval (.tmp 87) = .pointer (some ⟨gp, b, none⟩) := H.facts 87 rfl
      simp only [execOp, e87]; go_simp
    · refine L.asked_pure rfl rfl (fun _ _ h => h) (fun _ _ _ _ _ h => h) (fun _ _ _ => rfl) (fun l a W H => ?_)
      have e76 : a.eval (.tmp 76) = .slice (some ⟨gp, 0, none⟩) n n := H.facts 76 rfl
      have e83 : a.eval (.tmp 83) = .int .i64 (e : Nat) := H.facts 83 rfl
      simp only [execOp, e76, e83]; go_simp
    · refine L.asked_skip rfl rfl (fun l a W H => ?_)
      have n14 : l 14 = false := H.new
      have hW : wa.drew = W := (H.s.trans (by simp only [n14, if_false, Bool.false_eq_true])).symm
      subst hW
      have e89 : a.eval (.tmp 89) = .pointer (some ⟨gp, e, none⟩) := H.facts 89 rfl
      have e88 : a.eval (.tmp 88) = .int .i64 x := H.facts 88 rfl
      refine ⟨wa.drew.setCell ⟨gp, e, none⟩ (.int .i64 x), ?_, ?_, fun _ _ h => h⟩
      · (simp only [execOp]; try simp only [Option.map]); (try simp only [List.map_toArray, List.map_cons, List.map_nil])
        simp only [e89, e88]
        go_simp
      · simp [upd]
  · intro l s W hall hS hs
    rw [if_pos (hall 14 (by decide))] at hS
    have hS := Eq.symm hS
    subst hS
    exact hend s
def ops_st8_ok : Array Oper := #[⟨some 92, .move (.tmp 4), 25, "running.go:65", #[], none⟩, ⟨some 93, .fieldAddr 65 (.tmp 3) 2, 0, "running.go:65", #[], none⟩, ⟨some 94, .load 3 (.tmp 93), 3, "running.go:65", #[⟨1, .data⟩], none⟩, ⟨some 95, .move (.tmp 4), 25, "running.go:65", #[], none⟩, ⟨some 96, .move (.tmp 0), 99, "running.go:65", #[], none⟩, ⟨some 97, .nilCheck (.tmp 96), 0, "running.go:65", #[⟨4, .data⟩], none⟩, ⟨some 98, .fieldAddr 88 (.tmp 97) 1, 0, "running.go:65", #[⟨5, .data⟩], none⟩, ⟨some 99, .load 3 (.tmp 98), 3, "running.go:65", #[⟨6, .data⟩], none⟩, ⟨some 100, .fieldAddr 65 (.tmp 3) 3, 0, "running.go:65", #[], none⟩, ⟨some 101, .load 3 (.tmp 100), 3, "running.go:65", #[⟨8, .data⟩], none⟩, ⟨some 102, .binOp .add 3 (.tmp 99) (.tmp 101) 3, 3, "running.go:65", #[⟨7, .data⟩, ⟨9, .data⟩], none⟩, ⟨some 103, .indexAddr 25 (.tmp 95) (.tmp 102), 0, "running.go:65", #[⟨3, .data⟩, ⟨10, .data⟩], none⟩, ⟨some 104, .load 2 (.tmp 103), 2, "running.go:65", #[⟨11, .data⟩], none⟩, ⟨some 105, .indexAddr 25 (.tmp 92) (.tmp 94), 0, "running.go:65", #[⟨0, .data⟩, ⟨2, .data⟩, ⟨0, .phase⟩, ⟨1, .phase⟩, ⟨2, .phase⟩, ⟨3, .phase⟩, ⟨4, .phase⟩, ⟨5, .phase⟩, ⟨6, .phase⟩, ⟨7, .phase⟩, ⟨8, .phase⟩, ⟨9, .phase⟩, ⟨10, .phase⟩, ⟨11, .phase⟩, ⟨12, .phase⟩], none⟩, ⟨none, .store 2 (.tmp 105) (.tmp 104), 0, "running.go:65", #[⟨13, .data⟩, ⟨12, .data⟩, ⟨0, .phase⟩, ⟨1, .phase⟩, ⟨2, .phase⟩, ⟨3, .phase⟩, ⟨4, .phase⟩, ⟨5, .phase⟩, ⟨6, .phase⟩, ⟨7, .phase⟩, ⟨8, .phase⟩, ⟨9, .phase⟩, ⟨10, .phase⟩, ⟨11, .phase⟩, ⟨12, .phase⟩], none⟩]
/-- What is known of each temporary. -/
def G_st8_ok (g gp gb n d b e : Nat) (r x : Int) : Tmp → Value → World → Prop
  | 92, xx, _ => xx = .slice (some ⟨gp, 0, none⟩) n n
  | 93, xx, _ => xx = .pointer (some ⟨gb, 2, none⟩)
  | 94, xx, _ => xx = .int .i64 (d : Nat)
  | 95, xx, _ => xx = .slice (some ⟨gp, 0, none⟩) n n
  | 96, xx, _ => xx = .pointer (some ⟨g, 0, none⟩)
  | 97, xx, _ => xx = .pointer (some ⟨g, 0, none⟩)
  | 98, xx, _ => xx = .pointer (some ⟨g, 68, none⟩)
  | 99, xx, _ => xx = .int .i64 r
  | 100, xx, _ => xx = .pointer (some ⟨gb, 3, none⟩)
  | 101, xx, _ => xx = .int .i64 (b : Nat)
  | 102, xx, _ => xx = .int .i64 (e : Nat)
  | 103, xx, _ => xx = .pointer (some ⟨gp, e, none⟩)
  | 104, xx, _ => xx = .int .i64 x
  | 105, xx, _ => xx = .pointer (some ⟨gp, d, none⟩)
  | _, _, _ => True
set_option maxHeartbeats 1000000 in
set_option maxRecDepth 100000 in
theorem st8_ok {Q : Exit → Act → World → Prop} {a0 : Act} {wa : World} {g gp gb n d b e : Nat} {r x : Int} {y : Value} (hz : a0.tmps.size = 106) (b4 : a0.eval (.tmp 4) = .slice (some ⟨gp, 0, none⟩) n n) (b3 : a0.eval (.tmp 3) = .pointer (some ⟨gb, 0, none⟩)) (b0 : a0.eval (.tmp 0) = .pointer (some ⟨g, 0, none⟩))
    (c68 : wa.cell? ⟨g, 68, none⟩ = some (.int .i64 r)) (m2 : wa.cell? ⟨gb, 2, none⟩ = some (.int .i64 (d : Nat))) (m3 : wa.cell? ⟨gb, 3, none⟩ = some (.int .i64 (b : Nat))) (p1 : wa.cell? ⟨gp, e, none⟩ = some (.int .i64 x)) (p0 : wa.cell? ⟨gp, d, none⟩ = some (y)) (f0 : wa.frozen? ⟨gp, d, none⟩ = false) (he : r + (b : Int) = (e : Int)) (hd : (d : Int) < (n : Int)) (hb : (e : Int) < (n : Int)) (hn : (n : Int) ≤ 1000000)
    (hend : ∀ s : Tmp → Value, Q .normal (overlay a0 (dstsOf ops_st8_ok) s) (wa.drew.setCell ⟨gp, d, none⟩ (.int .i64 x))) : (Code.region 18 ops_st8_ok true).wp Try.prog Q a0 wa := by
  have c68 : wa.drew.cell? ⟨g, 68, none⟩ = some (.int .i64 r) := c68
  have m2 : wa.drew.cell? ⟨gb, 2, none⟩ = some (.int .i64 (d : Nat)) := m2
  have m3 : wa.drew.cell? ⟨gb, 3, none⟩ = some (.int .i64 (b : Nat)) := m3
  have p1 : wa.drew.cell? ⟨gp, e, none⟩ = some (.int .i64 x) := p1
  have p0 : wa.drew.cell? ⟨gp, d, none⟩ = some (y) := p0
  have f0 : wa.drew.frozen? ⟨gp, d, none⟩ = false := f0
  refine L.wp_region_eachL (by kernel_rfl) (fun _ tt yv _ => G_st8_ok g gp gb n d b e r x tt yv wa) (fun l W => W = if l 14 = true then wa.drew.setCell ⟨gp, d, none⟩ (.int .i64 x) else wa.drew) (by rw [hz]; kernel_rfl) rfl ?_ ?_
  · refine And.intro ?_ (And.intro ?_ (And.intro ?_ (And.intro ?_ (And.intro ?_ (And.intro ?_ (And.intro ?_ (And.intro ?_ (And.intro ?_ (And.intro ?_ (And.intro ?_ (And.intro ?_ (And.intro ?_ (And.intro ?_ (And.intro ?_ trivial))))))))))))))
    · refine L.asked_pure rfl rfl (fun _ _ h => h) (fun _ _ _ _ _ h => h) (fun _ _ _ => rfl) (fun l a W H => ?_)
      have e4 : a.eval (.tmp 4) = .slice (some ⟨gp, 0, none⟩) n n := (H.base 4 rfl).trans b4
      exact run_move rfl e4
    · refine L.asked_pure rfl rfl (fun _ _ h => h) (fun _ _ _ _ _ h => h) (fun _ _ _ => rfl) (fun l a W H => ?_)
      have e3 : a.eval (.tmp 3) = .pointer (some ⟨gb, 0, none⟩) := (H.base 3 rfl).trans b3
      simp only [execOp, e3]; go_simp
    · refine L.asked_pure rfl rfl (fun _ _ h => h) (fun _ _ _ _ _ h => h) (fun _ _ _ => rfl) (fun l a W H => ?_)
      have n14 : l 14 = false := by
        cases hs : l 14 with
        | false => rfl
        | true =>
          have h1 := (H.closed 14 2 (by rfl) hs)
          rw [H.new] at h1
          cases h1
      have hW : wa.drew = W := (H.s.trans (by simp only [n14, if_false, Bool.false_eq_true])).symm
      subst hW
      have e93 : a.eval (.tmp 93) = .pointer (some ⟨gb, 2, none⟩) := H.facts 93 rfl
      simp only [execOp, e93]; go_simp
    · refine L.asked_pure rfl rfl (fun _ _ h => h) (fun _ _ _ _ _ h => h) (fun _ _ _ => rfl) (fun l a W H => ?_)
      have e4 : a.eval (.tmp 4) = .slice (some ⟨gp, 0, none⟩) n n := (H.base 4 rfl).trans b4
      exact run_move rfl e4
    · refine L.asked_pure rfl rfl (fun _ _ h => h) (fun _ _ _ _ _ h => h) (fun _ _ _ => rfl) (fun l a W H => ?_)
      have e0 : a.eval (.tmp 0) = .pointer (some ⟨g, 0, none⟩) := (H.base 0 rfl).trans b0
      exact run_move rfl e0
    · refine L.asked_pure rfl rfl (fun _ _ h => h) (fun _ _ _ _ _ h => h) (fun _ _ _ => rfl) (fun l a W H => ?_)
      have e96 : a.eval (.tmp 96) = .pointer (some ⟨g, 0, none⟩) := H.facts 96 rfl
      simp only [execOp, e96]; go_simp
    · refine L.asked_pure rfl rfl (fun _ _ h => h) (fun _ _ _ _ _ h => h) (fun _ _ _ => rfl) (fun l a W H => ?_)
      have e97 : a.eval (.tmp 97) = .pointer (some ⟨g, 0, none⟩) := H.facts 97 rfl
      simp only [execOp, e97]; go_simp
    · refine L.asked_pure rfl rfl (fun _ _ h => h) (fun _ _ _ _ _ h => h) (fun _ _ _ => rfl) (fun l a W H => ?_)
      have n14 : l 14 = false := by
        cases hs : l 14 with
        | false => rfl
        | true =>
          have h1 := (H.closed 14 7 (by rfl) hs)
          rw [H.new] at h1
          cases h1
      have hW : wa.drew = W := (H.s.trans (by simp only [n14, if_false, Bool.false_eq_true])).symm
      subst hW
      have e98 : a.eval (.tmp 98) = .pointer (some ⟨g, 68, none⟩) := H.facts 98 rfl
      simp only [execOp, e98]; go_simp
    · refine L.asked_pure rfl rfl (fun _ _ h => h) (fun _ _ _ _ _ h => h) (fun _ _ _ => rfl) (fun l a W H => ?_)
      have e3 : a.eval (.tmp 3) = .pointer (some ⟨gb, 0, none⟩) := (H.base 3 rfl).trans b3
      simp only [execOp, e3]; go_simp
    · refine L.asked_pure rfl rfl (fun _ _ h => h) (fun _ _ _ _ _ h => h) (fun _ _ _ => rfl) (fun l a W H => ?_)
      have n14 : l 14 = false := by
        cases hs : l 14 with
        | false => rfl
        | true =>
          have h1 := (H.closed 14 9 (by rfl) hs)
          rw [H.new] at h1
          cases h1
      have hW : wa.drew = W := (H.s.trans (by simp only [n14, if_false, Bool.false_eq_true])).symm
      subst hW
      have e100 : a.eval (.tmp 100) = .pointer (some ⟨gb, 3, none⟩) := H.facts 100 rfl
      simp only [execOp, e100]; go_simp
    · refine L.asked_pure rfl rfl (fun _ _ h => h) (fun _ _ _ _ _ h => h) (fun _ _ _ => rfl) (fun l a W H => ?_)
      have e99 : a.eval (.tmp 99) = .int .i64 r := H.facts 99 rfl
      have e101 : a.eval (.tmp 101) = .int .i64 (b : Nat) := H.facts 101 rfl
      (simp only [execOp]; try simp only [Option.map]); (try simp only [List.map_toArray, List.map_cons, List.map_nil]); (simp only [e99, e101]; go_simp)
      all_goals (try first | go_num | omega | (rw [IntKind.wrap_i64]; omega) | (rw [IntKind.wrap_u8]; omega))
    · refine L.asked_pure rfl rfl (fun _ _ h => h) (fun _ _ _ _ _ h => h) (fun _ _ _ => rfl) (fun l a W H => ?_)
      have e95 : a.eval (.tmp 95) = .slice (some ⟨gp, 0, none⟩) n n := H.facts 95 rfl
      have e102 : a.eval (.tmp 102) = .int .i64 (e : Nat) := H.facts 102 rfl
      simp only [execOp, e95, e102]; go_simp
    · refine L.asked_pure rfl rfl (fun _ _ h => h) (fun _ _ _ _ _ h => h) (fun _ _ _ => rfl) (fun l a W H => ?_)
      have n14 : l 14 = false := by
        cases hs : l 14 with
        | false => rfl
        | true =>
          have h1 := (H.closed 14 12 (by rfl) hs)
          rw [H.new] at h1
          cases h1
      have hW : wa.drew = W := (H.s.trans (by simp only [n14, if_false, Bool.false_eq_true])).symm
      subst hW
      have e103 : a.eval (.tmp 103) = .pointer (some ⟨gp, e, none⟩) := H.facts 103 rfl
      simp only [execOp, e103]; go_simp
    · refine L.asked_pure rfl rfl (fun _ _ h => h) (fun _ _ _ _ _ h => h) (fun _ _ _ => rfl) (fun l a W H => ?_)
      have e92 : a.eval (.tmp 92) = .slice (some ⟨gp, 0, none⟩) n n := H.facts 92 rfl
      have e94 : a.eval (.tmp 94) = .int .i64 (d : Nat) := H.facts 94 rfl
      simp only [execOp, e92, e94]; go_simp
    · refine L.asked_skip rfl rfl (fun l a W H => ?_)
      have n14 : l 14 = false := H.new
      have hW : wa.drew = W := (H.s.trans (by simp only [n14, if_false, Bool.false_eq_true])).symm
      subst hW
      have e105 : a.eval (.tmp 105) = .pointer (some ⟨gp, d, none⟩) := H.facts 105 rfl
      have e104 : a.eval (.tmp 104) = .int .i64 x := H.facts 104 rfl
      refine ⟨wa.drew.setCell ⟨gp, d, none⟩ (.int .i64 x), ?_, ?_, fun _ _ h => h⟩
      · (simp only [execOp]; try simp only [Option.map]); (try simp only [List.map_toArray, List.map_cons, List.map_nil])
        simp only [e105, e104]
        go_simp
      · simp [upd]
  · intro l s W hall hS hs
    rw [if_pos (hall 14 (by decide))] at hS
    have hS := Eq.symm hS
    subst hS
    exact hend s
def ops_bn1_ok : Array Oper := #[⟨some 7, .fieldAddr 65 (.tmp 3) 1, 0, "running.go:71", #[], none⟩, ⟨some 8, .load 62 (.tmp 7), 62, "running.go:71", #[⟨0, .data⟩], none⟩, ⟨some 9, .move (.tmp 0), 99, "running.go:71", #[], none⟩, ⟨some 10, .nilCheck (.tmp 9), 0, "running.go:71", #[⟨2, .data⟩], none⟩, ⟨some 11, .fieldAddr 88 (.tmp 10) 2, 0, "running.go:71", #[⟨3, .data⟩], none⟩, ⟨some 12, .load 25 (.tmp 11), 25, "running.go:71", #[⟨4, .data⟩], none⟩, ⟨some 13, .fieldAddr 65 (.tmp 3) 3, 0, "running.go:71", #[], none⟩, ⟨some 14, .load 3 (.tmp 13), 3, "running.go:71", #[⟨6, .data⟩], none⟩, ⟨some 15, .indexAddr 25 (.tmp 12) (.tmp 14), 0, "running.go:71", #[⟨5, .data⟩, ⟨7, .data⟩], none⟩, ⟨some 16, .load 2 (.tmp 15), 2, "running.go:71", #[⟨8, .data⟩], none⟩, ⟨some 17, .move (.tmp 0), 99, "running.go:71", #[], none⟩, ⟨some 18, .nilCheck (.tmp 17), 0, "running.go:71", #[⟨10, .data⟩], none⟩, ⟨some 19, .fieldAddr 88 (.tmp 18) 2, 0, "running.go:71", #[⟨11, .data⟩], none⟩, ⟨some 20, .load 25 (.tmp 19), 25, "running.go:71", #[⟨12, .data⟩], none⟩, ⟨some 21, .fieldAddr 65 (.tmp 3) 4, 0, "running.go:71", #[], none⟩, ⟨some 22, .load 3 (.tmp 21), 3, "running.go:71", #[⟨14, .data⟩], none⟩, ⟨some 23, .indexAddr 25 (.tmp 20) (.tmp 22), 0, "running.go:71", #[⟨13, .data⟩, ⟨15, .data⟩], none⟩, ⟨some 24, .load 2 (.tmp 23), 2, "running.go:71", #[⟨16, .data⟩], none⟩, ⟨some 25, .call { callee := Callee.value (Operand.func 63), args := #[.tmp 8, .tmp 16, .tmp 24], argTypes := #[62, 2, 2] }, 120, "running.go:71", #[⟨1, .data⟩, ⟨9, .data⟩, ⟨17, .data⟩], none⟩, ⟨some 6, .move (.tmp 25), 120, "running.go:71", #[⟨18, .data⟩], none⟩, ⟨some 26, .extract (.tmp 6) 0, 2, "running.go:71", #[⟨19, .data⟩], none⟩, ⟨some 27, .extract (.tmp 6) 1, 4, "running.go:71", #[⟨19, .data⟩, { on := 22, ground := Ground.gcOnly Departure.lateStores }], none⟩, ⟨some 4, .assign (.tmp 26), 2, "running.go:71", #[⟨20, .data⟩, ⟨18, .chain⟩, ⟨0, .phase⟩, ⟨1, .phase⟩, ⟨2, .phase⟩, ⟨3, .phase⟩, ⟨4, .phase⟩, ⟨5, .phase⟩, ⟨6, .phase⟩, ⟨7, .phase⟩, ⟨8, .phase⟩, ⟨9, .phase⟩, ⟨10, .phase⟩, ⟨11, .phase⟩, ⟨12, .phase⟩, ⟨13, .phase⟩, ⟨14, .phase⟩, ⟨15, .phase⟩, ⟨16, .phase⟩, ⟨17, .phase⟩, ⟨18, .phase⟩, ⟨19, .phase⟩, ⟨20, .phase⟩, { on := 21, ground := Ground.textOnly Departure.lateStores }], none⟩, ⟨some 5, .assign (.tmp 27), 4, "running.go:71", #[⟨21, .data⟩, ⟨22, .chain⟩, ⟨0, .phase⟩, ⟨1, .phase⟩, ⟨2, .phase⟩, ⟨3, .phase⟩, ⟨4, .phase⟩, ⟨5, .phase⟩, ⟨6, .phase⟩, ⟨7, .phase⟩, ⟨8, .phase⟩, ⟨9, .phase⟩, ⟨10, .phase⟩, ⟨11, .phase⟩, ⟨12, .phase⟩, ⟨13, .phase⟩, ⟨14, .phase⟩, ⟨15, .phase⟩, ⟨16, .phase⟩, ⟨17, .phase⟩, ⟨18, .phase⟩, ⟨19, .phase⟩, ⟨20, .phase⟩, ⟨21, .phase⟩, ⟨22, .phase⟩], none⟩]
/-- What is known of each temporary. -/
def G_bn1_ok (g gp gb n ia ib : Nat) (op x y : Int) : Tmp → Value → World → Prop
  | 7, xx, _ => xx = .pointer (some ⟨gb, 1, none⟩)
  | 8, xx, _ => xx = .int .u8 op
  | 9, xx, _ => xx = .pointer (some ⟨g, 0, none⟩)
  | 10, xx, _ => xx = .pointer (some ⟨g, 0, none⟩)
  | 11, xx, _ => xx = .pointer (some ⟨g, 69, none⟩)
  | 12, xx, _ => xx = .slice (some ⟨gp, 0, none⟩) n n
  | 13, xx, _ => xx = .pointer (some ⟨gb, 3, none⟩)
  | 14, xx, _ => xx = .int .i64 (ia : Nat)
  | 15, xx, _ => xx = .pointer (some ⟨gp, ia, none⟩)
  | 16, xx, _ => xx = .int .i64 x
  | 17, xx, _ => xx = .pointer (some ⟨g, 0, none⟩)
  | 18, xx, _ => xx = .pointer (some ⟨g, 0, none⟩)
  | 19, xx, _ => xx = .pointer (some ⟨g, 69, none⟩)
  | 20, xx, _ => xx = .slice (some ⟨gp, 0, none⟩) n n
  | 21, xx, _ => xx = .pointer (some ⟨gb, 4, none⟩)
  | 22, xx, _ => xx = .int .i64 (ib : Nat)
  | 23, xx, _ => xx = .pointer (some ⟨gp, ib, none⟩)
  | 24, xx, _ => xx = .int .i64 y
  | 25, xx, _ => xx = .tuple #[.int .i64 (rsv op x y), .bool (rsk op y)]
  | 6, xx, _ => xx = .tuple #[.int .i64 (rsv op x y), .bool (rsk op y)]
  | 26, xx, _ => xx = .int .i64 (rsv op x y)
  | 27, xx, _ => xx = .bool (rsk op y)
  | 4, xx, _ => xx = .int .i64 (rsv op x y)
  | 5, xx, _ => xx = .bool (rsk op y)
  | _, _, _ => True
set_option maxHeartbeats 1000000 in
set_option maxRecDepth 100000 in
theorem bn1_ok {Q : Exit → Act → World → Prop} {a0 : Act} {wa : World} {g gp gb n ia ib : Nat} {op x y : Int} (hz : a0.tmps.size = 42) (b3 : a0.eval (.tmp 3) = .pointer (some ⟨gb, 0, none⟩)) (b0 : a0.eval (.tmp 0) = .pointer (some ⟨g, 0, none⟩))
    (m1 : wa.cell? ⟨gb, 1, none⟩ = some (.int .u8 op)) (m3 : wa.cell? ⟨gb, 3, none⟩ = some (.int .i64 (ia : Nat))) (m4 : wa.cell? ⟨gb, 4, none⟩ = some (.int .i64 (ib : Nat))) (c69 : wa.cell? ⟨g, 69, none⟩ = some (.slice (some ⟨gp, 0, none⟩) n n)) (pa : wa.cell? ⟨gp, ia, none⟩ = some (.int .i64 x)) (pb : wa.cell? ⟨gp, ib, none⟩ = some (.int .i64 y))  (ha : (ia : Int) < (n : Int)) (hb : (ib : Int) < (n : Int)) (hop : 1 ≤ op ∧ op ≤ 7)
    (hend : ∀ s : Tmp → Value, s 4 = .int .i64 (rsv op x y) → s 5 = .bool (rsk op y) → Q .normal (overlay a0 (dstsOf ops_bn1_ok) s) wa.drew) : (Code.region 1 ops_bn1_ok true).wp Try.prog Q a0 wa := by
  have m1 : wa.drew.cell? ⟨gb, 1, none⟩ = some (.int .u8 op) := m1
  have m3 : wa.drew.cell? ⟨gb, 3, none⟩ = some (.int .i64 (ia : Nat)) := m3
  have m4 : wa.drew.cell? ⟨gb, 4, none⟩ = some (.int .i64 (ib : Nat)) := m4
  have c69 : wa.drew.cell? ⟨g, 69, none⟩ = some (.slice (some ⟨gp, 0, none⟩) n n) := c69
  have pa : wa.drew.cell? ⟨gp, ia, none⟩ = some (.int .i64 x) := pa
  have pb : wa.drew.cell? ⟨gp, ib, none⟩ = some (.int .i64 y) := pb
  refine L.wp_region_eachL (by kernel_rfl) (fun _ tt yv _ => G_bn1_ok g gp gb n ia ib op x y tt yv wa) (fun l W => W = wa.drew) (by rw [hz]; kernel_rfl) rfl ?_ ?_
  · refine And.intro ?_ (And.intro ?_ (And.intro ?_ (And.intro ?_ (And.intro ?_ (And.intro ?_ (And.intro ?_ (And.intro ?_ (And.intro ?_ (And.intro ?_ (And.intro ?_ (And.intro ?_ (And.intro ?_ (And.intro ?_ (And.intro ?_ (And.intro ?_ (And.intro ?_ (And.intro ?_ (And.intro ?_ (And.intro ?_ (And.intro ?_ (And.intro ?_ (And.intro ?_ (And.intro ?_ trivial)))))))))))))))))))))))
    · refine L.asked_pure rfl rfl (fun _ _ h => h) (fun _ _ _ _ _ h => h) (fun _ _ _ => rfl) (fun l a W H => ?_)
      have e3 : a.eval (.tmp 3) = .pointer (some ⟨gb, 0, none⟩) := (H.base 3 rfl).trans b3
      simp only [execOp, e3]; go_simp
    · refine L.asked_pure rfl rfl (fun _ _ h => h) (fun _ _ _ _ _ h => h) (fun _ _ _ => rfl) (fun l a W H => ?_)
      have hW : wa.drew = W := Eq.symm H.s
      subst hW
      have e7 : a.eval (.tmp 7) = .pointer (some ⟨gb, 1, none⟩) := H.facts 7 rfl
      simp only [execOp, e7]; go_simp
    · refine L.asked_pure rfl rfl (fun _ _ h => h) (fun _ _ _ _ _ h => h) (fun _ _ _ => rfl) (fun l a W H => ?_)
      have e0 : a.eval (.tmp 0) = .pointer (some ⟨g, 0, none⟩) := (H.base 0 rfl).trans b0
      exact run_move rfl e0
    · refine L.asked_pure rfl rfl (fun _ _ h => h) (fun _ _ _ _ _ h => h) (fun _ _ _ => rfl) (fun l a W H => ?_)
      have e9 : a.eval (.tmp 9) = .pointer (some ⟨g, 0, none⟩) := H.facts 9 rfl
      simp only [execOp, e9]; go_simp
    · refine L.asked_pure rfl rfl (fun _ _ h => h) (fun _ _ _ _ _ h => h) (fun _ _ _ => rfl) (fun l a W H => ?_)
      have e10 : a.eval (.tmp 10) = .pointer (some ⟨g, 0, none⟩) := H.facts 10 rfl
      simp only [execOp, e10]; go_simp
    · refine L.asked_pure rfl rfl (fun _ _ h => h) (fun _ _ _ _ _ h => h) (fun _ _ _ => rfl) (fun l a W H => ?_)
      have hW : wa.drew = W := Eq.symm H.s
      subst hW
      have e11 : a.eval (.tmp 11) = .pointer (some ⟨g, 69, none⟩) := H.facts 11 rfl
      simp only [execOp, e11]; go_simp
    · refine L.asked_pure rfl rfl (fun _ _ h => h) (fun _ _ _ _ _ h => h) (fun _ _ _ => rfl) (fun l a W H => ?_)
      have e3 : a.eval (.tmp 3) = .pointer (some ⟨gb, 0, none⟩) := (H.base 3 rfl).trans b3
      simp only [execOp, e3]; go_simp
    · refine L.asked_pure rfl rfl (fun _ _ h => h) (fun _ _ _ _ _ h => h) (fun _ _ _ => rfl) (fun l a W H => ?_)
      have hW : wa.drew = W := Eq.symm H.s
      subst hW
      have e13 : a.eval (.tmp 13) = .pointer (some ⟨gb, 3, none⟩) := H.facts 13 rfl
      simp only [execOp, e13]; go_simp
    · refine L.asked_pure rfl rfl (fun _ _ h => h) (fun _ _ _ _ _ h => h) (fun _ _ _ => rfl) (fun l a W H => ?_)
      have e12 : a.eval (.tmp 12) = .slice (some ⟨gp, 0, none⟩) n n := H.facts 12 rfl
      have e14 : a.eval (.tmp 14) = .int .i64 (ia : Nat) := H.facts 14 rfl
      simp only [execOp, e12, e14]; go_simp
    · refine L.asked_pure rfl rfl (fun _ _ h => h) (fun _ _ _ _ _ h => h) (fun _ _ _ => rfl) (fun l a W H => ?_)
      have hW : wa.drew = W := Eq.symm H.s
      subst hW
      have e15 : a.eval (.tmp 15) = .pointer (some ⟨gp, ia, none⟩) := H.facts 15 rfl
      simp only [execOp, e15]; go_simp
    · refine L.asked_pure rfl rfl (fun _ _ h => h) (fun _ _ _ _ _ h => h) (fun _ _ _ => rfl) (fun l a W H => ?_)
      have e0 : a.eval (.tmp 0) = .pointer (some ⟨g, 0, none⟩) := (H.base 0 rfl).trans b0
      exact run_move rfl e0
    · refine L.asked_pure rfl rfl (fun _ _ h => h) (fun _ _ _ _ _ h => h) (fun _ _ _ => rfl) (fun l a W H => ?_)
      have e17 : a.eval (.tmp 17) = .pointer (some ⟨g, 0, none⟩) := H.facts 17 rfl
      simp only [execOp, e17]; go_simp
    · refine L.asked_pure rfl rfl (fun _ _ h => h) (fun _ _ _ _ _ h => h) (fun _ _ _ => rfl) (fun l a W H => ?_)
      have e18 : a.eval (.tmp 18) = .pointer (some ⟨g, 0, none⟩) := H.facts 18 rfl
      simp only [execOp, e18]; go_simp
    · refine L.asked_pure rfl rfl (fun _ _ h => h) (fun _ _ _ _ _ h => h) (fun _ _ _ => rfl) (fun l a W H => ?_)
      have hW : wa.drew = W := Eq.symm H.s
      subst hW
      have e19 : a.eval (.tmp 19) = .pointer (some ⟨g, 69, none⟩) := H.facts 19 rfl
      simp only [execOp, e19]; go_simp
    · refine L.asked_pure rfl rfl (fun _ _ h => h) (fun _ _ _ _ _ h => h) (fun _ _ _ => rfl) (fun l a W H => ?_)
      have e3 : a.eval (.tmp 3) = .pointer (some ⟨gb, 0, none⟩) := (H.base 3 rfl).trans b3
      simp only [execOp, e3]; go_simp
    · refine L.asked_pure rfl rfl (fun _ _ h => h) (fun _ _ _ _ _ h => h) (fun _ _ _ => rfl) (fun l a W H => ?_)
      have hW : wa.drew = W := Eq.symm H.s
      subst hW
      have e21 : a.eval (.tmp 21) = .pointer (some ⟨gb, 4, none⟩) := H.facts 21 rfl
      simp only [execOp, e21]; go_simp
    · refine L.asked_pure rfl rfl (fun _ _ h => h) (fun _ _ _ _ _ h => h) (fun _ _ _ => rfl) (fun l a W H => ?_)
      have e20 : a.eval (.tmp 20) = .slice (some ⟨gp, 0, none⟩) n n := H.facts 20 rfl
      have e22 : a.eval (.tmp 22) = .int .i64 (ib : Nat) := H.facts 22 rfl
      simp only [execOp, e20, e22]; go_simp
    · refine L.asked_pure rfl rfl (fun _ _ h => h) (fun _ _ _ _ _ h => h) (fun _ _ _ => rfl) (fun l a W H => ?_)
      have hW : wa.drew = W := Eq.symm H.s
      subst hW
      have e23 : a.eval (.tmp 23) = .pointer (some ⟨gp, ib, none⟩) := H.facts 23 rfl
      simp only [execOp, e23]; go_simp
    · refine L.asked_call rfl Try.func63 (by kernel_rfl) (by kernel_rfl) rfl rfl (fun l a W H => ?_)
      have e8 : a.eval (.tmp 8) = .int .u8 op := H.facts 8 rfl
      have e16 : a.eval (.tmp 16) = .int .i64 x := H.facts 16 rfl
      have e24 : a.eval (.tmp 24) = .int .i64 y := H.facts 24 rfl
      have ea : (#[.tmp 8, .tmp 16, .tmp 24] : Array Operand).map a.eval = #[.int .u8 op, .int .i64 x, .int .i64 y] := by
        simp only [List.map_toArray, List.map_cons, List.map_nil, e8, e16, e24]
      rw [ea]
      refine (result_any op x y W hop).mono ?_
      rintro e w' ⟨rfl, rfl⟩
      exact ⟨_, rfl, rfl, H.s, fun _ _ _ h => h⟩
    · refine L.asked_pure rfl rfl (fun _ _ h => h) (fun _ _ _ _ _ h => h) (fun _ _ _ => rfl) (fun l a W H => ?_)
      have e25 : a.eval (.tmp 25) = .tuple #[.int .i64 (rsv op x y), .bool (rsk op y)] := H.facts 25 rfl
      exact run_move rfl e25
    · refine L.asked_pure rfl rfl (fun _ _ h => h) (fun _ _ _ _ _ h => h) (fun _ _ _ => rfl) (fun l a W H => ?_)
      have e6 : a.eval (.tmp 6) = .tuple #[.int .i64 (rsv op x y), .bool (rsk op y)] := H.facts 6 rfl
      simp only [execOp, e6]; go_simp
    · refine L.asked_pure rfl rfl (fun _ _ h => h) (fun _ _ _ _ _ h => h) (fun _ _ _ => rfl) (fun l a W H => ?_)
      have e6 : a.eval (.tmp 6) = .tuple #[.int .i64 (rsv op x y), .bool (rsk op y)] := H.facts 6 rfl
      simp only [execOp, e6]; go_simp
    · refine L.asked_pure rfl rfl (fun _ _ h => h) (fun _ _ _ _ _ h => h) (fun _ _ _ => rfl) (fun l a W H => ?_)
      have e26 : a.eval (.tmp 26) = .int .i64 (rsv op x y) := H.facts 26 rfl
      exact run_assign rfl e26
    · refine L.asked_pure rfl rfl (fun _ _ h => h) (fun _ _ _ _ _ h => h) (fun _ _ _ => rfl) (fun l a W H => ?_)
      have e27 : a.eval (.tmp 27) = .bool (rsk op y) := H.facts 27 rfl
      exact run_assign rfl e27
  · intro l s W hall hS hs
    have hS := Eq.symm hS
    subst hS
    exact hend s (hs 4 rfl) (hs 5 rfl)
def ops_bn4_ok : Array Oper := #[⟨some 34, .move (.tmp 0), 99, "running.go:76", #[], none⟩, ⟨some 35, .nilCheck (.tmp 34), 0, "running.go:76", #[⟨0, .data⟩], none⟩, ⟨some 36, .fieldAddr 88 (.tmp 35) 2, 0, "running.go:76", #[⟨1, .data⟩], none⟩, ⟨some 37, .load 25 (.tmp 36), 25, "running.go:76", #[⟨2, .data⟩], none⟩, ⟨some 38, .fieldAddr 65 (.tmp 3) 2, 0, "running.go:76", #[], none⟩, ⟨some 39, .load 3 (.tmp 38), 3, "running.go:76", #[⟨4, .data⟩], none⟩, ⟨some 40, .move (.tmp 4), 2, "running.go:76", #[], none⟩, ⟨some 41, .indexAddr 25 (.tmp 37) (.tmp 39), 0, "running.go:76", #[⟨3, .data⟩, ⟨5, .data⟩, ⟨0, .phase⟩, ⟨1, .phase⟩, ⟨2, .phase⟩, ⟨3, .phase⟩, ⟨4, .phase⟩, ⟨5, .phase⟩, ⟨6, .phase⟩], none⟩, ⟨none, .store 2 (.tmp 41) (.tmp 40), 0, "running.go:76", #[⟨7, .data⟩, ⟨6, .data⟩, ⟨0, .phase⟩, ⟨1, .phase⟩, ⟨2, .phase⟩, ⟨3, .phase⟩, ⟨4, .phase⟩, ⟨5, .phase⟩, ⟨6, .phase⟩], none⟩]
/-- What is known of each temporary. -/
def G_bn4_ok (g gp gb n d : Nat) (x : Int) : Tmp → Value → World → Prop
  | 34, xx, _ => xx = .pointer (some ⟨g, 0, none⟩)
  | 35, xx, _ => xx = .pointer (some ⟨g, 0, none⟩)
  | 36, xx, _ => xx = .pointer (some ⟨g, 69, none⟩)
  | 37, xx, _ => xx = .slice (some ⟨gp, 0, none⟩) n n
  | 38, xx, _ => xx = .pointer (some ⟨gb, 2, none⟩)
  | 39, xx, _ => xx = .int .i64 (d : Nat)
  | 40, xx, _ => xx = .int .i64 x
  | 41, xx, _ => xx = .pointer (some ⟨gp, d, none⟩)
  | _, _, _ => True
set_option maxHeartbeats 1000000 in
set_option maxRecDepth 100000 in
theorem bn4_ok {Q : Exit → Act → World → Prop} {a0 : Act} {wa : World} {g gp gb n d : Nat} {x : Int} {y : Value} (hz : a0.tmps.size = 42) (b3 : a0.eval (.tmp 3) = .pointer (some ⟨gb, 0, none⟩)) (b0 : a0.eval (.tmp 0) = .pointer (some ⟨g, 0, none⟩)) (b4 : a0.eval (.tmp 4) = .int .i64 x)
    (m2 : wa.cell? ⟨gb, 2, none⟩ = some (.int .i64 (d : Nat))) (c69 : wa.cell? ⟨g, 69, none⟩ = some (.slice (some ⟨gp, 0, none⟩) n n)) (p0 : wa.cell? ⟨gp, d, none⟩ = some (y)) (f0 : wa.frozen? ⟨gp, d, none⟩ = false) (hd : (d : Int) < (n : Int))
    (hend : ∀ s : Tmp → Value, Q .normal (overlay a0 (dstsOf ops_bn4_ok) s) (wa.drew.setCell ⟨gp, d, none⟩ (.int .i64 x))) : (Code.region 4 ops_bn4_ok true).wp Try.prog Q a0 wa := by
  have m2 : wa.drew.cell? ⟨gb, 2, none⟩ = some (.int .i64 (d : Nat)) := m2
  have c69 : wa.drew.cell? ⟨g, 69, none⟩ = some (.slice (some ⟨gp, 0, none⟩) n n) := c69
  have p0 : wa.drew.cell? ⟨gp, d, none⟩ = some (y) := p0
  have f0 : wa.drew.frozen? ⟨gp, d, none⟩ = false := f0
  refine L.wp_region_eachL (by kernel_rfl) (fun _ tt yv _ => G_bn4_ok g gp gb n d x tt yv wa) (fun l W => W = if l 8 = true then wa.drew.setCell ⟨gp, d, none⟩ (.int .i64 x) else wa.drew) (by rw [hz]; kernel_rfl) rfl ?_ ?_
  · refine And.intro ?_ (And.intro ?_ (And.intro ?_ (And.intro ?_ (And.intro ?_ (And.intro ?_ (And.intro ?_ (And.intro ?_ (And.intro ?_ trivial))))))))
    · refine L.asked_pure rfl rfl (fun _ _ h => h) (fun _ _ _ _ _ h => h) (fun _ _ _ => rfl) (fun l a W H => ?_)
      have e0 : a.eval (.tmp 0) = .pointer (some ⟨g, 0, none⟩) := (H.base 0 rfl).trans b0
      exact run_move rfl e0
    · refine L.asked_pure rfl rfl (fun _ _ h => h) (fun _ _ _ _ _ h => h) (fun _ _ _ => rfl) (fun l a W H => ?_)
      have e34 : a.eval (.tmp 34) = .pointer (some ⟨g, 0, none⟩) := H.facts 34 rfl
      simp only [execOp, e34]; go_simp
    · refine L.asked_pure rfl rfl (fun _ _ h => h) (fun _ _ _ _ _ h => h) (fun _ _ _ => rfl) (fun l a W H => ?_)
      have e35 : a.eval (.tmp 35) = .pointer (some ⟨g, 0, none⟩) := H.facts 35 rfl
      simp only [execOp, e35]; go_simp
    · refine L.asked_pure rfl rfl (fun _ _ h => h) (fun _ _ _ _ _ h => h) (fun _ _ _ => rfl) (fun l a W H => ?_)
      have n8 : l 8 = false := by
        cases hs : l 8 with
        | false => rfl
        | true =>
          have h1 := (H.closed 8 3 (by rfl) hs)
          rw [H.new] at h1
          cases h1
      have hW : wa.drew = W := (H.s.trans (by simp only [n8, if_false, Bool.false_eq_true])).symm
      subst hW
      have e36 : a.eval (.tmp 36) = .pointer (some ⟨g, 69, none⟩) := H.facts 36 rfl
      simp only [execOp, e36]; go_simp
    · refine L.asked_pure rfl rfl (fun _ _ h => h) (fun _ _ _ _ _ h => h) (fun _ _ _ => rfl) (fun l a W H => ?_)
      have e3 : a.eval (.tmp 3) = .pointer (some ⟨gb, 0, none⟩) := (H.base 3 rfl).trans b3
      simp only [execOp, e3]; go_simp
    · refine L.asked_pure rfl rfl (fun _ _ h => h) (fun _ _ _ _ _ h => h) (fun _ _ _ => rfl) (fun l a W H => ?_)
      have n8 : l 8 = false := by
        cases hs : l 8 with
        | false => rfl
        | true =>
          have h1 := (H.closed 8 5 (by rfl) hs)
          rw [H.new] at h1
          cases h1
      have hW : wa.drew = W := (H.s.trans (by simp only [n8, if_false, Bool.false_eq_true])).symm
      subst hW
      have e38 : a.eval (.tmp 38) = .pointer (some ⟨gb, 2, none⟩) := H.facts 38 rfl
      simp only [execOp, e38]; go_simp
    · refine L.asked_pure rfl rfl (fun _ _ h => h) (fun _ _ _ _ _ h => h) (fun _ _ _ => rfl) (fun l a W H => ?_)
      have e4 : a.eval (.tmp 4) = .int .i64 x := (H.base 4 rfl).trans b4
      exact run_move rfl e4
    · refine L.asked_pure rfl rfl (fun _ _ h => h) (fun _ _ _ _ _ h => h) (fun _ _ _ => rfl) (fun l a W H => ?_)
      have e37 : a.eval (.tmp 37) = .slice (some ⟨gp, 0, none⟩) n n := H.facts 37 rfl
      have e39 : a.eval (.tmp 39) = .int .i64 (d : Nat) := H.facts 39 rfl
      simp only [execOp, e37, e39]; go_simp
    · refine L.asked_skip rfl rfl (fun l a W H => ?_)
      have n8 : l 8 = false := H.new
      have hW : wa.drew = W := (H.s.trans (by simp only [n8, if_false, Bool.false_eq_true])).symm
      subst hW
      have e41 : a.eval (.tmp 41) = .pointer (some ⟨gp, d, none⟩) := H.facts 41 rfl
      have e40 : a.eval (.tmp 40) = .int .i64 x := H.facts 40 rfl
      refine ⟨wa.drew.setCell ⟨gp, d, none⟩ (.int .i64 x), ?_, ?_, fun _ _ h => h⟩
      · (simp only [execOp]; try simp only [Option.map]); (try simp only [List.map_toArray, List.map_cons, List.map_nil])
        simp only [e41, e40]
        go_simp
      · simp [upd]
  · intro l s W hall hS hs
    rw [if_pos (hall 8 (by decide))] at hS
    have hS := Eq.symm hS
    subst hS
    exact hend s
def ops_lv2_ok : Array Oper := #[⟨some 9, .move (.tmp 0), 99, "running.go:127", #[], none⟩, ⟨some 10, .move (.tmp 0), 99, "running.go:127", #[{ on := 13, ground := Ground.gcOnly Departure.lateStores }], none⟩, ⟨some 11, .move (.tmp 0), 99, "running.go:127", #[], none⟩, ⟨some 12, .nilCheck (.tmp 11), 0, "running.go:127", #[⟨2, .data⟩], none⟩, ⟨some 13, .fieldAddr 88 (.tmp 12) 2, 0, "running.go:127", #[⟨3, .data⟩], none⟩, ⟨some 14, .load 25 (.tmp 13), 25, "running.go:127", #[⟨4, .data⟩], none⟩, ⟨some 15, .fieldAddr 58 (.tmp 3) 1, 0, "running.go:127", #[], none⟩, ⟨some 16, .load 3 (.tmp 15), 3, "running.go:127", #[⟨6, .data⟩], none⟩, ⟨some 17, .indexAddr 25 (.tmp 14) (.tmp 16), 0, "running.go:127", #[⟨5, .data⟩, ⟨7, .data⟩], none⟩, ⟨some 18, .load 2 (.tmp 17), 2, "running.go:127", #[⟨8, .data⟩], none⟩, ⟨some 19, .nilCheck (.tmp 9), 0, "running.go:127", #[⟨0, .data⟩, ⟨0, .phase⟩, { on := 1, ground := Ground.textOnly Departure.lateStores }, { on := 2, ground := Ground.textOnly Departure.lateStores }, { on := 3, ground := Ground.textOnly Departure.lateStoresUnsure }, { on := 4, ground := Ground.textOnly Departure.lateStoresUnsure }, ⟨5, .phase⟩, { on := 6, ground := Ground.textOnly Departure.lateStores }, { on := 7, ground := Ground.textOnly Departure.lateStores }, { on := 8, ground := Ground.textOnly Departure.lateStoresUnsure }, ⟨9, .phase⟩], none⟩, ⟨some 20, .fieldAddr 88 (.tmp 19) 0, 0, "running.go:127", #[⟨10, .data⟩, ⟨0, .phase⟩, { on := 1, ground := Ground.textOnly Departure.lateStores }, { on := 2, ground := Ground.textOnly Departure.lateStores }, { on := 3, ground := Ground.textOnly Departure.lateStoresUnsure }, { on := 4, ground := Ground.textOnly Departure.lateStoresUnsure }, ⟨5, .phase⟩, { on := 6, ground := Ground.textOnly Departure.lateStores }, { on := 7, ground := Ground.textOnly Departure.lateStores }, { on := 8, ground := Ground.textOnly Departure.lateStoresUnsure }, ⟨9, .phase⟩], none⟩, ⟨some 21, .fieldAddr 37 (.tmp 20) 0, 0, "running.go:127", #[⟨11, .data⟩, ⟨0, .phase⟩, { on := 1, ground := Ground.textOnly Departure.lateStores }, { on := 2, ground := Ground.textOnly Departure.lateStores }, { on := 3, ground := Ground.textOnly Departure.lateStoresUnsure }, { on := 4, ground := Ground.textOnly Departure.lateStoresUnsure }, ⟨5, .phase⟩, { on := 6, ground := Ground.textOnly Departure.lateStores }, { on := 7, ground := Ground.textOnly Departure.lateStores }, { on := 8, ground := Ground.textOnly Departure.lateStoresUnsure }, ⟨9, .phase⟩], none⟩, ⟨none, .store 3 (.tmp 21) (.const (.int .i64 1)), 0, "running.go:127", #[⟨12, .data⟩, ⟨0, .phase⟩, { on := 1, ground := Ground.textOnly Departure.lateStores }, { on := 2, ground := Ground.textOnly Departure.lateStores }, { on := 3, ground := Ground.textOnly Departure.lateStoresUnsure }, { on := 4, ground := Ground.textOnly Departure.lateStoresUnsure }, ⟨5, .phase⟩, { on := 6, ground := Ground.textOnly Departure.lateStores }, { on := 7, ground := Ground.textOnly Departure.lateStores }, { on := 8, ground := Ground.textOnly Departure.lateStoresUnsure }, ⟨9, .phase⟩], none⟩, ⟨some 22, .nilCheck (.tmp 10), 0, "running.go:127", #[⟨1, .data⟩, ⟨0, .phase⟩, ⟨1, .phase⟩, ⟨2, .phase⟩, ⟨3, .phase⟩, ⟨4, .phase⟩, ⟨5, .phase⟩, ⟨6, .phase⟩, ⟨7, .phase⟩, ⟨8, .phase⟩, ⟨9, .phase⟩, ⟨10, .phase⟩, ⟨11, .phase⟩, ⟨12, .phase⟩, ⟨13, .phase⟩], none⟩, ⟨some 23, .fieldAddr 88 (.tmp 22) 0, 0, "running.go:127", #[⟨14, .data⟩, ⟨0, .phase⟩, ⟨1, .phase⟩, ⟨2, .phase⟩, ⟨3, .phase⟩, ⟨4, .phase⟩, ⟨5, .phase⟩, ⟨6, .phase⟩, ⟨7, .phase⟩, ⟨8, .phase⟩, ⟨9, .phase⟩, ⟨10, .phase⟩, ⟨11, .phase⟩, ⟨12, .phase⟩, ⟨13, .phase⟩], none⟩, ⟨some 24, .fieldAddr 37 (.tmp 23) 1, 0, "running.go:127", #[⟨15, .data⟩, ⟨0, .phase⟩, ⟨1, .phase⟩, ⟨2, .phase⟩, ⟨3, .phase⟩, ⟨4, .phase⟩, ⟨5, .phase⟩, ⟨6, .phase⟩, ⟨7, .phase⟩, ⟨8, .phase⟩, ⟨9, .phase⟩, ⟨10, .phase⟩, ⟨11, .phase⟩, ⟨12, .phase⟩, ⟨13, .phase⟩], none⟩, ⟨none, .store 2 (.tmp 24) (.tmp 18), 0, "running.go:127", #[⟨16, .data⟩, ⟨9, .data⟩, ⟨13, .chain⟩, ⟨0, .phase⟩, ⟨1, .phase⟩, ⟨2, .phase⟩, ⟨3, .phase⟩, ⟨4, .phase⟩, ⟨5, .phase⟩, ⟨6, .phase⟩, ⟨7, .phase⟩, ⟨8, .phase⟩, ⟨9, .phase⟩, ⟨10, .phase⟩, ⟨11, .phase⟩, ⟨12, .phase⟩, ⟨13, .phase⟩], none⟩]
/-- What is known of each temporary. -/
def G_lv2_ok (g gp gb n b : Nat) (x : Int) : Tmp → Value → World → Prop
  | 9, xx, _ => xx = .pointer (some ⟨g, 0, none⟩)
  | 10, xx, _ => xx = .pointer (some ⟨g, 0, none⟩)
  | 11, xx, _ => xx = .pointer (some ⟨g, 0, none⟩)
  | 12, xx, _ => xx = .pointer (some ⟨g, 0, none⟩)
  | 13, xx, _ => xx = .pointer (some ⟨g, 69, none⟩)
  | 14, xx, _ => xx = .slice (some ⟨gp, 0, none⟩) n n
  | 15, xx, _ => xx = .pointer (some ⟨gb, 1, none⟩)
  | 16, xx, _ => xx = .int .i64 (b : Nat)
  | 17, xx, _ => xx = .pointer (some ⟨gp, b, none⟩)
  | 18, xx, _ => xx = .int .i64 x
  | 19, xx, _ => xx = .pointer (some ⟨g, 0, none⟩)
  | 20, xx, _ => xx = .pointer (some ⟨g, 0, none⟩)
  | 21, xx, _ => xx = .pointer (some ⟨g, 0, none⟩)
  | 22, xx, _ => xx = .pointer (some ⟨g, 0, none⟩)
  | 23, xx, _ => xx = .pointer (some ⟨g, 0, none⟩)
  | 24, xx, _ => xx = .pointer (some ⟨g, 1, none⟩)
  | _, _, _ => True
set_option maxHeartbeats 1000000 in
set_option maxRecDepth 100000 in
theorem lv2_ok {Q : Exit → Act → World → Prop} {a0 : Act} {wa : World} {g gp gb n b : Nat} {x : Int} {y y1 : Value} (hz : a0.tmps.size = 44) (b3 : a0.eval (.tmp 3) = .pointer (some ⟨gb, 0, none⟩)) (b0 : a0.eval (.tmp 0) = .pointer (some ⟨g, 0, none⟩))
    (m1 : wa.cell? ⟨gb, 1, none⟩ = some (.int .i64 (b : Nat))) (c69 : wa.cell? ⟨g, 69, none⟩ = some (.slice (some ⟨gp, 0, none⟩) n n)) (p1 : wa.cell? ⟨gp, b, none⟩ = some (.int .i64 x)) (c0 : wa.cell? ⟨g, 0, none⟩ = some (y)) (c1 : wa.cell? ⟨g, 1, none⟩ = some (y1)) (f0 : wa.frozen? ⟨g, 0, none⟩ = false) (f1 : wa.frozen? ⟨g, 1, none⟩ = false) (hb : (b : Int) < (n : Int))
    (hend : ∀ s : Tmp → Value, Q .normal (overlay a0 (dstsOf ops_lv2_ok) s) ((wa.drew.setCell ⟨g, 0, none⟩ (.int .i64 1)).setCell ⟨g, 1, none⟩ (.int .i64 x))) : (Code.region 2 ops_lv2_ok true).wp Try.prog Q a0 wa := by
  have m1 : wa.drew.cell? ⟨gb, 1, none⟩ = some (.int .i64 (b : Nat)) := m1
  have c69 : wa.drew.cell? ⟨g, 69, none⟩ = some (.slice (some ⟨gp, 0, none⟩) n n) := c69
  have p1 : wa.drew.cell? ⟨gp, b, none⟩ = some (.int .i64 x) := p1
  have c0 : wa.drew.cell? ⟨g, 0, none⟩ = some (y) := c0
  have c1 : wa.drew.cell? ⟨g, 1, none⟩ = some (y1) := c1
  have f0 : wa.drew.frozen? ⟨g, 0, none⟩ = false := f0
  have f1 : wa.drew.frozen? ⟨g, 1, none⟩ = false := f1
  refine L.wp_region_eachL (by kernel_rfl) (fun _ tt yv _ => G_lv2_ok g gp gb n b x tt yv wa) (fun l W => W = if l 17 = true then (wa.drew.setCell ⟨g, 0, none⟩ (.int .i64 1)).setCell ⟨g, 1, none⟩ (.int .i64 x) else (if l 13 = true then wa.drew.setCell ⟨g, 0, none⟩ (.int .i64 1) else wa.drew)) (by rw [hz]; kernel_rfl) rfl ?_ ?_
  · refine And.intro ?_ (And.intro ?_ (And.intro ?_ (And.intro ?_ (And.intro ?_ (And.intro ?_ (And.intro ?_ (And.intro ?_ (And.intro ?_ (And.intro ?_ (And.intro ?_ (And.intro ?_ (And.intro ?_ (And.intro ?_ (And.intro ?_ (And.intro ?_ (And.intro ?_ (And.intro ?_ trivial)))))))))))))))))
    · refine L.asked_pure rfl rfl (fun _ _ h => h) (fun _ _ _ _ _ h => h) (fun _ _ _ => rfl) (fun l a W H => ?_)
      have e0 : a.eval (.tmp 0) = .pointer (some ⟨g, 0, none⟩) := (H.base 0 rfl).trans b0
      exact run_move rfl e0
    · refine L.asked_pure rfl rfl (fun _ _ h => h) (fun _ _ _ _ _ h => h) (fun _ _ _ => rfl) (fun l a W H => ?_)
      have e0 : a.eval (.tmp 0) = .pointer (some ⟨g, 0, none⟩) := (H.base 0 rfl).trans b0
      exact run_move rfl e0
    · refine L.asked_pure rfl rfl (fun _ _ h => h) (fun _ _ _ _ _ h => h) (fun _ _ _ => rfl) (fun l a W H => ?_)
      have e0 : a.eval (.tmp 0) = .pointer (some ⟨g, 0, none⟩) := (H.base 0 rfl).trans b0
      exact run_move rfl e0
    · refine L.asked_pure rfl rfl (fun _ _ h => h) (fun _ _ _ _ _ h => h) (fun _ _ _ => rfl) (fun l a W H => ?_)
      have e11 : a.eval (.tmp 11) = .pointer (some ⟨g, 0, none⟩) := H.facts 11 rfl
      simp only [execOp, e11]; go_simp
    · refine L.asked_pure rfl rfl (fun _ _ h => h) (fun _ _ _ _ _ h => h) (fun _ _ _ => rfl) (fun l a W H => ?_)
      have e12 : a.eval (.tmp 12) = .pointer (some ⟨g, 0, none⟩) := H.facts 12 rfl
      simp only [execOp, e12]; go_simp
    · refine L.asked_pure rfl rfl (fun _ _ h => h) (fun _ _ _ _ _ h => h) (fun _ _ _ => rfl) (fun l a W H => ?_)
      have n13 : l 13 = false := by
        cases hs : l 13 with
        | false => rfl
        | true =>
          have h1 := (H.closed 13 5 (by rfl) hs)
          rw [H.new] at h1
          cases h1
      have n17 : l 17 = false := by
        cases hs : l 17 with
        | false => rfl
        | true =>
          have h1 := (H.closed 17 5 (by rfl) hs)
          rw [H.new] at h1
          cases h1
      have hW : wa.drew = W := (H.s.trans (by simp only [n17, n13, if_false, Bool.false_eq_true])).symm
      subst hW
      have e13 : a.eval (.tmp 13) = .pointer (some ⟨g, 69, none⟩) := H.facts 13 rfl
      simp only [execOp, e13]; go_simp
    · refine L.asked_pure rfl rfl (fun _ _ h => h) (fun _ _ _ _ _ h => h) (fun _ _ _ => rfl) (fun l a W H => ?_)
      have e3 : a.eval (.tmp 3) = .pointer (some ⟨gb, 0, none⟩) := (H.base 3 rfl).trans b3
      simp only [execOp, e3]; go_simp
    · refine L.asked_pure rfl rfl (fun _ _ h => h) (fun _ _ _ _ _ h => h) (fun _ _ _ => rfl) (fun l a W H => ?_)
      have n13 : l 13 = false := by
        cases hs : l 13 with
        | false => rfl
        | true =>
          have h1 := (H.closed 8 7 (by rfl) (H.closed 9 8 (by rfl) (H.closed 13 9 (by rfl) hs)))
          rw [H.new] at h1
          cases h1
      have n17 : l 17 = false := by
        cases hs : l 17 with
        | false => rfl
        | true =>
          have h1 := (H.closed 17 7 (by rfl) hs)
          rw [H.new] at h1
          cases h1
      have hW : wa.drew = W := (H.s.trans (by simp only [n17, n13, if_false, Bool.false_eq_true])).symm
      subst hW
      have e15 : a.eval (.tmp 15) = .pointer (some ⟨gb, 1, none⟩) := H.facts 15 rfl
      simp only [execOp, e15]; go_simp
    · refine L.asked_pure rfl rfl (fun _ _ h => h) (fun _ _ _ _ _ h => h) (fun _ _ _ => rfl) (fun l a W H => ?_)
      have e14 : a.eval (.tmp 14) = .slice (some ⟨gp, 0, none⟩) n n := H.facts 14 rfl
      have e16 : a.eval (.tmp 16) = .int .i64 (b : Nat) := H.facts 16 rfl
      simp only [execOp, e14, e16]; go_simp
    · refine L.asked_pure rfl rfl (fun _ _ h => h) (fun _ _ _ _ _ h => h) (fun _ _ _ => rfl) (fun l a W H => ?_)
      have n13 : l 13 = false := by
        cases hs : l 13 with
        | false => rfl
        | true =>
          have h1 := (H.closed 13 9 (by rfl) hs)
          rw [H.new] at h1
          cases h1
      have n17 : l 17 = false := by
        cases hs : l 17 with
        | false => rfl
        | true =>
          have h1 := (H.closed 17 9 (by rfl) hs)
          rw [H.new] at h1
          cases h1
      have hW : wa.drew = W := (H.s.trans (by simp only [n17, n13, if_false, Bool.false_eq_true])).symm
      subst hW
      have e17 : a.eval (.tmp 17) = .pointer (some ⟨gp, b, none⟩) := H.facts 17 rfl
      simp only [execOp, e17]; go_simp
    · refine L.asked_pure rfl rfl (fun _ _ h => h) (fun _ _ _ _ _ h => h) (fun _ _ _ => rfl) (fun l a W H => ?_)
      have e9 : a.eval (.tmp 9) = .pointer (some ⟨g, 0, none⟩) := H.facts 9 rfl
      simp only [execOp, e9]; go_simp
    · refine L.asked_pure rfl rfl (fun _ _ h => h) (fun _ _ _ _ _ h => h) (fun _ _ _ => rfl) (fun l a W H => ?_)
      have e19 : a.eval (.tmp 19) = .pointer (some ⟨g, 0, none⟩) := H.facts 19 rfl
      simp only [execOp, e19]; go_simp
    · refine L.asked_pure rfl rfl (fun _ _ h => h) (fun _ _ _ _ _ h => h) (fun _ _ _ => rfl) (fun l a W H => ?_)
      have e20 : a.eval (.tmp 20) = .pointer (some ⟨g, 0, none⟩) := H.facts 20 rfl
      simp only [execOp, e20]; go_simp
    · refine L.asked_skip rfl rfl (fun l a W H => ?_)
      have n13 : l 13 = false := H.new
      have n17 : l 17 = false := by
        cases hs : l 17 with
        | false => rfl
        | true =>
          have h1 := (H.closed 17 13 (by rfl) hs)
          rw [H.new] at h1
          cases h1
      have hW : wa.drew = W := (H.s.trans (by simp only [n17, n13, if_false, Bool.false_eq_true])).symm
      subst hW
      have e21 : a.eval (.tmp 21) = .pointer (some ⟨g, 0, none⟩) := H.facts 21 rfl
      refine ⟨wa.drew.setCell ⟨g, 0, none⟩ (.int .i64 1), ?_, ?_, fun _ _ h => h⟩
      · (simp only [execOp]; try simp only [Option.map]); (try simp only [List.map_toArray, List.map_cons, List.map_nil])
        simp only [e21]
        go_simp
      · simp [upd, n17]
    · refine L.asked_pure rfl rfl (fun _ _ h => h) (fun _ _ _ _ _ h => h) (fun _ _ _ => rfl) (fun l a W H => ?_)
      have e10 : a.eval (.tmp 10) = .pointer (some ⟨g, 0, none⟩) := H.facts 10 rfl
      simp only [execOp, e10]; go_simp
    · refine L.asked_pure rfl rfl (fun _ _ h => h) (fun _ _ _ _ _ h => h) (fun _ _ _ => rfl) (fun l a W H => ?_)
      have e22 : a.eval (.tmp 22) = .pointer (some ⟨g, 0, none⟩) := H.facts 22 rfl
      simp only [execOp, e22]; go_simp
    · refine L.asked_pure rfl rfl (fun _ _ h => h) (fun _ _ _ _ _ h => h) (fun _ _ _ => rfl) (fun l a W H => ?_)
      have e23 : a.eval (.tmp 23) = .pointer (some ⟨g, 0, none⟩) := H.facts 23 rfl
      simp only [execOp, e23]; go_simp
    · refine L.asked_skip rfl rfl (fun l a W H => ?_)
      have n17 : l 17 = false := H.new
      have h13 : l 13 = true := H.deps ⟨13, .chain⟩ (by simp) rfl
      have y13 : l 13 = true := h13
      have hW : wa.drew.setCell ⟨g, 0, none⟩ (.int .i64 1) = W := (H.s.trans (by simp only [n17, y13, if_true, if_false, Bool.false_eq_true])).symm
      subst hW
      have e24 : a.eval (.tmp 24) = .pointer (some ⟨g, 1, none⟩) := H.facts 24 rfl
      have e18 : a.eval (.tmp 18) = .int .i64 x := H.facts 18 rfl
      refine ⟨(wa.drew.setCell ⟨g, 0, none⟩ (.int .i64 1)).setCell ⟨g, 1, none⟩ (.int .i64 x), ?_, ?_, fun _ _ h => h⟩
      · (simp only [execOp]; try simp only [Option.map]); (try simp only [List.map_toArray, List.map_cons, List.map_nil])
        simp only [e24, e18]
        go_simp
      · simp [upd]
  · intro l s W hall hS hs
    rw [if_pos (hall 17 (by decide))] at hS
    have hS := Eq.symm hS
    subst hS
    exact hend s
def ops_ca5_ok : Array Oper := #[⟨some 19, .fieldAddr 75 (.tmp 5) 1, 0, "running.go:112", #[], none⟩, ⟨some 20, .load 25 (.tmp 19), 25, "running.go:112", #[⟨0, .data⟩], none⟩, ⟨some 21, .move (.tmp 0), 99, "running.go:112", #[], none⟩, ⟨some 22, .nilCheck (.tmp 21), 0, "running.go:112", #[⟨2, .data⟩], none⟩, ⟨some 23, .fieldAddr 88 (.tmp 22) 2, 0, "running.go:112", #[⟨3, .data⟩], none⟩, ⟨some 24, .load 25 (.tmp 23), 25, "running.go:112", #[⟨4, .data⟩], none⟩, ⟨some 25, .move (.tmp 7), 3, "running.go:112", #[], none⟩, ⟨some 26, .indexAddr 25 (.tmp 24) (.tmp 25), 0, "running.go:112", #[⟨5, .data⟩, ⟨6, .data⟩], none⟩, ⟨some 27, .load 2 (.tmp 26), 2, "running.go:112", #[⟨7, .data⟩], none⟩, ⟨some 28, .buildSlice 25 1 #[(0, .tmp 27)], 25, "running.go:112", #[⟨8, .data⟩], none⟩, ⟨some 29, .call { callee := Callee.builtin Builtin.append, args := #[.tmp 20, .tmp 28], argTypes := #[25, 25] }, 25, "running.go:112", #[⟨1, .data⟩, ⟨9, .data⟩], none⟩, ⟨some 30, .fieldAddr 75 (.tmp 5) 1, 0, "running.go:112", #[⟨0, .phase⟩, ⟨1, .phase⟩, ⟨2, .phase⟩, ⟨3, .phase⟩, ⟨4, .phase⟩, ⟨5, .phase⟩, ⟨6, .phase⟩, ⟨7, .phase⟩, ⟨8, .phase⟩, ⟨9, .phase⟩, ⟨10, .phase⟩], none⟩, ⟨none, .store 25 (.tmp 30) (.tmp 29), 0, "running.go:112", #[⟨11, .data⟩, ⟨10, .data⟩, ⟨10, .chain⟩, ⟨0, .phase⟩, ⟨1, .phase⟩, ⟨2, .phase⟩, ⟨3, .phase⟩, ⟨4, .phase⟩, ⟨5, .phase⟩, ⟨6, .phase⟩, ⟨7, .phase⟩, ⟨8, .phase⟩, ⟨9, .phase⟩, ⟨10, .phase⟩], none⟩]
/-- What is known of each temporary. -/
def G_ca5_ok (g gp gc n b hz1 vn vc : Nat) (x : Int) (ua : Value) (va : Option Addr) : Tmp → Value → World → Prop
  | 19, xx, _ => xx = .pointer (some ⟨gc, 1, none⟩)
  | 20, xx, _ => xx = ua
  | 21, xx, _ => xx = .pointer (some ⟨g, 0, none⟩)
  | 22, xx, _ => xx = .pointer (some ⟨g, 0, none⟩)
  | 23, xx, _ => xx = .pointer (some ⟨g, 69, none⟩)
  | 24, xx, _ => xx = .slice (some ⟨gp, 0, none⟩) n n
  | 25, xx, _ => xx = .int .i64 (b : Nat)
  | 26, xx, _ => xx = .pointer (some ⟨gp, b, none⟩)
  | 27, xx, _ => xx = .int .i64 x
  | 28, xx, _ => xx = .slice (some ⟨hz1, 0, none⟩) 1 1
  | 29, xx, _ => xx = .slice va vn vc
  | 30, xx, _ => xx = .pointer (some ⟨gc, 1, none⟩)
  | _, _, _ => True
set_option maxHeartbeats 1000000 in
set_option maxRecDepth 100000 in
theorem ca5_ok {Q : Exit → Act → World → Prop} {a0 : Act} {wa : World} {g gp gc n b hz1 vn vc : Nat} {x : Int} {ua yy : Value} {va : Option Addr} {W1 W2 W3 : World} (hz : a0.tmps.size = 65) (b5 : a0.eval (.tmp 5) = .pointer (some ⟨gc, 0, none⟩)) (b0 : a0.eval (.tmp 0) = .pointer (some ⟨g, 0, none⟩)) (b7 : a0.eval (.tmp 7) = .int .i64 (b : Nat))
    (k1 : wa.cell? ⟨gc, 1, none⟩ = some (ua)) (k1_1 : (W1).cell? ⟨gc, 1, none⟩ = some (ua)) (k1x_2 : (W2).cell? ⟨gc, 1, none⟩ = some (yy)) (c69 : wa.cell? ⟨g, 69, none⟩ = some (.slice (some ⟨gp, 0, none⟩) n n)) (p1 : wa.cell? ⟨gp, b, none⟩ = some (.int .i64 x)) (f1 : (W2).frozen? ⟨gc, 1, none⟩ = false) (hhz : wa.heap.size = hz1) (hW1 : (wa.alloc (.cells #[.int .i64 x] 2)).drew = W1) (hb : (b : Int) < (n : Int)) (hrun : (Builtin.append_ #[25, 25] 25 #[ua, .slice (some ⟨hz1, 0, none⟩) 1 1]).run Try.prog W1 = .ok (.slice va vn vc) W2) (hW3 : W2.setCell ⟨gc, 1, none⟩ (.slice va vn vc) = W3)
    (hend : ∀ s : Tmp → Value, Q .normal (overlay a0 (dstsOf ops_ca5_ok) s) W3) : (Code.region 5 ops_ca5_ok true).wp Try.prog Q a0 wa := by
  have k1 : wa.drew.cell? ⟨gc, 1, none⟩ = some (ua) := k1
  have c69 : wa.drew.cell? ⟨g, 69, none⟩ = some (.slice (some ⟨gp, 0, none⟩) n n) := c69
  have p1 : wa.drew.cell? ⟨gp, b, none⟩ = some (.int .i64 x) := p1
  refine L.wp_region_eachL (by kernel_rfl) (fun _ tt yv _ => G_ca5_ok g gp gc n b hz1 vn vc x ua va tt yv wa) (fun l W => W = if l 12 = true then W3 else (if l 10 = true then W2 else (if l 9 = true then W1 else wa.drew))) (by rw [hz]; kernel_rfl) rfl ?_ ?_
  · refine And.intro ?_ (And.intro ?_ (And.intro ?_ (And.intro ?_ (And.intro ?_ (And.intro ?_ (And.intro ?_ (And.intro ?_ (And.intro ?_ (And.intro ?_ (And.intro ?_ (And.intro ?_ (And.intro ?_ trivial))))))))))))
    · refine L.asked_pure rfl rfl (fun _ _ h => h) (fun _ _ _ _ _ h => h) (fun _ _ _ => rfl) (fun l a W H => ?_)
      have e5 : a.eval (.tmp 5) = .pointer (some ⟨gc, 0, none⟩) := (H.base 5 rfl).trans b5
      simp only [execOp, e5]; go_simp
    · refine L.asked_pure rfl rfl (fun _ _ h => h) (fun _ _ _ _ _ h => h) (fun _ _ _ => rfl) (fun l a W H => ?_)
      have n10 : l 10 = false := by
        cases hs : l 10 with
        | false => rfl
        | true =>
          have h1 := (H.closed 10 1 (by rfl) hs)
          rw [H.new] at h1
          cases h1
      have n12 : l 12 = false := by
        cases hs : l 12 with
        | false => rfl
        | true =>
          have h1 := (H.closed 12 1 (by rfl) hs)
          rw [H.new] at h1
          cases h1
      cases hc9 : l 9 with
      | true =>
        have y9 : l 9 = true := hc9
        have hW : W1 = W := (H.s.trans (by simp only [n12, n10, y9, if_true, if_false, Bool.false_eq_true])).symm
        subst hW
        have e19 : a.eval (.tmp 19) = .pointer (some ⟨gc, 1, none⟩) := H.facts 19 rfl
        simp only [execOp, e19]; go_simp
      | false =>
        have n9 : l 9 = false := hc9
        have hW : wa.drew = W := (H.s.trans (by simp only [n12, n10, n9, if_false, Bool.false_eq_true])).symm
        subst hW
        have e19 : a.eval (.tmp 19) = .pointer (some ⟨gc, 1, none⟩) := H.facts 19 rfl
        simp only [execOp, e19]; go_simp
    · refine L.asked_pure rfl rfl (fun _ _ h => h) (fun _ _ _ _ _ h => h) (fun _ _ _ => rfl) (fun l a W H => ?_)
      have e0 : a.eval (.tmp 0) = .pointer (some ⟨g, 0, none⟩) := (H.base 0 rfl).trans b0
      exact run_move rfl e0
    · refine L.asked_pure rfl rfl (fun _ _ h => h) (fun _ _ _ _ _ h => h) (fun _ _ _ => rfl) (fun l a W H => ?_)
      have e21 : a.eval (.tmp 21) = .pointer (some ⟨g, 0, none⟩) := H.facts 21 rfl
      simp only [execOp, e21]; go_simp
    · refine L.asked_pure rfl rfl (fun _ _ h => h) (fun _ _ _ _ _ h => h) (fun _ _ _ => rfl) (fun l a W H => ?_)
      have e22 : a.eval (.tmp 22) = .pointer (some ⟨g, 0, none⟩) := H.facts 22 rfl
      simp only [execOp, e22]; go_simp
    · refine L.asked_pure rfl rfl (fun _ _ h => h) (fun _ _ _ _ _ h => h) (fun _ _ _ => rfl) (fun l a W H => ?_)
      have n9 : l 9 = false := by
        cases hs : l 9 with
        | false => rfl
        | true =>
          have h1 := (H.closed 7 5 (by rfl) (H.closed 8 7 (by rfl) (H.closed 9 8 (by rfl) hs)))
          rw [H.new] at h1
          cases h1
      have n10 : l 10 = false := by
        cases hs : l 10 with
        | false => rfl
        | true =>
          have h1 := (H.closed 7 5 (by rfl) (H.closed 8 7 (by rfl) (H.closed 9 8 (by rfl) (H.closed 10 9 (by rfl) hs))))
          rw [H.new] at h1
          cases h1
      have n12 : l 12 = false := by
        cases hs : l 12 with
        | false => rfl
        | true =>
          have h1 := (H.closed 12 5 (by rfl) hs)
          rw [H.new] at h1
          cases h1
      have hW : wa.drew = W := (H.s.trans (by simp only [n12, n10, n9, if_false, Bool.false_eq_true])).symm
      subst hW
      have e23 : a.eval (.tmp 23) = .pointer (some ⟨g, 69, none⟩) := H.facts 23 rfl
      simp only [execOp, e23]; go_simp
    · refine L.asked_pure rfl rfl (fun _ _ h => h) (fun _ _ _ _ _ h => h) (fun _ _ _ => rfl) (fun l a W H => ?_)
      have e7 : a.eval (.tmp 7) = .int .i64 (b : Nat) := (H.base 7 rfl).trans b7
      exact run_move rfl e7
    · refine L.asked_pure rfl rfl (fun _ _ h => h) (fun _ _ _ _ _ h => h) (fun _ _ _ => rfl) (fun l a W H => ?_)
      have e24 : a.eval (.tmp 24) = .slice (some ⟨gp, 0, none⟩) n n := H.facts 24 rfl
      have e25 : a.eval (.tmp 25) = .int .i64 (b : Nat) := H.facts 25 rfl
      simp only [execOp, e24, e25]; go_simp
    · refine L.asked_pure rfl rfl (fun _ _ h => h) (fun _ _ _ _ _ h => h) (fun _ _ _ => rfl) (fun l a W H => ?_)
      have n9 : l 9 = false := by
        cases hs : l 9 with
        | false => rfl
        | true =>
          have h1 := (H.closed 9 8 (by rfl) hs)
          rw [H.new] at h1
          cases h1
      have n10 : l 10 = false := by
        cases hs : l 10 with
        | false => rfl
        | true =>
          have h1 := (H.closed 9 8 (by rfl) (H.closed 10 9 (by rfl) hs))
          rw [H.new] at h1
          cases h1
      have n12 : l 12 = false := by
        cases hs : l 12 with
        | false => rfl
        | true =>
          have h1 := (H.closed 12 8 (by rfl) hs)
          rw [H.new] at h1
          cases h1
      have hW : wa.drew = W := (H.s.trans (by simp only [n12, n10, n9, if_false, Bool.false_eq_true])).symm
      subst hW
      have e26 : a.eval (.tmp 26) = .pointer (some ⟨gp, b, none⟩) := H.facts 26 rfl
      simp only [execOp, e26]; go_simp
    · refine L.asked_any rfl (fun l a W H => ?_)
      have n9 : l 9 = false := H.new
      have n10 : l 10 = false := by
        cases hs : l 10 with
        | false => rfl
        | true =>
          have h1 := (H.closed 10 9 (by rfl) hs)
          rw [H.new] at h1
          cases h1
      have n12 : l 12 = false := by
        cases hs : l 12 with
        | false => rfl
        | true =>
          have h1 := (H.closed 12 9 (by rfl) hs)
          rw [H.new] at h1
          cases h1
      have hW : wa.drew = W := (H.s.trans (by simp only [n12, n10, n9, if_false, Bool.false_eq_true])).symm
      subst hW
      have e27 : a.eval (.tmp 27) = .int .i64 x := H.facts 27 rfl
      refine ⟨.slice (some ⟨hz1, 0, none⟩) 1 1, W1, ?_, fun d hd => by cases hd; rfl, ?_, fun _ _ _ h => h⟩
      · (simp only [execOp]; try simp only [Option.map]); (try simp only [List.map_toArray, List.map_cons, List.map_nil])
        simp only [e27]
        go_simp
      · simp [upd, n12, n10]
    · refine L.asked_any rfl (fun l a W H => ?_)
      have n10 : l 10 = false := H.new
      have n12 : l 12 = false := by
        cases hs : l 12 with
        | false => rfl
        | true =>
          have h1 := (H.closed 12 10 (by rfl) hs)
          rw [H.new] at h1
          cases h1
      have h9 : l 9 = true := H.deps ⟨9, .data⟩ (by simp) rfl
      have y9 : l 9 = true := h9
      have hW : W1 = W := (H.s.trans (by simp only [n12, n10, y9, if_true, if_false, Bool.false_eq_true])).symm
      subst hW
      have e20 : a.eval (.tmp 20) = ua := H.facts 20 rfl
      have e28 : a.eval (.tmp 28) = .slice (some ⟨hz1, 0, none⟩) 1 1 := H.facts 28 rfl
      refine ⟨.slice va vn vc, W2, ?_, fun d hd => by cases hd; rfl, ?_, fun _ _ _ h => h⟩
      · simp only [execOp, resolve, invoke, builtin, Sem.run_bind, Sem.run_pure, Result.andThen_ok, List.map_toArray, List.map_cons, List.map_nil, e20, e28, hrun]
      · simp [upd, n12]
    · refine L.asked_pure rfl rfl (fun _ _ h => h) (fun _ _ _ _ _ h => h) (fun _ _ _ => rfl) (fun l a W H => ?_)
      have e5 : a.eval (.tmp 5) = .pointer (some ⟨gc, 0, none⟩) := (H.base 5 rfl).trans b5
      simp only [execOp, e5]; go_simp
    · refine L.asked_skip rfl rfl (fun l a W H => ?_)
      have n12 : l 12 = false := H.new
      have h10 : l 10 = true := H.deps ⟨10, .data⟩ (by simp) rfl
      have y10 : l 10 = true := h10
      have hW : W2 = W := (H.s.trans (by simp only [n12, y10, if_true, if_false, Bool.false_eq_true])).symm
      subst hW
      have e30 : a.eval (.tmp 30) = .pointer (some ⟨gc, 1, none⟩) := H.facts 30 rfl
      have e29 : a.eval (.tmp 29) = .slice va vn vc := H.facts 29 rfl
      refine ⟨W3, ?_, ?_, fun _ _ h => h⟩
      · (simp only [execOp]; try simp only [Option.map]); (try simp only [List.map_toArray, List.map_cons, List.map_nil])
        simp only [e30, e29]
        go_simp
      · simp [upd]
  · intro l s W hall hS hs
    rw [if_pos (hall 12 (by decide))] at hS
    have hS := Eq.symm hS
    subst hS
    exact hend s
def ops_ca7_ok : Array Oper := #[⟨some 32, .move (.tmp 0), 99, "running.go:114", #[], none⟩, ⟨some 33, .move (.tmp 0), 99, "running.go:114", #[], none⟩, ⟨some 34, .nilCheck (.tmp 33), 0, "running.go:114", #[⟨1, .data⟩], none⟩, ⟨some 35, .fieldAddr 88 (.tmp 34) 0, 0, "running.go:114", #[⟨2, .data⟩], none⟩, ⟨some 36, .fieldAddr 37 (.tmp 35) 2, 0, "running.go:114", #[⟨3, .data⟩], none⟩, ⟨some 37, .load 34 (.tmp 36), 34, "running.go:114", #[⟨4, .data⟩], none⟩, ⟨some 38, .load 75 (.tmp 5), 75, "running.go:114", #[], none⟩, ⟨some 39, .buildSlice 34 1 #[(0, .tmp 38)], 34, "running.go:114", #[⟨6, .data⟩], none⟩, ⟨some 40, .call { callee := Callee.builtin Builtin.append, args := #[.tmp 37, .tmp 39], argTypes := #[34, 34] }, 34, "running.go:114", #[⟨5, .data⟩, ⟨7, .data⟩], none⟩, ⟨some 41, .nilCheck (.tmp 32), 0, "running.go:114", #[⟨0, .data⟩, ⟨0, .phase⟩, ⟨1, .phase⟩, ⟨2, .phase⟩, ⟨3, .phase⟩, ⟨4, .phase⟩, ⟨5, .phase⟩, ⟨6, .phase⟩, ⟨7, .phase⟩, ⟨8, .phase⟩], none⟩, ⟨some 42, .fieldAddr 88 (.tmp 41) 0, 0, "running.go:114", #[⟨9, .data⟩, ⟨0, .phase⟩, ⟨1, .phase⟩, ⟨2, .phase⟩, ⟨3, .phase⟩, ⟨4, .phase⟩, ⟨5, .phase⟩, ⟨6, .phase⟩, ⟨7, .phase⟩, ⟨8, .phase⟩], none⟩, ⟨some 43, .fieldAddr 37 (.tmp 42) 2, 0, "running.go:114", #[⟨10, .data⟩, ⟨0, .phase⟩, ⟨1, .phase⟩, ⟨2, .phase⟩, ⟨3, .phase⟩, ⟨4, .phase⟩, ⟨5, .phase⟩, ⟨6, .phase⟩, ⟨7, .phase⟩, ⟨8, .phase⟩], none⟩, ⟨none, .store 34 (.tmp 43) (.tmp 40), 0, "running.go:114", #[⟨11, .data⟩, ⟨8, .data⟩, ⟨8, .chain⟩, ⟨0, .phase⟩, ⟨1, .phase⟩, ⟨2, .phase⟩, ⟨3, .phase⟩, ⟨4, .phase⟩, ⟨5, .phase⟩, ⟨6, .phase⟩, ⟨7, .phase⟩, ⟨8, .phase⟩], none⟩]
/-- What is known of each temporary. -/
def G_ca7_ok (g hz1 vn vc : Nat) (nn : Int) (ua cv : Value) (va : Option Addr) : Tmp → Value → World → Prop
  | 32, xx, _ => xx = .pointer (some ⟨g, 0, none⟩)
  | 33, xx, _ => xx = .pointer (some ⟨g, 0, none⟩)
  | 34, xx, _ => xx = .pointer (some ⟨g, 0, none⟩)
  | 35, xx, _ => xx = .pointer (some ⟨g, 0, none⟩)
  | 36, xx, _ => xx = .pointer (some ⟨g, 2, none⟩)
  | 37, xx, _ => xx = cv
  | 38, xx, _ => xx = .agg #[.int .i64 nn, ua]
  | 39, xx, _ => xx = .slice (some ⟨hz1, 0, none⟩) 1 1
  | 40, xx, _ => xx = .slice va vn vc
  | 41, xx, _ => xx = .pointer (some ⟨g, 0, none⟩)
  | 42, xx, _ => xx = .pointer (some ⟨g, 0, none⟩)
  | 43, xx, _ => xx = .pointer (some ⟨g, 2, none⟩)
  | _, _, _ => True
set_option maxHeartbeats 1000000 in
set_option maxRecDepth 100000 in
theorem ca7_ok {Q : Exit → Act → World → Prop} {a0 : Act} {wa : World} {g gc hz1 vn vc : Nat} {nn : Int} {ua cv yy : Value} {va : Option Addr} {W1 W2 W3 : World} (hz : a0.tmps.size = 65) (b5 : a0.eval (.tmp 5) = .pointer (some ⟨gc, 0, none⟩)) (b0 : a0.eval (.tmp 0) = .pointer (some ⟨g, 0, none⟩))
    (k0 : wa.cell? ⟨gc, 0, none⟩ = some (.int .i64 nn)) (k1 : wa.cell? ⟨gc, 1, none⟩ = some (ua)) (c2 : wa.cell? ⟨g, 2, none⟩ = some (cv)) (c2_1 : (W1).cell? ⟨g, 2, none⟩ = some (cv)) (c2x_2 : (W2).cell? ⟨g, 2, none⟩ = some (yy)) (f1 : (W2).frozen? ⟨g, 2, none⟩ = false) (hhz : wa.heap.size = hz1) (hW1 : (wa.alloc (.cells #[.int .i64 nn, ua] 75)).drew = W1) (hrun : (Builtin.append_ #[34, 34] 34 #[cv, .slice (some ⟨hz1, 0, none⟩) 1 1]).run Try.prog W1 = .ok (.slice va vn vc) W2) (hW3 : W2.setCell ⟨g, 2, none⟩ (.slice va vn vc) = W3)
    (hend : ∀ s : Tmp → Value, Q .normal (overlay a0 (dstsOf ops_ca7_ok) s) W3) : (Code.region 7 ops_ca7_ok true).wp Try.prog Q a0 wa := by
  have k0 : wa.drew.cell? ⟨gc, 0, none⟩ = some (.int .i64 nn) := k0
  have k1 : wa.drew.cell? ⟨gc, 1, none⟩ = some (ua) := k1
  have c2 : wa.drew.cell? ⟨g, 2, none⟩ = some (cv) := c2
  refine L.wp_region_eachL (by kernel_rfl) (fun _ tt yv _ => G_ca7_ok g hz1 vn vc nn ua cv va tt yv wa) (fun l W => W = if l 12 = true then W3 else (if l 8 = true then W2 else (if l 7 = true then W1 else wa.drew))) (by rw [hz]; kernel_rfl) rfl ?_ ?_
  · refine And.intro ?_ (And.intro ?_ (And.intro ?_ (And.intro ?_ (And.intro ?_ (And.intro ?_ (And.intro ?_ (And.intro ?_ (And.intro ?_ (And.intro ?_ (And.intro ?_ (And.intro ?_ (And.intro ?_ trivial))))))))))))
    · refine L.asked_pure rfl rfl (fun _ _ h => h) (fun _ _ _ _ _ h => h) (fun _ _ _ => rfl) (fun l a W H => ?_)
      have e0 : a.eval (.tmp 0) = .pointer (some ⟨g, 0, none⟩) := (H.base 0 rfl).trans b0
      exact run_move rfl e0
    · refine L.asked_pure rfl rfl (fun _ _ h => h) (fun _ _ _ _ _ h => h) (fun _ _ _ => rfl) (fun l a W H => ?_)
      have e0 : a.eval (.tmp 0) = .pointer (some ⟨g, 0, none⟩) := (H.base 0 rfl).trans b0
      exact run_move rfl e0
    · refine L.asked_pure rfl rfl (fun _ _ h => h) (fun _ _ _ _ _ h => h) (fun _ _ _ => rfl) (fun l a W H => ?_)
      have e33 : a.eval (.tmp 33) = .pointer (some ⟨g, 0, none⟩) := H.facts 33 rfl
      simp only [execOp, e33]; go_simp
    · refine L.asked_pure rfl rfl (fun _ _ h => h) (fun _ _ _ _ _ h => h) (fun _ _ _ => rfl) (fun l a W H => ?_)
      have e34 : a.eval (.tmp 34) = .pointer (some ⟨g, 0, none⟩) := H.facts 34 rfl
      simp only [execOp, e34]; go_simp
    · refine L.asked_pure rfl rfl (fun _ _ h => h) (fun _ _ _ _ _ h => h) (fun _ _ _ => rfl) (fun l a W H => ?_)
      have e35 : a.eval (.tmp 35) = .pointer (some ⟨g, 0, none⟩) := H.facts 35 rfl
      simp only [execOp, e35]; go_simp
    · refine L.asked_pure rfl rfl (fun _ _ h => h) (fun _ _ _ _ _ h => h) (fun _ _ _ => rfl) (fun l a W H => ?_)
      have n8 : l 8 = false := by
        cases hs : l 8 with
        | false => rfl
        | true =>
          have h1 := (H.closed 8 5 (by rfl) hs)
          rw [H.new] at h1
          cases h1
      have n12 : l 12 = false := by
        cases hs : l 12 with
        | false => rfl
        | true =>
          have h1 := (H.closed 12 5 (by rfl) hs)
          rw [H.new] at h1
          cases h1
      cases hc7 : l 7 with
      | true =>
        have y7 : l 7 = true := hc7
        have hW : W1 = W := (H.s.trans (by simp only [n12, n8, y7, if_true, if_false, Bool.false_eq_true])).symm
        subst hW
        have e36 : a.eval (.tmp 36) = .pointer (some ⟨g, 2, none⟩) := H.facts 36 rfl
        simp only [execOp, e36]; go_simp
      | false =>
        have n7 : l 7 = false := hc7
        have hW : wa.drew = W := (H.s.trans (by simp only [n12, n8, n7, if_false, Bool.false_eq_true])).symm
        subst hW
        have e36 : a.eval (.tmp 36) = .pointer (some ⟨g, 2, none⟩) := H.facts 36 rfl
        simp only [execOp, e36]; go_simp
    · refine L.asked_pure rfl rfl (fun _ _ h => h) (fun _ _ _ _ _ h => h) (fun _ _ _ => rfl) (fun l a W H => ?_)
      have n7 : l 7 = false := by
        cases hs : l 7 with
        | false => rfl
        | true =>
          have h1 := (H.closed 7 6 (by rfl) hs)
          rw [H.new] at h1
          cases h1
      have n8 : l 8 = false := by
        cases hs : l 8 with
        | false => rfl
        | true =>
          have h1 := (H.closed 7 6 (by rfl) (H.closed 8 7 (by rfl) hs))
          rw [H.new] at h1
          cases h1
      have n12 : l 12 = false := by
        cases hs : l 12 with
        | false => rfl
        | true =>
          have h1 := (H.closed 12 6 (by rfl) hs)
          rw [H.new] at h1
          cases h1
      have hW : wa.drew = W := (H.s.trans (by simp only [n12, n8, n7, if_false, Bool.false_eq_true])).symm
      subst hW
      have e5 : a.eval (.tmp 5) = .pointer (some ⟨gc, 0, none⟩) := (H.base 5 rfl).trans b5
      simp only [execOp, e5]; go_simp
    · refine L.asked_any rfl (fun l a W H => ?_)
      have n7 : l 7 = false := H.new
      have n8 : l 8 = false := by
        cases hs : l 8 with
        | false => rfl
        | true =>
          have h1 := (H.closed 8 7 (by rfl) hs)
          rw [H.new] at h1
          cases h1
      have n12 : l 12 = false := by
        cases hs : l 12 with
        | false => rfl
        | true =>
          have h1 := (H.closed 12 7 (by rfl) hs)
          rw [H.new] at h1
          cases h1
      have hW : wa.drew = W := (H.s.trans (by simp only [n12, n8, n7, if_false, Bool.false_eq_true])).symm
      subst hW
      have e38 : a.eval (.tmp 38) = .agg #[.int .i64 nn, ua] := H.facts 38 rfl
      refine ⟨.slice (some ⟨hz1, 0, none⟩) 1 1, W1, ?_, fun d hd => by cases hd; rfl, ?_, fun _ _ _ h => h⟩
      · (simp only [execOp]; try simp only [Option.map]); (try simp only [List.map_toArray, List.map_cons, List.map_nil])
        simp only [e38]
        go_simp
      · simp [upd, n12, n8]
    · refine L.asked_any rfl (fun l a W H => ?_)
      have n8 : l 8 = false := H.new
      have n12 : l 12 = false := by
        cases hs : l 12 with
        | false => rfl
        | true =>
          have h1 := (H.closed 12 8 (by rfl) hs)
          rw [H.new] at h1
          cases h1
      have h7 : l 7 = true := H.deps ⟨7, .data⟩ (by simp) rfl
      have y7 : l 7 = true := h7
      have hW : W1 = W := (H.s.trans (by simp only [n12, n8, y7, if_true, if_false, Bool.false_eq_true])).symm
      subst hW
      have e37 : a.eval (.tmp 37) = cv := H.facts 37 rfl
      have e39 : a.eval (.tmp 39) = .slice (some ⟨hz1, 0, none⟩) 1 1 := H.facts 39 rfl
      refine ⟨.slice va vn vc, W2, ?_, fun d hd => by cases hd; rfl, ?_, fun _ _ _ h => h⟩
      · simp only [execOp, resolve, invoke, builtin, Sem.run_bind, Sem.run_pure, Result.andThen_ok, List.map_toArray, List.map_cons, List.map_nil, e37, e39, hrun]
      · simp [upd, n12]
    · refine L.asked_pure rfl rfl (fun _ _ h => h) (fun _ _ _ _ _ h => h) (fun _ _ _ => rfl) (fun l a W H => ?_)
      have e32 : a.eval (.tmp 32) = .pointer (some ⟨g, 0, none⟩) := H.facts 32 rfl
      simp only [execOp, e32]; go_simp
    · refine L.asked_pure rfl rfl (fun _ _ h => h) (fun _ _ _ _ _ h => h) (fun _ _ _ => rfl) (fun l a W H => ?_)
      have e41 : a.eval (.tmp 41) = .pointer (some ⟨g, 0, none⟩) := H.facts 41 rfl
      simp only [execOp, e41]; go_simp
    · refine L.asked_pure rfl rfl (fun _ _ h => h) (fun _ _ _ _ _ h => h) (fun _ _ _ => rfl) (fun l a W H => ?_)
      have e42 : a.eval (.tmp 42) = .pointer (some ⟨g, 0, none⟩) := H.facts 42 rfl
      simp only [execOp, e42]; go_simp
    · refine L.asked_skip rfl rfl (fun l a W H => ?_)
      have n12 : l 12 = false := H.new
      have h8 : l 8 = true := H.deps ⟨8, .data⟩ (by simp) rfl
      have y8 : l 8 = true := h8
      have hW : W2 = W := (H.s.trans (by simp only [n12, y8, if_true, if_false, Bool.false_eq_true])).symm
      subst hW
      have e43 : a.eval (.tmp 43) = .pointer (some ⟨g, 2, none⟩) := H.facts 43 rfl
      have e40 : a.eval (.tmp 40) = .slice va vn vc := H.facts 40 rfl
      refine ⟨W3, ?_, ?_, fun _ _ h => h⟩
      · (simp only [execOp]; try simp only [Option.map]); (try simp only [List.map_toArray, List.map_cons, List.map_nil])
        simp only [e43, e40]
        go_simp
      · simp [upd]
  · intro l s W hall hS hs
    rw [if_pos (hall 12 (by decide))] at hS
    have hS := Eq.symm hS
    subst hS
    exact hend s
end Go.Proofs.Ytepmbkiojpffpaa
