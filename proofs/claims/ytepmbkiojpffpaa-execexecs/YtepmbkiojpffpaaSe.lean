/- 'p[i.D] = r.call(i)': a region that draws its order, with a call that changes the run. -/
import Derived.Test.YtepmbkiojpffpaaSc
namespace Go.Proofs.Ytepmbkiojpffpaa
open Go Go.RowKit Ir
def ops_st6_ok : Array Oper := #[{ dst := some 67, op := Op.move (Operand.tmp 4), type := 25, pos := "running.go:61", after := #[], guard := none }, { dst := some 68, op := Op.fieldAddr 65 (Operand.tmp 3) 2, type := 0, pos := "running.go:61", after := #[], guard := none }, { dst := some 69, op := Op.load 3 (Operand.tmp 68), type := 3, pos := "running.go:61", after := #[{ on := 1, ground := Ground.data }], guard := none }, { dst := some 70, op := Op.move (Operand.tmp 0), type := 99, pos := "running.go:61", after := #[], guard := none }, { dst := some 71, op := Op.load 65 (Operand.tmp 3), type := 65, pos := "running.go:61", after := #[], guard := none }, { dst := some 72, op := Op.call { callee := Callee.value (Operand.func 58), args := #[Operand.tmp 70, Operand.tmp 71], argTypes := #[99, 65] }, type := 2, pos := "running.go:61", after := #[{ on := 3, ground := Ground.data }, { on := 4, ground := Ground.data }], guard := none }, { dst := some 73, op := Op.indexAddr 25 (Operand.tmp 67) (Operand.tmp 69), type := 0, pos := "running.go:61", after := #[{ on := 0, ground := Ground.data }, { on := 2, ground := Ground.data }, { on := 0, ground := Ground.phase }, { on := 1, ground := Ground.phase }, { on := 2, ground := Ground.phase }, { on := 3, ground := Ground.phase }, { on := 4, ground := Ground.phase }, { on := 5, ground := Ground.phase }], guard := none }, { dst := none, op := Op.store 2 (Operand.tmp 73) (Operand.tmp 72), type := 0, pos := "running.go:61", after := #[{ on := 6, ground := Ground.data }, { on := 5, ground := Ground.data }, { on := 5, ground := Ground.chain }, { on := 0, ground := Ground.phase }, { on := 1, ground := Ground.phase }, { on := 2, ground := Ground.phase }, { on := 3, ground := Ground.phase }, { on := 4, ground := Ground.phase }, { on := 5, ground := Ground.phase }], guard := none }]
theorem rowI_cells {W : World} {g : Nat} {X : Ins} {u : Value} (h : W.heap[g]? = some (Obj.cells (rowI X u) 65 (0, 0))) : InsCells W g 0 X u := by
  refine ⟨?_, ?_, ?_, ?_, ?_, ?_, ?_⟩
  all_goals (rw [cell_of_row _ _ _ _ _ _ h]; rfl)
/-- The state behind a call. -/
def calledS (s : St) (i : Ins) : St := { s with calls := s.calls ++ [⟨i.n, i.args.map (pg s.p)⟩], ans := s.ans.tail }
def Post6 (B g gp : Nat) (r : Int) (s : St) (wa W : World) : Prop := (∃ cv av, RunAt B g gp r W 0 0 s cv av) ∧ Mv B gp wa W
structure S6 (B g gp dn : Nat) (r x : Int) (s : St) (wa : World) (l : Nat → Bool) (W : World) : Prop where
  a : l 5 = false → W = wa
  b : l 5 = true → l 7 = false → Post6 B g gp r s wa W
  c : l 7 = true → ∃ W0, Post6 B g gp r s wa W0 ∧ W = W0.setCell ⟨gp, dn, none⟩ (.int .i64 x)
theorem S6.skip {B g gp dn : Nat} {r x : Int} {s : St} {wa : World} {l : Nat → Bool} {W : World} (h : S6 B g gp dn r x s wa l W) {j : Nat} (h5 : j ≠ 5) (h7 : j ≠ 7) : S6 B g gp dn r x s wa (upd l j) W := by
  have u5 : upd l j 5 = l 5 := if_neg (fun e => h5 e.symm)
  have u7 : upd l j 7 = l 7 := if_neg (fun e => h7 e.symm)
  exact ⟨by rw [u5]; exact h.a, by rw [u5, u7]; exact h.b, by rw [u7]; exact h.c⟩
theorem S6.box {B g gp dn gb : Nat} {r x : Int} {s : St} {wa : World} {l : Nat → Bool} {W : World} {i : Ins} {u : Value} (h : S6 B g gp dn r x s wa l W) (hb : wa.heap[gb]? = some (Obj.cells (rowI i u) 65 (0, 0))) (hd : i.d = (dn : Int)) (n7 : l 7 = false) : W.cell? ⟨gb, 2, none⟩ = some (.int .i64 (dn : Nat)) := by
  have hr : W.heap[gb]? = some (Obj.cells (rowI i u) 65 (0, 0)) := by
    cases h5 : l 5 with
    | false => rw [h.a h5]; exact hb
    | true => exact (h.b h5 n7).2.keeps _ _ _ _ rfl hb
  have := (rowI_cells hr).c2
  rw [hd] at this
  simpa using this
/-- What is known of each temporary. -/
def G_st6 (g gp gb n dn : Nat) (x : Int) (i : Ins) (u : Value) : Tmp → Value → World → Prop
  | 67, xx, _ => xx = .slice (some ⟨gp, 0, none⟩) n n
  | 68, xx, _ => xx = .pointer (some ⟨gb, 2, none⟩)
  | 69, xx, _ => xx = .int .i64 (dn : Nat)
  | 70, xx, _ => xx = .pointer (some ⟨g, 0, none⟩)
  | 71, xx, _ => xx = insV i u
  | 72, xx, _ => xx = .int .i64 x
  | 73, xx, _ => xx = .pointer (some ⟨gp, dn, none⟩)
  | _, _, _ => True

set_option maxHeartbeats 1000000 in
set_option maxRecDepth 100000 in
theorem st6_ok {Q : Exit → Act → World → Prop} {a0 : Act} {wa : World} {B g gp gb n dn : Nat} {r x : Int} {s : St} {cv av : Value} {i : Ins} {u : Value} (hz : a0.tmps.size = 106) (b4 : a0.eval (.tmp 4) = .slice (some ⟨gp, 0, none⟩) n n) (b3 : a0.eval (.tmp 3) = .pointer (some ⟨gb, 0, none⟩)) (b0 : a0.eval (.tmp 0) = .pointer (some ⟨g, 0, none⟩))
    (h : RunAt B g gp r wa 0 0 s cv av) (hbox : wa.heap[gb]? = some (Obj.cells (rowI i u) 65 (0, 0))) (hu : IntsV wa u i.args) (hl : i.args.length ≤ 3) (ha : ∀ x ∈ i.args, 0 ≤ x ∧ x < (s.p.length : Int)) (hcl : s.calls.length ≤ 1048576) (hdn : i.d = (dn : Int)) (hd2 : dn < s.p.length) (hn : n = s.p.length) (hx : s.ans.headD 0 = x)
    (hend : ∀ (q : Tmp → Value) (W0 : World), Post6 B g gp r (calledS s i) wa.drew W0 → Q .normal (overlay a0 (dstsOf ops_st6_ok) q) (W0.setCell ⟨gp, dn, none⟩ (.int .i64 x))) : (Code.region 14 ops_st6_ok true).wp Try.prog Q a0 wa := by
  have hdl : (dn : Int) < (n : Int) := by omega
  refine L.wp_region_eachL (by kernel_rfl) (fun _ tt yv _ => G_st6 g gp gb n dn x i u tt yv wa) (fun l W => S6 B g gp dn r x (calledS s i) wa.drew l W) (by rw [hz]; kernel_rfl) ⟨fun _ => rfl, fun h => by simp at h, fun h => by simp at h⟩ ?_ ?_
  · refine And.intro ?_ (And.intro ?_ (And.intro ?_ (And.intro ?_ (And.intro ?_ (And.intro ?_ (And.intro ?_ (And.intro ?_ trivial)))))))
    · refine L.asked_pure rfl rfl (fun _ _ h => h.skip (by decide) (by decide)) (fun _ _ _ _ _ h => h) (fun _ _ _ => rfl) (fun l a W H => ?_)
      have e4 : a.eval (.tmp 4) = .slice (some ⟨gp, 0, none⟩) n n := (H.base 4 rfl).trans b4
      exact run_move rfl e4
    · refine L.asked_pure rfl rfl (fun _ _ h => h.skip (by decide) (by decide)) (fun _ _ _ _ _ h => h) (fun _ _ _ => rfl) (fun l a W H => ?_)
      have e3 : a.eval (.tmp 3) = .pointer (some ⟨gb, 0, none⟩) := (H.base 3 rfl).trans b3
      (simp only [execOp]; try simp only [Option.map]); (try simp only [List.map_toArray, List.map_cons, List.map_nil]); (simp only [e3]; go_simp)
      all_goals (try first | go_num | omega | (rw [IntKind.wrap_i64]; omega) | (rw [IntKind.wrap_u8]; omega))
    · refine L.asked_pure rfl rfl (fun _ _ h => h.skip (by decide) (by decide)) (fun _ _ _ _ _ h => h) (fun _ _ _ => rfl) (fun l a W H => ?_)
      have e68 : a.eval (.tmp 68) = .pointer (some ⟨gb, 2, none⟩) := H.facts 68 rfl
      have n7 : l 7 = false := by
        cases hs : l 7 with
        | false => rfl
        | true =>
          have h1 := (H.closed 7 2 (by rfl) hs)
          rw [H.new] at h1
          cases h1
      have hcc : W.cell? ⟨gb, 2, none⟩ = some (.int .i64 (dn : Nat)) := H.s.box hbox hdn n7
      (simp only [execOp]; try simp only [Option.map]); (simp only [e68]; go_simp)
    · refine L.asked_pure rfl rfl (fun _ _ h => h.skip (by decide) (by decide)) (fun _ _ _ _ _ h => h) (fun _ _ _ => rfl) (fun l a W H => ?_)
      have e0 : a.eval (.tmp 0) = .pointer (some ⟨g, 0, none⟩) := (H.base 0 rfl).trans b0
      exact run_move rfl e0
    · refine L.asked_pure rfl rfl (fun _ _ h => h.skip (by decide) (by decide)) (fun _ _ _ _ _ h => h) (fun _ _ _ => rfl) (fun l a W H => ?_)
      have e3 : a.eval (.tmp 3) = .pointer (some ⟨gb, 0, none⟩) := (H.base 3 rfl).trans b3
      have n5 : l 5 = false := by
        cases hs : l 5 with
        | false => rfl
        | true =>
          have h1 := (H.closed 5 4 (by rfl) hs)
          rw [H.new] at h1
          cases h1
      have hW := H.s.a n5
      subst hW
      exact run_load46 rfl e3 (rowI_cells hbox)
    · refine L.asked_call rfl Try.func58 (by kernel_rfl) (by kernel_rfl) rfl rfl (fun l a W H => ?_)
      have e70 : a.eval (.tmp 70) = .pointer (some ⟨g, 0, none⟩) := H.facts 70 rfl
      have e71 : a.eval (.tmp 71) = insV i u := H.facts 71 rfl
      have ea : (#[.tmp 70, .tmp 71] : Array Operand).map a.eval = #[.pointer (some ⟨g, 0, none⟩), insV i u] := by simp only [List.map_toArray, List.map_cons, List.map_nil, e70, e71]
      rw [ea]
      have hW := H.s.a H.new
      subst hW
      refine (call_any B g gp r wa.drew s cv av i u (h.of (Below.refl _ _).drew) (hu.below (Below.refl _ _).drew) hl ha hcl).mono ?_
      rintro e w' ⟨rfl, hR, hM⟩
      have n7 : l 7 = false := by
        cases hs : l 7 with
        | false => rfl
        | true =>
          have h1 := (H.closed 7 5 (by rfl) hs)
          rw [H.new] at h1
          cases h1
      exact ⟨_, rfl, by rw [hx]; rfl, ⟨fun h => (by simp [upd] at h), fun _ _ => ⟨hR, hM⟩, fun h => (by have h : l 7 = true := h; rw [n7] at h; cases h)⟩, fun _ _ _ h => h⟩
    · refine L.asked_pure rfl rfl (fun _ _ h => h.skip (by decide) (by decide)) (fun _ _ _ _ _ h => h) (fun _ _ _ => rfl) (fun l a W H => ?_)
      have e67 : a.eval (.tmp 67) = .slice (some ⟨gp, 0, none⟩) n n := H.facts 67 rfl
      have e69 : a.eval (.tmp 69) = .int .i64 (dn : Nat) := H.facts 69 rfl
      (simp only [execOp]; try simp only [Option.map]); (try simp only [List.map_toArray, List.map_cons, List.map_nil]); (simp only [e67, e69]; go_simp)
      all_goals (try first | go_num | omega | (rw [IntKind.wrap_i64]; omega) | (rw [IntKind.wrap_u8]; omega))
    · refine L.asked_skip rfl rfl (fun l a W H => ?_)
      have e72 : a.eval (.tmp 72) = .int .i64 x := H.facts 72 rfl
      have e73 : a.eval (.tmp 73) = .pointer (some ⟨gp, dn, none⟩) := H.facts 73 rfl
      have y5 : l 5 = true := H.deps ⟨5, .data⟩ (by simp) rfl
      obtain ⟨hR, hM⟩ := H.s.b y5 H.new
      obtain ⟨cv', av', hR'⟩ := hR
      have hcc := hR'.pc (j := dn) hd2
      have hff := hR'.pf dn
      refine ⟨W.setCell ⟨gp, dn, none⟩ (.int .i64 x), ?_, ⟨fun h => (by have h : l 5 = false := h; rw [y5] at h; cases h), fun _ h => (by simp [upd] at h), fun _ => ⟨W, ⟨⟨_, _, hR'⟩, hM⟩, rfl⟩⟩, fun _ _ h => h⟩
      (simp only [execOp]; try simp only [Option.map]); (simp only [e72, e73]; go_simp)
  · intro l q W hall hS _
    obtain ⟨W0, hP, rfl⟩ := hS.c (hall 7 (by decide))
    exact hend q W0 hP
end Go.Proofs.Ytepmbkiojpffpaa
