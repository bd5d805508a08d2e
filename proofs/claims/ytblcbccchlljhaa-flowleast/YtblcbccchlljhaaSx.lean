/- Solve: facts that are numbers. -/
import Derived.Test.YtblcbccchlljhaaFi
import Derived.Test.YtblcbccchlljhaaQs
namespace Go.Proofs.Ytblcbccchlljhaa.I
open Go.RowKit Ir Wy

def ops_r18 : Array Oper := #[⟨some 66, .load 62 (.tmp 1), 62, "flow.go:31", #[], none⟩, ⟨some 67, .move (.tmp 3), 48, "flow.go:31", #[], none⟩, ⟨some 68, .move (.tmp 9), 3, "flow.go:31", #[], none⟩, ⟨some 69, .move (.tmp 5), 30, "flow.go:31", #[], none⟩, ⟨some 70, .move (.tmp 9), 3, "flow.go:31", #[], none⟩, ⟨some 71, .indexAddr 30 (.tmp 69) (.tmp 70), 0, "flow.go:31", #[⟨3, .data⟩, ⟨4, .data⟩], none⟩, ⟨some 72, .load 48 (.tmp 71), 48, "flow.go:31", #[⟨5, .data⟩], none⟩, ⟨some 73, .call { callee := Callee.value (Operand.func 47), args := #[.tmp 66, .tmp 67, .tmp 68, .tmp 72], argTypes := #[62, 48, 3, 48] }, 4, "flow.go:31", #[⟨0, .data⟩, ⟨1, .data⟩, ⟨2, .data⟩, ⟨6, .data⟩], none⟩, ⟨some 74, .unOp .not 4 (.tmp 73), 4, "flow.go:31", #[⟨7, .data⟩], none⟩]
/-- Before settle is called, behind it. -/
structure S18 (p : Fl.Prob Fc) (m : (Nat → Fc) → Nat) (g b : Nat) (fs : Nat → Fc) (wa : World) (l : Nat → Bool) (s : Tmp → Value) (W : World) : Prop where
  pre : l 7 = false → Below wa.heap.size wa W
  post : l 7 = true → ∃ gs ch, s 73 = .bool ch ∧ Fl.Swp p m b fs gs (p.frm b).length ch ∧ FactsAt W g p.n gs ∧ wa.grownBy W (some g)
  neg : l 8 = true → ∀ ch, s 73 = .bool ch → s 74 = .bool (!ch)
set_option maxHeartbeats 2000000 in
set_option maxRecDepth 100000 in
theorem r18_ok {Q : Exit → Act → World → Prop} {a0 : Act} {wa w0 : World} {p : Fl.Prob Fc} {vF vI vJ vP : Value} {m : (Nat → Fc) → Nat} (hf : FnsOk w0 p vF vI vJ vP) (ok : p.Ok m) (hlen : ∀ b, b < p.n → (p.frm b).length ≤ 1000) (g cap b gf C pb : Nat) (fs : Nat → Fc) (fv : Value) (t : TypeId) (hz : a0.tmps.size = 90) (b1 : a0.eval (.tmp 1) = .pointer (some ⟨pb, 0, none⟩)) (b3 : a0.eval (.tmp 3) = .slice (some ⟨g, 0, none⟩) p.n cap) (b5 : a0.eval (.tmp 5) = .slice (some ⟨gf, 0, none⟩) p.n p.n) (b9 : a0.eval (.tmp 9) = .int .i64 (b : Int))
    (hp : wa.heap[pb]? = some (.cells #[.int .i64 (p.n : Int), vF, vI, vJ, vP] t (0, 0))) (hW : Below w0.heap.size w0 wa) (hg : w0.heap.size ≤ g) (hc : p.Come fs) (hb : b < p.n) (hF : FactsAt wa g p.n fs) (hcf : wa.cell? ⟨gf, b, none⟩ = some fv) (hr : ArgsO C wa fv (ci (p.frm b))) (hrg : fv.ownBlock ≠ some g)
    (hend : ∀ (s : Tmp → Value) (W : World) (gs : Nat → Fc) (ch : Bool), s 74 = .bool (!ch) → Fl.Swp p m b fs gs (p.frm b).length ch → FactsAt W g p.n gs → wa.grownBy W (some g) → Q .normal (overlay a0 (dstsOf ops_r18) s) W) : (Code.region 18 ops_r18 true).wp Try.prog Q a0 wa := by
  have hb' : (b : Int) < (p.n : Int) := by omega
  obtain ⟨av, cv, hfv⟩ := hr.slice
  refine L3.wp_region_eachL (by kernel_rfl) (fun _ t v _ => (match t with | 66 => v = .agg #[.int .i64 (p.n : Int), vF, vI, vJ, vP] | 67 => v = .slice (some ⟨g, 0, none⟩) p.n cap | 68 => v = .int .i64 (b : Int) | 69 => v = .slice (some ⟨gf, 0, none⟩) p.n p.n | 70 => v = .int .i64 (b : Int) | 71 => v = .pointer (some ⟨gf, b, none⟩) | 72 => v = fv | 73 => ∃ ch, v = .bool ch | _ => True)) (S18 p m g b fs wa) (by rw [hz]; kernel_rfl) ⟨fun _ => (Below.refl _ _).drew, fun h => (by simp at h), fun h => by simp at h⟩ ?_ ?_
  · refine And.intro ?_ (And.intro ?_ (And.intro ?_ (And.intro ?_ (And.intro ?_ (And.intro ?_ (And.intro ?_ (And.intro ?_ (And.intro ?_ trivial))))))))
    · refine L3.asked_any rfl fun l x W H => ⟨.agg #[.int .i64 (p.n : Int), vF, vI, vJ, vP], W, ?_, (fun d hd => by cases hd; rfl), ⟨H.s.pre, H.s.post, H.s.neg⟩, fun _ _ h => h⟩
      have e1 : x.eval (.tmp 1) = .pointer (some ⟨pb, 0, none⟩) := (H.base 1 rfl).trans b1
      have hw := H.s.pre (dep_in H 7 rfl)
      exact Bg.ex_load rfl e1 ((hw.block pb (Array.getElem?_eq_some_iff.1 hp).1).trans hp) Try.underlying62 rfl (by kernel_rfl)
    · exact L3.asked_any rfl fun l x W H => ⟨.slice (some ⟨g, 0, none⟩) p.n cap, W, Bg.ex_move rfl ((H.base 3 rfl).trans b3), (fun d hd => by cases hd; rfl), ⟨H.s.pre, H.s.post, H.s.neg⟩, fun _ _ h => h⟩
    · exact L3.asked_any rfl fun l x W H => ⟨.int .i64 (b : Int), W, Bg.ex_move rfl ((H.base 9 rfl).trans b9), (fun d hd => by cases hd; rfl), ⟨H.s.pre, H.s.post, H.s.neg⟩, fun _ _ h => h⟩
    · exact L3.asked_any rfl fun l x W H => ⟨.slice (some ⟨gf, 0, none⟩) p.n p.n, W, Bg.ex_move rfl ((H.base 5 rfl).trans b5), (fun d hd => by cases hd; rfl), ⟨H.s.pre, H.s.post, H.s.neg⟩, fun _ _ h => h⟩
    · exact L3.asked_any rfl fun l x W H => ⟨.int .i64 (b : Int), W, Bg.ex_move rfl ((H.base 9 rfl).trans b9), (fun d hd => by cases hd; rfl), ⟨H.s.pre, H.s.post, H.s.neg⟩, fun _ _ h => h⟩
    · refine L3.asked_any rfl fun l x W H => ⟨.pointer (some ⟨gf, b, none⟩), W, ?_, (fun d hd => by cases hd; rfl), ⟨H.s.pre, H.s.post, H.s.neg⟩, fun _ _ h => h⟩
      have e69 : x.eval (.tmp 69) = .slice (some ⟨gf, 0, none⟩) p.n p.n := H.facts 69 rfl
      have e70 : x.eval (.tmp 70) = .int .i64 (b : Int) := H.facts 70 rfl
      (simp only [execOp]; simp only [e69, e70]; go_simp)
    · refine L3.asked_any rfl fun l x W H => ⟨fv, W, ?_, (fun d hd => by cases hd; rfl), ⟨H.s.pre, H.s.post, H.s.neg⟩, fun _ _ h => h⟩
      have e71 : x.eval (.tmp 71) = .pointer (some ⟨gf, b, none⟩) := H.facts 71 rfl
      have hw := H.s.pre (dep_in H 7 rfl)
      have hcell : W.cell? ⟨gf, b, none⟩ = some fv := (hw.cell (p := ⟨gf, b, none⟩) (World.block_lt_of_cell? wa _ hcf)).trans hcf
      rw [hfv] at hcell ⊢
      (simp only [execOp]; simp only [e71]; go_simp)
    · refine L3.asked_call rfl Try.func47 rfl rfl rfl rfl fun l x W H => ?_
      have e66 : x.eval (.tmp 66) = .agg #[.int .i64 (p.n : Int), vF, vI, vJ, vP] := H.facts 66 rfl
      have e67 : x.eval (.tmp 67) = .slice (some ⟨g, 0, none⟩) p.n cap := H.facts 67 rfl
      have e68 : x.eval (.tmp 68) = .int .i64 (b : Int) := H.facts 68 rfl
      have e72 : x.eval (.tmp 72) = fv := H.facts 72 rfl
      have hw := H.s.pre H.new
      have n8 : l 8 = false := dep_in H 8 rfl
      simp only [List.map_toArray, List.map_cons, List.map_nil, e66, e67, e68, e72]
      refine (settle_any hf ok hlen g cap b C fs fv W (hW.trans (hw.mono hW.size)) hg hb hc (hF.below hw) (hr.below hw) hrg).mono ?_
      rintro e W' ⟨gs, ch, rfl, q1, q2, q3⟩
      exact ⟨_, rfl, ⟨ch, rfl⟩, ⟨fun h => (by rw [show (upd l 7) 7 = true from rfl] at h; cases h), fun _ => ⟨gs, ch, rfl, q1, q2, Bg.gb_then (Bg.gb_of hw) q3⟩, fun h => by rw [show (upd l 7) 8 = l 8 from rfl, n8] at h; cases h⟩, fun _ _ h => h⟩
    · refine L3.asked_any rfl fun l x W H => ?_
      obtain ⟨ch, e73⟩ : ∃ ch, x.eval (.tmp 73) = .bool ch := H.facts 73 rfl
      refine ⟨.bool (!ch), W, Bg.ex_not rfl e73 rfl, (fun d hd => by cases hd; trivial), ⟨H.s.pre, H.s.post, fun _ c hc => ?_⟩, fun _ _ h => h⟩
      have h1 : x.eval (.tmp 73) = .bool c := hc
      rw [e73] at h1
      cases h1
      rfl
  · intro l s W hall hS hs
    obtain ⟨gs, ch, h1, h2, h3, h4⟩ := hS.post (hall 7 (by decide))
    exact hend s W gs ch (hS.neg (hall 8 (by decide)) ch h1) h2 h3 h4
end Go.Proofs.Ytblcbccchlljhaa.I
