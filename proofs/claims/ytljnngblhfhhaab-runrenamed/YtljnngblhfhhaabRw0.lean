/- RunRenamed's closure and two regions that draw their order. -/
import Derived.Test.YtljnngblhfhhaabCu
import Derived.Test.YtljnngblhfhhaabAnyL
namespace Go.Proofs.Ytljnngblhfhhaab
open Go Go.RowKit Ir

namespace L
section
variable {P : Program} {ops : Array Oper} {Q : Exit → Act → World → Prop} {md : Region.Mode}
variable {a0 : Act} {G : (Nat → Bool) → Tmp → Value → World → Prop} {S : (Nat → Bool) → World → Prop} {j : Nat} {o : Oper} {d : Tmp}
/-- A call of a closure, by its contract; not guarded. -/
theorem asked_clos {f : FuncId} {fn : Func} {x : Operand} {xs : Array Operand} {ts : Array TypeId} {cap : Array Value} (hg : o.guard = none) (hf : P.funcs[f]? = some fn) (hn : (fn.name == "runtime.NumGoroutine") = false) (hbody : fn.body.isNone = false) (hd : o.dst = some d) (hop : o.op = .call { callee := .value x, args := xs, argTypes := ts })
    (h : ∀ l a w, Hand md ops a0 G S j o l a w → a.eval x = .func (.func f) #[] cap ∧ Calls P f (xs.map a.eval ++ cap) w fun e w' => ∃ v, e = .returned v ∧ G (upd l j) d v w' ∧ S (upd l j) w' ∧ ∀ d' u, d' ≠ d → G l d' u w → G (upd l j) d' u w') :
    Asked P md ops a0 Q G S j o := by
  intro l a w h1 h2 hcl h3 h4 h5
  refine ⟨fun _ K hK => ?_, fun hw => absurd (by unfold want; rw [hg]; trivial) hw⟩
  obtain ⟨hx, hC⟩ := h l a w ⟨h1, h2, hcl, h3, h4, h5⟩
  have hrun : (execOp a.eval o).run P w = .ok (.enter f (xs.map a.eval ++ cap)) w := by
    have : execOp a.eval o = callFunc f (#[] ++ xs.map a.eval ++ cap) := by
      unfold execOp
      rw [hop]
      show (do let d ← resolve a.eval { callee := .value x, args := xs, argTypes := ts } o.type; invoke d.target d.args) = _
      unfold resolve
      simp only [hx]
      rfl
    rw [this]
    simp [callFunc, hf]
    rw [if_neg (by simpa using hn), if_neg (fun e => by rw [e] at hbody; simp at hbody)]
  unfold Oper.wp
  rw [hrun, Oper.upon_enter]
  refine hC.mono ?_
  rintro e w' ⟨v, rfl, e2, e3, e4⟩
  refine hK _ _ (fun d' h' => ?_) e3 (fun d' u hne hG => e4 d' u (fun e => hne (by rw [e, hd])) hG)
  rw [hd] at h'
  cases h'
  exact e2
end
end L
theorem as_any (gu gv : Nat) (u v x : Int) (w : World) (hu : w.cell? ⟨gu, 0, none⟩ = some (.int .i64 u)) (hv : w.cell? ⟨gv, 0, none⟩ = some (.int .i64 v)) : Calls Try.prog 9 #[.int .i64 x, .pointer (some ⟨gu, 0, none⟩), .pointer (some ⟨gv, 0, none⟩)] w fun e w' => e = .returned (.int .i64 (swp u v x)) ∧ w' = w := by
  obtain ⟨y, hy⟩ : ∃ y, swp u v x = y := ⟨_, rfl⟩
  rw [hy]
  unfold swp at hy
  by_cases h1 : x = u
  · have hb : (x == u) = true := by simpa using h1
    rw [if_pos h1] at hy
    subst hy
    clear h1
    go_enter Try.func9, Try.ntmps9
    go_wp2_with fail
    go_ret
    exact ⟨rfl, rfl⟩
  · have hb : (x == u) = false := by simpa using h1
    rw [if_neg h1] at hy
    by_cases h2 : x = v
    · have hb2 : (x == v) = true := by simpa using h2
      rw [if_pos h2] at hy
      subst hy
      clear h1 h2
      go_enter Try.func9, Try.ntmps9
      go_wp2_with fail
      go_ret
      exact ⟨rfl, rfl⟩
    · have hb2 : (x == v) = false := by simpa using h2
      rw [if_neg h2] at hy
      subst hy
      clear h1 h2
      go_enter Try.func9, Try.ntmps9
      go_wp2_with fail
      go_ret
      exact ⟨rfl, rfl⟩
def ops_rn26_ok : Array Oper := #[{ dst := some 141, op := Op.move (Operand.tmp 18), type := 57, pos := "law.go:203", after := #[], guard := none }, { dst := some 142, op := Op.nilCheck (Operand.tmp 141), type := 0, pos := "law.go:203", after := #[{ on := 0, ground := Ground.data }], guard := none }, { dst := some 143, op := Op.fieldAddr 53 (Operand.tmp 142) 6, type := 0, pos := "law.go:203", after := #[{ on := 1, ground := Ground.data }], guard := none }, { dst := some 144, op := Op.load 51 (Operand.tmp 143), type := 51, pos := "law.go:203", after := #[{ on := 2, ground := Ground.data }], guard := none }, { dst := some 145, op := Op.move (Operand.tmp 19), type := 3, pos := "law.go:203", after := #[], guard := none }, { dst := some 146, op := Op.move (Operand.tmp 14), type := 55, pos := "law.go:203", after := #[], guard := none }, { dst := some 147, op := Op.move (Operand.tmp 18), type := 57, pos := "law.go:203", after := #[], guard := none }, { dst := some 148, op := Op.nilCheck (Operand.tmp 147), type := 0, pos := "law.go:203", after := #[{ on := 6, ground := Ground.data }], guard := none }, { dst := some 149, op := Op.fieldAddr 53 (Operand.tmp 148) 6, type := 0, pos := "law.go:203", after := #[{ on := 7, ground := Ground.data }], guard := none }, { dst := some 150, op := Op.load 51 (Operand.tmp 149), type := 51, pos := "law.go:203", after := #[{ on := 8, ground := Ground.data }], guard := none }, { dst := some 151, op := Op.move (Operand.tmp 19), type := 3, pos := "law.go:203", after := #[], guard := none }, { dst := some 152, op := Op.indexAddr 51 (Operand.tmp 150) (Operand.tmp 151), type := 0, pos := "law.go:203", after := #[{ on := 9, ground := Ground.data }, { on := 10, ground := Ground.data }], guard := none }, { dst := some 153, op := Op.load 3 (Operand.tmp 152), type := 3, pos := "law.go:203", after := #[{ on := 11, ground := Ground.data }], guard := none }, { dst := some 154, op := Op.call { callee := Callee.value (Operand.tmp 146), args := #[Operand.tmp 153], argTypes := #[3] }, type := 3, pos := "law.go:203", after := #[{ on := 5, ground := Ground.data }, { on := 12, ground := Ground.data }], guard := none }, { dst := some 155, op := Op.indexAddr 51 (Operand.tmp 144) (Operand.tmp 145), type := 0, pos := "law.go:203", after := #[{ on := 3, ground := Ground.data }, { on := 4, ground := Ground.data }, { on := 0, ground := Ground.phase }, { on := 1, ground := Ground.phase }, { on := 2, ground := Ground.phase }, { on := 3, ground := Ground.phase }, { on := 4, ground := Ground.phase }, { on := 5, ground := Ground.phase }, { on := 6, ground := Ground.phase }, { on := 7, ground := Ground.phase }, { on := 8, ground := Ground.phase }, { on := 9, ground := Ground.phase }, { on := 10, ground := Ground.phase }, { on := 11, ground := Ground.phase }, { on := 12, ground := Ground.phase }, { on := 13, ground := Ground.phase }], guard := none }, { dst := none, op := Op.store 3 (Operand.tmp 155) (Operand.tmp 154), type := 0, pos := "law.go:203", after := #[{ on := 14, ground := Ground.data }, { on := 13, ground := Ground.data }, { on := 13, ground := Ground.chain }, { on := 0, ground := Ground.phase }, { on := 1, ground := Ground.phase }, { on := 2, ground := Ground.phase }, { on := 3, ground := Ground.phase }, { on := 4, ground := Ground.phase }, { on := 5, ground := Ground.phase }, { on := 6, ground := Ground.phase }, { on := 7, ground := Ground.phase }, { on := 8, ground := Ground.phase }, { on := 9, ground := Ground.phase }, { on := 10, ground := Ground.phase }, { on := 11, ground := Ground.phase }, { on := 12, ground := Ground.phase }, { on := 13, ground := Ground.phase }], guard := none }]
/-- What is known of each temporary. -/
def G_rn26_ok (g o h m an ac gu gv : Nat) (u v x : Int) : Tmp → Value → World → Prop
  | 141, xx, _ => xx = .pointer (some ⟨g, o, none⟩)
  | 142, xx, _ => xx = .pointer (some ⟨g, o, none⟩)
  | 143, xx, _ => xx = .pointer (some ⟨g, o + 6, none⟩)
  | 144, xx, _ => xx = .slice (some ⟨h, 0, none⟩) an ac
  | 145, xx, _ => xx = .int .i64 (m : Nat)
  | 146, xx, _ => xx = .func (.func 9) #[] #[.pointer (some ⟨gu, 0, none⟩), .pointer (some ⟨gv, 0, none⟩)]
  | 147, xx, _ => xx = .pointer (some ⟨g, o, none⟩)
  | 148, xx, _ => xx = .pointer (some ⟨g, o, none⟩)
  | 149, xx, _ => xx = .pointer (some ⟨g, o + 6, none⟩)
  | 150, xx, _ => xx = .slice (some ⟨h, 0, none⟩) an ac
  | 151, xx, _ => xx = .int .i64 (m : Nat)
  | 152, xx, _ => xx = .pointer (some ⟨h, m, none⟩)
  | 153, xx, _ => xx = .int .i64 x
  | 154, xx, _ => xx = .int .i64 (swp u v x)
  | 155, xx, _ => xx = .pointer (some ⟨h, m, none⟩)
  | _, _, _ => True
set_option maxHeartbeats 1000000 in
set_option maxRecDepth 100000 in
theorem rn26_ok {Q : Exit → Act → World → Prop} {a0 : Act} {wa : World} {g o h m an ac gu gv : Nat} {u v x : Int} (hz : a0.tmps.size = 203) (b18 : a0.eval (.tmp 18) = .pointer (some ⟨g, o, none⟩)) (b19 : a0.eval (.tmp 19) = .int .i64 (m : Nat)) (b14 : a0.eval (.tmp 14) = .func (.func 9) #[] #[.pointer (some ⟨gu, 0, none⟩), .pointer (some ⟨gv, 0, none⟩)])
    (a6 : wa.cell? ⟨g, o + 6, none⟩ = some (.slice (some ⟨h, 0, none⟩) an ac)) (ca : wa.cell? ⟨h, m, none⟩ = some (.int .i64 x)) (cu : wa.cell? ⟨gu, 0, none⟩ = some (.int .i64 u)) (cv : wa.cell? ⟨gv, 0, none⟩ = some (.int .i64 v)) (f0 : wa.frozen? ⟨h, m, none⟩ = false) (hm : (m : Int) < (an : Int))
    (hend : ∀ s : Tmp → Value, Q .normal (overlay a0 (dstsOf ops_rn26_ok) s) (wa.drew.setCell ⟨h, m, none⟩ (.int .i64 (swp u v x)))) : (Code.region 26 ops_rn26_ok true).wp Try.prog Q a0 wa := by
  have a6 : wa.drew.cell? ⟨g, o + 6, none⟩ = some (.slice (some ⟨h, 0, none⟩) an ac) := a6
  have ca : wa.drew.cell? ⟨h, m, none⟩ = some (.int .i64 x) := ca
  have cu : wa.drew.cell? ⟨gu, 0, none⟩ = some (.int .i64 u) := cu
  have cv : wa.drew.cell? ⟨gv, 0, none⟩ = some (.int .i64 v) := cv
  have f0 : wa.drew.frozen? ⟨h, m, none⟩ = false := f0
  refine L.wp_region_eachL (by kernel_rfl) (fun _ tt yv _ => G_rn26_ok g o h m an ac gu gv u v x tt yv wa) (fun l W => W = if l 15 = true then wa.drew.setCell ⟨h, m, none⟩ (.int .i64 (swp u v x)) else wa.drew) (by rw [hz]; kernel_rfl) rfl ?_ ?_
  · refine And.intro ?_ (And.intro ?_ (And.intro ?_ (And.intro ?_ (And.intro ?_ (And.intro ?_ (And.intro ?_ (And.intro ?_ (And.intro ?_ (And.intro ?_ (And.intro ?_ (And.intro ?_ (And.intro ?_ (And.intro ?_ (And.intro ?_ (And.intro ?_ trivial)))))))))))))))
    · refine L.asked_pure rfl rfl (fun _ _ h => h) (fun _ _ _ _ _ h => h) (fun _ _ _ => rfl) (fun l a W H => ?_)
      have e18 : a.eval (.tmp 18) = .pointer (some ⟨g, o, none⟩) := (H.base 18 rfl).trans b18
      exact run_move rfl e18
    · refine L.asked_pure rfl rfl (fun _ _ h => h) (fun _ _ _ _ _ h => h) (fun _ _ _ => rfl) (fun l a W H => ?_)
      have e141 : a.eval (.tmp 141) = .pointer (some ⟨g, o, none⟩) := H.facts 141 rfl
      (simp only [execOp]; try simp only [Option.map]); (try simp only [List.map_toArray, List.map_cons, List.map_nil]); (simp only [e141]; go_simp)
      all_goals (try first | go_num | omega | (rw [IntKind.wrap_i64]; omega) | (rw [IntKind.wrap_u8]; omega))
    · refine L.asked_pure rfl rfl (fun _ _ h => h) (fun _ _ _ _ _ h => h) (fun _ _ _ => rfl) (fun l a W H => ?_)
      have e142 : a.eval (.tmp 142) = .pointer (some ⟨g, o, none⟩) := H.facts 142 rfl
      (simp only [execOp]; try simp only [Option.map]); (try simp only [List.map_toArray, List.map_cons, List.map_nil]); (simp only [e142]; go_simp)
      all_goals (try first | go_num | omega | (rw [IntKind.wrap_i64]; omega) | (rw [IntKind.wrap_u8]; omega))
    · refine L.asked_pure rfl rfl (fun _ _ h => h) (fun _ _ _ _ _ h => h) (fun _ _ _ => rfl) (fun l a W H => ?_)
      have n15 : l 15 = false := by
        cases hs : l 15 with
        | false => rfl
        | true =>
          have h1 := (H.closed 15 3 (by rfl) hs)
          rw [H.new] at h1
          cases h1
      have hW : wa.drew = W := (H.s.trans (by simp only [n15, if_false, Bool.false_eq_true])).symm
      subst hW
      have e143 : a.eval (.tmp 143) = .pointer (some ⟨g, o + 6, none⟩) := H.facts 143 rfl
      (simp only [execOp]; try simp only [Option.map]); (try simp only [List.map_toArray, List.map_cons, List.map_nil]); (simp only [e143]; go_simp)
      all_goals (try first | go_num | omega | (rw [IntKind.wrap_i64]; omega) | (rw [IntKind.wrap_u8]; omega))
    · refine L.asked_pure rfl rfl (fun _ _ h => h) (fun _ _ _ _ _ h => h) (fun _ _ _ => rfl) (fun l a W H => ?_)
      have e19 : a.eval (.tmp 19) = .int .i64 (m : Nat) := (H.base 19 rfl).trans b19
      exact run_move rfl e19
    · refine L.asked_pure rfl rfl (fun _ _ h => h) (fun _ _ _ _ _ h => h) (fun _ _ _ => rfl) (fun l a W H => ?_)
      have e14 : a.eval (.tmp 14) = .func (.func 9) #[] #[.pointer (some ⟨gu, 0, none⟩), .pointer (some ⟨gv, 0, none⟩)] := (H.base 14 rfl).trans b14
      exact run_move rfl e14
    · refine L.asked_pure rfl rfl (fun _ _ h => h) (fun _ _ _ _ _ h => h) (fun _ _ _ => rfl) (fun l a W H => ?_)
      have e18 : a.eval (.tmp 18) = .pointer (some ⟨g, o, none⟩) := (H.base 18 rfl).trans b18
      exact run_move rfl e18
    · refine L.asked_pure rfl rfl (fun _ _ h => h) (fun _ _ _ _ _ h => h) (fun _ _ _ => rfl) (fun l a W H => ?_)
      have e147 : a.eval (.tmp 147) = .pointer (some ⟨g, o, none⟩) := H.facts 147 rfl
      (simp only [execOp]; try simp only [Option.map]); (try simp only [List.map_toArray, List.map_cons, List.map_nil]); (simp only [e147]; go_simp)
      all_goals (try first | go_num | omega | (rw [IntKind.wrap_i64]; omega) | (rw [IntKind.wrap_u8]; omega))
    · refine L.asked_pure rfl rfl (fun _ _ h => h) (fun _ _ _ _ _ h => h) (fun _ _ _ => rfl) (fun l a W H => ?_)
      have e148 : a.eval (.tmp 148) = .pointer (some ⟨g, o, none⟩) := H.facts 148 rfl
      (simp only [execOp]; try simp only [Option.map]); (try simp only [List.map_toArray, List.map_cons, List.map_nil]); (simp only [e148]; go_simp)
      all_goals (try first | go_num | omega | (rw [IntKind.wrap_i64]; omega) | (rw [IntKind.wrap_u8]; omega))
    · refine L.asked_pure rfl rfl (fun _ _ h => h) (fun _ _ _ _ _ h => h) (fun _ _ _ => rfl) (fun l a W H => ?_)
      have n15 : l 15 = false := by
        cases hs : l 15 with
        | false => rfl
        | true =>
          have h1 := (H.closed 15 9 (by rfl) hs)
          rw [H.new] at h1
          cases h1
      have hW : wa.drew = W := (H.s.trans (by simp only [n15, if_false, Bool.false_eq_true])).symm
      subst hW
      have e149 : a.eval (.tmp 149) = .pointer (some ⟨g, o + 6, none⟩) := H.facts 149 rfl
      (simp only [execOp]; try simp only [Option.map]); (try simp only [List.map_toArray, List.map_cons, List.map_nil]); (simp only [e149]; go_simp)
      all_goals (try first | go_num | omega | (rw [IntKind.wrap_i64]; omega) | (rw [IntKind.wrap_u8]; omega))
    · refine L.asked_pure rfl rfl (fun _ _ h => h) (fun _ _ _ _ _ h => h) (fun _ _ _ => rfl) (fun l a W H => ?_)
      have e19 : a.eval (.tmp 19) = .int .i64 (m : Nat) := (H.base 19 rfl).trans b19
      exact run_move rfl e19
    · refine L.asked_pure rfl rfl (fun _ _ h => h) (fun _ _ _ _ _ h => h) (fun _ _ _ => rfl) (fun l a W H => ?_)
      have e150 : a.eval (.tmp 150) = .slice (some ⟨h, 0, none⟩) an ac := H.facts 150 rfl
      have e151 : a.eval (.tmp 151) = .int .i64 (m : Nat) := H.facts 151 rfl
      (simp only [execOp]; try simp only [Option.map]); (try simp only [List.map_toArray, List.map_cons, List.map_nil]); (simp only [e150, e151]; go_simp)
      all_goals (try first | go_num | omega | (rw [IntKind.wrap_i64]; omega) | (rw [IntKind.wrap_u8]; omega))
    · refine L.asked_pure rfl rfl (fun _ _ h => h) (fun _ _ _ _ _ h => h) (fun _ _ _ => rfl) (fun l a W H => ?_)
      have n15 : l 15 = false := by
        cases hs : l 15 with
        | false => rfl
        | true =>
          have h1 := (H.closed 15 12 (by rfl) hs)
          rw [H.new] at h1
          cases h1
      have hW : wa.drew = W := (H.s.trans (by simp only [n15, if_false, Bool.false_eq_true])).symm
      subst hW
      have e152 : a.eval (.tmp 152) = .pointer (some ⟨h, m, none⟩) := H.facts 152 rfl
      (simp only [execOp]; try simp only [Option.map]); (try simp only [List.map_toArray, List.map_cons, List.map_nil]); (simp only [e152]; go_simp)
      all_goals (try first | go_num | omega | (rw [IntKind.wrap_i64]; omega) | (rw [IntKind.wrap_u8]; omega))
    · refine L.asked_clos (cap := #[.pointer (some ⟨gu, 0, none⟩), .pointer (some ⟨gv, 0, none⟩)]) rfl Try.func9 (by kernel_rfl) (by kernel_rfl) rfl rfl (fun l a W H => ?_)
      have n15 : l 15 = false := by
        cases hs : l 15 with
        | false => rfl
        | true =>
          have h1 := (H.closed 15 13 (by rfl) hs)
          rw [H.new] at h1
          cases h1
      have hW : wa.drew = W := (H.s.trans (by simp only [n15, if_false, Bool.false_eq_true])).symm
      subst hW
      have e146 : a.eval (.tmp 146) = .func (.func 9) #[] #[.pointer (some ⟨gu, 0, none⟩), .pointer (some ⟨gv, 0, none⟩)] := H.facts 146 rfl
      have e153 : a.eval (.tmp 153) = .int .i64 x := H.facts 153 rfl
      refine ⟨e146, ?_⟩
      simp only [List.map_toArray, List.map_cons, List.map_nil, e153]
      show Calls Try.prog 9 #[.int .i64 x, .pointer (some ⟨gu, 0, none⟩), .pointer (some ⟨gv, 0, none⟩)] _ _
      refine (as_any gu gv u v x _ cu cv).mono ?_
      rintro e w' ⟨rfl, rfl⟩
      exact ⟨_, rfl, rfl, by simp [upd, n15], fun _ _ _ h => h⟩
    · refine L.asked_pure rfl rfl (fun _ _ h => h) (fun _ _ _ _ _ h => h) (fun _ _ _ => rfl) (fun l a W H => ?_)
      have e144 : a.eval (.tmp 144) = .slice (some ⟨h, 0, none⟩) an ac := H.facts 144 rfl
      have e145 : a.eval (.tmp 145) = .int .i64 (m : Nat) := H.facts 145 rfl
      (simp only [execOp]; try simp only [Option.map]); (try simp only [List.map_toArray, List.map_cons, List.map_nil]); (simp only [e144, e145]; go_simp)
      all_goals (try first | go_num | omega | (rw [IntKind.wrap_i64]; omega) | (rw [IntKind.wrap_u8]; omega))
    · refine L.asked_skip rfl rfl (fun l a W H => ?_)
      have n15 : l 15 = false := H.new
      have hW : wa.drew = W := (H.s.trans (by simp only [n15, if_false, Bool.false_eq_true])).symm
      subst hW
      have e155 : a.eval (.tmp 155) = .pointer (some ⟨h, m, none⟩) := H.facts 155 rfl
      have e154 : a.eval (.tmp 154) = .int .i64 (swp u v x) := H.facts 154 rfl
      refine ⟨wa.drew.setCell ⟨h, m, none⟩ (.int .i64 (swp u v x)), ?_, ?_, fun _ _ h => h⟩
      · (simp only [execOp]; try simp only [Option.map]); (try simp only [List.map_toArray, List.map_cons, List.map_nil])
        simp only [e155, e154]
        go_simp
      · simp [upd]
  · intro l s W hall hS hs
    rw [if_pos (hall 15 (by decide))] at hS
    have hS := Eq.symm hS
    subst hS
    exact hend s
/-- What region 7 works out. -/
def val7 (pf : Nat) (p xa xb n ya yb U V : Int) : Tmp → Value
  | 38 => .pointer (some ⟨pf, 0, none⟩)
  | 39 => .int .i64 p
  | 40 => .int .u8 xa
  | 41 => .int .i64 xa
  | 42 => .int .i64 n
  | 43 => .int .i64 ya
  | 44 => .int .i64 U
  | 45 => .pointer (some ⟨pf, 0, none⟩)
  | 46 => .int .i64 p
  | 47 => .int .u8 xb
  | 48 => .int .i64 xb
  | 49 => .int .i64 n
  | 50 => .int .i64 yb
  | 51 => .int .i64 V
  | _ => undef
def pure7 : List (Nat × Tmp) := [(0, 38), (1, 39), (2, 40), (3, 41), (4, 42), (5, 43), (6, 44), (7, 45), (8, 46), (9, 47), (10, 48), (11, 49), (12, 50), (13, 51)]
structure R7 (w0 : World) (vl : Tmp → Value) (U V : Int) (l : Nat → Bool) (s : Tmp → Value) (W : World) : Prop where
  below : Below w0.heap.size w0 W
  pure : ∀ x ∈ pure7, l x.1 = true → s x.2 = vl x.2
  bu : l 14 = true → ∃ q, s 12 = .pointer (some ⟨q, 0, none⟩) ∧ w0.heap.size ≤ q ∧ W.heap[q]? = some (Obj.cells #[.int .i64 (if l 16 = true then U else 0)] 3 (0, 0))
  bv : l 15 = true → ∃ q, s 13 = .pointer (some ⟨q, 0, none⟩) ∧ w0.heap.size ≤ q ∧ W.heap[q]? = some (Obj.cells #[.int .i64 (if l 17 = true then V else 0)] 3 (0, 0))
  ne : l 14 = true → l 15 = true → s 12 ≠ s 13
theorem pure7_one : ∀ x ∈ pure7, ∀ y ∈ pure7, (x.1 = y.1 ↔ x.2 = y.2) := by decide
theorem pure7_ne : ∀ x ∈ pure7, x.1 < 14 ∧ x.2 ≠ 12 ∧ x.2 ≠ 13 := by decide
theorem R7.step {w0 : World} {vl : Tmp → Value} {U V : Int} {l : Nat → Bool} {s : Tmp → Value} {W : World} (h : R7 w0 vl U V l s W) {j : Nat} {d : Tmp} (hj : (j, d) ∈ pure7) : R7 w0 vl U V (upd l j) (R.put1 s (some d) (vl d)) W := by
  obtain ⟨h14, h12, h13⟩ := pure7_ne _ hj
  simp only at h14 h12 h13
  have u14 : upd l j 14 = l 14 := if_neg (by omega)
  have u15 : upd l j 15 = l 15 := if_neg (by omega)
  have u16 : upd l j 16 = l 16 := if_neg (by omega)
  have u17 : upd l j 17 = l 17 := if_neg (by omega)
  have p12 : R.put1 s (some d) (vl d) 12 = s 12 := if_neg (by simpa using h12)
  have p13 : R.put1 s (some d) (vl d) 13 = s 13 := if_neg (by simpa using h13)
  refine ⟨h.below, fun x hx hl => ?_, by rw [u14, u16, p12]; exact h.bu, by rw [u15, u17, p13]; exact h.bv, by rw [u14, u15, p12, p13]; exact h.ne⟩
  by_cases e : x.1 = j
  · have e2 : x.2 = d := (pure7_one x hx (j, d) hj).1 e
    rw [e2]
    exact if_pos rfl
  · have e2 : x.2 ≠ d := fun e3 => e ((pure7_one x hx (j, d) hj).2 e3)
    have hl' : l x.1 = true := by
      have : upd l j x.1 = l x.1 := if_neg e
      rw [← this]
      exact hl
    show (if some d = some x.2 then vl d else s x.2) = _
    rw [if_neg (by simpa using fun e3 => e2 e3.symm)]
    exact h.pure x hx hl'
def ops_rn7 : Array Oper := #[{ dst := some 38, op := Op.fieldAddr 31 (Operand.tmp 9) 0, type := 0, pos := "law.go:179", after := #[], guard := none }, { dst := some 39, op := Op.load 3 (Operand.tmp 38), type := 3, pos := "law.go:179", after := #[{ on := 0, ground := Ground.data }], guard := none }, { dst := some 40, op := Op.move (Operand.tmp 2), type := 5, pos := "law.go:179", after := #[], guard := none }, { dst := some 41, op := Op.convert 5 3 (Operand.tmp 40), type := 3, pos := "law.go:179", after := #[{ on := 2, ground := Ground.data }], guard := none }, { dst := some 42, op := Op.move (Operand.tmp 11), type := 3, pos := "law.go:179", after := #[], guard := none }, { dst := some 43, op := Op.binOp BinOp.rem 3 (Operand.tmp 41) (Operand.tmp 42) 3, type := 3, pos := "law.go:179", after := #[{ on := 3, ground := Ground.data }, { on := 4, ground := Ground.data }], guard := none }, { dst := some 44, op := Op.binOp BinOp.add 3 (Operand.tmp 39) (Operand.tmp 43) 3, type := 3, pos := "law.go:179", after := #[{ on := 1, ground := Ground.data }, { on := 5, ground := Ground.data }], guard := none }, { dst := some 45, op := Op.fieldAddr 31 (Operand.tmp 9) 0, type := 0, pos := "law.go:179", after := #[{ on := 16, ground := Ground.gcOnly Departure.lateStores }], guard := none }, { dst := some 46, op := Op.load 3 (Operand.tmp 45), type := 3, pos := "law.go:179", after := #[{ on := 7, ground := Ground.data }, { on := 16, ground := Ground.gcOnly Departure.lateStores }], guard := none }, { dst := some 47, op := Op.move (Operand.tmp 3), type := 5, pos := "law.go:179", after := #[{ on := 16, ground := Ground.gcOnly Departure.lateStores }], guard := none }, { dst := some 48, op := Op.convert 5 3 (Operand.tmp 47), type := 3, pos := "law.go:179", after := #[{ on := 9, ground := Ground.data }, { on := 16, ground := Ground.gcOnly Departure.lateStores }], guard := none }, { dst := some 49, op := Op.move (Operand.tmp 11), type := 3, pos := "law.go:179", after := #[{ on := 16, ground := Ground.gcOnly Departure.lateStores }], guard := none }, { dst := some 50, op := Op.binOp BinOp.rem 3 (Operand.tmp 48) (Operand.tmp 49) 3, type := 3, pos := "law.go:179", after := #[{ on := 10, ground := Ground.data }, { on := 11, ground := Ground.data }, { on := 16, ground := Ground.gcOnly Departure.lateStores }], guard := none }, { dst := some 51, op := Op.binOp BinOp.add 3 (Operand.tmp 46) (Operand.tmp 50) 3, type := 3, pos := "law.go:179", after := #[{ on := 8, ground := Ground.data }, { on := 12, ground := Ground.data }, { on := 16, ground := Ground.gcOnly Departure.lateStores }], guard := none }, { dst := some 12, op := Op.alloc 3, type := 0, pos := "law.go:179", after := #[], guard := none }, { dst := some 13, op := Op.alloc 3, type := 0, pos := "law.go:179", after := #[], guard := none }, { dst := none, op := Op.store 3 (Operand.tmp 12) (Operand.tmp 44), type := 0, pos := "law.go:179", after := #[{ on := 14, ground := Ground.data }, { on := 6, ground := Ground.data }, { on := 0, ground := Ground.phase }, { on := 1, ground := Ground.phase }, { on := 2, ground := Ground.phase }, { on := 3, ground := Ground.phase }, { on := 4, ground := Ground.phase }, { on := 5, ground := Ground.phase }, { on := 6, ground := Ground.phase }, { on := 7, ground := Ground.textOnly Departure.lateStores }, { on := 8, ground := Ground.textOnly Departure.lateStores }, { on := 9, ground := Ground.textOnly Departure.lateStores }, { on := 10, ground := Ground.textOnly Departure.lateStores }, { on := 11, ground := Ground.textOnly Departure.lateStores }, { on := 12, ground := Ground.textOnly Departure.lateStores }, { on := 13, ground := Ground.textOnly Departure.lateStores }, { on := 14, ground := Ground.phase }, { on := 15, ground := Ground.phase }], guard := none }, { dst := none, op := Op.store 3 (Operand.tmp 13) (Operand.tmp 51), type := 0, pos := "law.go:179", after := #[{ on := 15, ground := Ground.data }, { on := 13, ground := Ground.data }, { on := 16, ground := Ground.chain }, { on := 0, ground := Ground.phase }, { on := 1, ground := Ground.phase }, { on := 2, ground := Ground.phase }, { on := 3, ground := Ground.phase }, { on := 4, ground := Ground.phase }, { on := 5, ground := Ground.phase }, { on := 6, ground := Ground.phase }, { on := 7, ground := Ground.phase }, { on := 8, ground := Ground.phase }, { on := 9, ground := Ground.phase }, { on := 10, ground := Ground.phase }, { on := 11, ground := Ground.phase }, { on := 12, ground := Ground.phase }, { on := 13, ground := Ground.phase }, { on := 14, ground := Ground.phase }, { on := 15, ground := Ground.phase }, { on := 16, ground := Ground.phase }], guard := none }]
set_option maxHeartbeats 1000000 in
set_option maxRecDepth 100000 in
theorem rn7_ok {Q : Exit → Act → World → Prop} {a0 : Act} {w : World} {pf : Nat} {p xa xb n ya yb U V : Int} (hz : a0.tmps.size = 203) (b9 : a0.eval (.tmp 9) = .pointer (some ⟨pf, 0, none⟩)) (b2 : a0.eval (.tmp 2) = .int .u8 xa) (b3 : a0.eval (.tmp 3) = .int .u8 xb) (b11 : a0.eval (.tmp 11) = .int .i64 n)
    (c0 : w.cell? ⟨pf, 0, none⟩ = some (.int .i64 p)) (hxa : 0 ≤ xa ∧ xa < 256) (hxb : 0 ≤ xb ∧ xb < 256) (hn0 : (n == 0) = false) (hya : xa.tmod n = ya) (hyb : xb.tmod n = yb) (hU : p + ya = U) (hV : p + yb = V) (hUb : 0 ≤ U ∧ U < 100) (hVb : 0 ≤ V ∧ V < 100)
    (hend : ∀ (q : Tmp → Value) (gu gv : Nat) (W : World), q 12 = .pointer (some ⟨gu, 0, none⟩) → q 13 = .pointer (some ⟨gv, 0, none⟩) → w.heap.size ≤ gu → w.heap.size ≤ gv → W.heap[gu]? = some (Obj.cells #[.int .i64 U] 3 (0, 0)) → W.heap[gv]? = some (Obj.cells #[.int .i64 V] 3 (0, 0)) → Below w.heap.size w W → Q .normal (overlay a0 (dstsOf ops_rn7) q) W) : (Code.region 7 ops_rn7 true).wp Try.prog Q a0 w := by
  refine R.wp_region_eachR (by kernel_rfl) (R7 w (val7 pf p xa xb n ya yb U V) U V) (by rw [hz]; kernel_rfl) ⟨(Below.refl _ _).drew, (fun _ _ e => by cases e), (fun e => by cases e), (fun e => by cases e), (fun e => by cases e)⟩ ?_ ?_
  · refine And.intro ?_ (And.intro ?_ (And.intro ?_ (And.intro ?_ (And.intro ?_ (And.intro ?_ (And.intro ?_ (And.intro ?_ (And.intro ?_ (And.intro ?_ (And.intro ?_ (And.intro ?_ (And.intro ?_ (And.intro ?_ (And.intro ?_ (And.intro ?_ (And.intro ?_ (And.intro ?_ trivial)))))))))))))))))
    · refine R.asked_any rfl rfl (fun l a W H => ?_)
      have e9 : a.eval (.tmp 9) = .pointer (some ⟨pf, 0, none⟩) := (H.base 9 rfl).trans b9
      refine ⟨.pointer (some ⟨pf, 0, none⟩), W, ?_, H.r.step (j := 0) (d := 38) (by decide)⟩
      clear H
      simp only [execOp, e9]
      go_simp
    · refine R.asked_any rfl rfl (fun l a W H => ?_)
      have e38 : a.eval (.tmp 38) = .pointer (some ⟨pf, 0, none⟩) := H.r.pure (0, 38) (by decide) (H.deps ⟨0, .data⟩ (by simp) rfl)
      have cc := cell_below H.r.below c0
      refine ⟨.int .i64 p, W, ?_, H.r.step (j := 1) (d := 39) (by decide)⟩
      clear H
      simp only [execOp, e38]
      go_simp
    · refine R.asked_any rfl rfl (fun l a W H => ?_)
      have e2 : a.eval (.tmp 2) = .int .u8 xa := (H.base 2 rfl).trans b2
      refine ⟨.int .u8 xa, W, ?_, H.r.step (j := 2) (d := 40) (by decide)⟩
      exact run_move rfl e2
    · refine R.asked_any rfl rfl (fun l a W H => ?_)
      have e40 : a.eval (.tmp 40) = .int .u8 xa := H.r.pure (2, 40) (by decide) (H.deps ⟨2, .data⟩ (by simp) rfl)
      refine ⟨.int .i64 xa, W, ?_, H.r.step (j := 3) (d := 41) (by decide)⟩
      clear H
      simp only [execOp, e40]
      go_simp
      all_goals (rw [IntKind.wrap_i64]; omega)
    · refine R.asked_any rfl rfl (fun l a W H => ?_)
      have e11 : a.eval (.tmp 11) = .int .i64 n := (H.base 11 rfl).trans b11
      refine ⟨.int .i64 n, W, ?_, H.r.step (j := 4) (d := 42) (by decide)⟩
      exact run_move rfl e11
    · refine R.asked_any rfl rfl (fun l a W H => ?_)
      have e41 : a.eval (.tmp 41) = .int .i64 xa := H.r.pure (3, 41) (by decide) (H.deps ⟨3, .data⟩ (by simp) rfl)
      have e42 : a.eval (.tmp 42) = .int .i64 n := H.r.pure (4, 42) (by decide) (H.deps ⟨4, .data⟩ (by simp) rfl)
      refine ⟨.int .i64 ya, W, ?_, H.r.step (j := 5) (d := 43) (by decide)⟩
      clear H
      simp only [execOp, e41, e42]
      go_simp
      all_goals (try simpa using hn0)
    · refine R.asked_any rfl rfl (fun l a W H => ?_)
      have e39 : a.eval (.tmp 39) = .int .i64 p := H.r.pure (1, 39) (by decide) (H.deps ⟨1, .data⟩ (by simp) rfl)
      have e43 : a.eval (.tmp 43) = .int .i64 ya := H.r.pure (5, 43) (by decide) (H.deps ⟨5, .data⟩ (by simp) rfl)
      refine ⟨.int .i64 U, W, ?_, H.r.step (j := 6) (d := 44) (by decide)⟩
      clear H
      simp only [execOp, e39, e43]
      go_simp
      all_goals (try first | omega | (rw [IntKind.wrap_i64]; omega))
    · refine R.asked_any rfl rfl (fun l a W H => ?_)
      have e9 : a.eval (.tmp 9) = .pointer (some ⟨pf, 0, none⟩) := (H.base 9 rfl).trans b9
      refine ⟨.pointer (some ⟨pf, 0, none⟩), W, ?_, H.r.step (j := 7) (d := 45) (by decide)⟩
      clear H
      simp only [execOp, e9]
      go_simp
    · refine R.asked_any rfl rfl (fun l a W H => ?_)
      have e45 : a.eval (.tmp 45) = .pointer (some ⟨pf, 0, none⟩) := H.r.pure (7, 45) (by decide) (H.deps ⟨7, .data⟩ (by simp) rfl)
      have cc := cell_below H.r.below c0
      refine ⟨.int .i64 p, W, ?_, H.r.step (j := 8) (d := 46) (by decide)⟩
      clear H
      simp only [execOp, e45]
      go_simp
    · refine R.asked_any rfl rfl (fun l a W H => ?_)
      have e3 : a.eval (.tmp 3) = .int .u8 xb := (H.base 3 rfl).trans b3
      refine ⟨.int .u8 xb, W, ?_, H.r.step (j := 9) (d := 47) (by decide)⟩
      exact run_move rfl e3
    · refine R.asked_any rfl rfl (fun l a W H => ?_)
      have e47 : a.eval (.tmp 47) = .int .u8 xb := H.r.pure (9, 47) (by decide) (H.deps ⟨9, .data⟩ (by simp) rfl)
      refine ⟨.int .i64 xb, W, ?_, H.r.step (j := 10) (d := 48) (by decide)⟩
      clear H
      simp only [execOp, e47]
      go_simp
      all_goals (rw [IntKind.wrap_i64]; omega)
    · refine R.asked_any rfl rfl (fun l a W H => ?_)
      have e11 : a.eval (.tmp 11) = .int .i64 n := (H.base 11 rfl).trans b11
      refine ⟨.int .i64 n, W, ?_, H.r.step (j := 11) (d := 49) (by decide)⟩
      exact run_move rfl e11
    · refine R.asked_any rfl rfl (fun l a W H => ?_)
      have e48 : a.eval (.tmp 48) = .int .i64 xb := H.r.pure (10, 48) (by decide) (H.deps ⟨10, .data⟩ (by simp) rfl)
      have e49 : a.eval (.tmp 49) = .int .i64 n := H.r.pure (11, 49) (by decide) (H.deps ⟨11, .data⟩ (by simp) rfl)
      refine ⟨.int .i64 yb, W, ?_, H.r.step (j := 12) (d := 50) (by decide)⟩
      clear H
      simp only [execOp, e48, e49]
      go_simp
      all_goals (try simpa using hn0)
    · refine R.asked_any rfl rfl (fun l a W H => ?_)
      have e46 : a.eval (.tmp 46) = .int .i64 p := H.r.pure (8, 46) (by decide) (H.deps ⟨8, .data⟩ (by simp) rfl)
      have e50 : a.eval (.tmp 50) = .int .i64 yb := H.r.pure (12, 50) (by decide) (H.deps ⟨12, .data⟩ (by simp) rfl)
      refine ⟨.int .i64 V, W, ?_, H.r.step (j := 13) (d := 51) (by decide)⟩
      clear H
      simp only [execOp, e46, e50]
      go_simp
      all_goals (try first | omega | (rw [IntKind.wrap_i64]; omega))
    · refine R.asked_any rfl rfl (fun l a W H => ?_)
      have n16 : l 16 = false := by
        cases hs : l 16 with
        | false => rfl
        | true =>
          have h1 := H.closed 16 14 (by rfl) hs
          rw [H.new] at h1
          cases h1
      have hbx := bel1' W (.cells #[.int .i64 0] 3)
      refine ⟨.pointer (some ⟨W.heap.size, 0, none⟩), W.alloc (.cells #[.int .i64 0] 3), ?_, ?_⟩
      · simp only [execOp]
        clear H n16 hbx
        go_simp
      · have u15 : upd l 14 15 = l 15 := if_neg (by omega)
        have u16 : upd l 14 16 = l 16 := if_neg (by omega)
        have u17 : upd l 14 17 = l 17 := if_neg (by omega)
        have p13 : R.put1 (fun t => a.eval (.tmp t)) (some 12) (.pointer (some ⟨W.heap.size, 0, none⟩)) 13 = a.eval (.tmp 13) := if_neg (by decide)
        have p12 : R.put1 (fun t => a.eval (.tmp t)) (some 12) (.pointer (some ⟨W.heap.size, 0, none⟩)) 12 = .pointer (some ⟨W.heap.size, 0, none⟩) := if_pos rfl
        have hlt : l 15 = true → ∀ q, a.eval (.tmp 13) = .pointer (some ⟨q, 0, none⟩) → q < W.heap.size := by
          intro e q hq
          obtain ⟨q2, h1, _, h3⟩ := H.r.bv e
          have h1 : a.eval (.tmp 13) = _ := h1
          rw [hq] at h1
          simp only [Value.pointer.injEq, Option.some.injEq, Addr.mk.injEq, and_true] at h1
          rw [h1]
          exact (Array.getElem?_eq_some_iff.1 h3).1
        refine ⟨bel_of H.r.below hbx, fun x hx hl => ?_, ?_, ?_, ?_⟩
        · have hx2 := pure7_ne x hx
          have hl2 : l x.1 = true := by have : upd l 14 x.1 = l x.1 := if_neg (by omega); rw [← this]; exact hl
          show (if some 12 = some x.2 then _ else a.eval (.tmp x.2)) = _
          rw [if_neg (by intro e; simp only [Option.some.injEq] at e; exact hx2.2.1 e.symm)]
          exact H.r.pure x hx hl2
        · intro _
          rw [p12, u16, n16]
          exact ⟨W.heap.size, rfl, H.r.below.size, heap_alloc_new W _⟩
        · rw [u15, p13, u17]
          intro e
          obtain ⟨q2, h1, h2, h3⟩ := H.r.bv e
          exact ⟨q2, h1, h2, (hbx.block q2 (Array.getElem?_eq_some_iff.1 h3).1).trans h3⟩
        · rw [p12, p13]
          intro e1 e2 e3
          have e4 : l 15 = true := by rw [← u15]; exact e2
          have := hlt e4 W.heap.size e3.symm
          omega
    · refine R.asked_any rfl rfl (fun l a W H => ?_)
      have n17 : l 17 = false := by
        cases hs : l 17 with
        | false => rfl
        | true =>
          have h1 := H.closed 17 15 (by rfl) hs
          rw [H.new] at h1
          cases h1
      have hbx := bel1' W (.cells #[.int .i64 0] 3)
      refine ⟨.pointer (some ⟨W.heap.size, 0, none⟩), W.alloc (.cells #[.int .i64 0] 3), ?_, ?_⟩
      · simp only [execOp]
        clear H n17 hbx
        go_simp
      · have u14 : upd l 15 14 = l 14 := if_neg (by omega)
        have u16 : upd l 15 16 = l 16 := if_neg (by omega)
        have u17 : upd l 15 17 = l 17 := if_neg (by omega)
        have p12 : R.put1 (fun t => a.eval (.tmp t)) (some 13) (.pointer (some ⟨W.heap.size, 0, none⟩)) 12 = a.eval (.tmp 12) := if_neg (by decide)
        have p13 : R.put1 (fun t => a.eval (.tmp t)) (some 13) (.pointer (some ⟨W.heap.size, 0, none⟩)) 13 = .pointer (some ⟨W.heap.size, 0, none⟩) := if_pos rfl
        have hlt : l 14 = true → ∀ q, a.eval (.tmp 12) = .pointer (some ⟨q, 0, none⟩) → q < W.heap.size := by
          intro e q hq
          obtain ⟨q2, h1, _, h3⟩ := H.r.bu e
          have h1 : a.eval (.tmp 12) = _ := h1
          rw [hq] at h1
          simp only [Value.pointer.injEq, Option.some.injEq, Addr.mk.injEq, and_true] at h1
          rw [h1]
          exact (Array.getElem?_eq_some_iff.1 h3).1
        refine ⟨bel_of H.r.below hbx, fun x hx hl => ?_, ?_, ?_, ?_⟩
        · have hx2 := pure7_ne x hx
          have hl2 : l x.1 = true := by have : upd l 15 x.1 = l x.1 := if_neg (by omega); rw [← this]; exact hl
          show (if some 13 = some x.2 then _ else a.eval (.tmp x.2)) = _
          rw [if_neg (by intro e; simp only [Option.some.injEq] at e; exact hx2.2.2 e.symm)]
          exact H.r.pure x hx hl2
        · rw [u14, p12, u16]
          intro e
          obtain ⟨q2, h1, h2, h3⟩ := H.r.bu e
          exact ⟨q2, h1, h2, (hbx.block q2 (Array.getElem?_eq_some_iff.1 h3).1).trans h3⟩
        · intro _
          rw [p13, u17, n17]
          exact ⟨W.heap.size, rfl, H.r.below.size, heap_alloc_new W _⟩
        · rw [p13, p12]
          intro e1 e2 e3
          have e4 : l 14 = true := by rw [← u14]; exact e1
          have := hlt e4 W.heap.size e3
          omega
    · refine R.asked_skip rfl rfl (fun l a W H => ?_)
      have y14 : l 14 = true := H.deps ⟨14, .phase⟩ (by simp) rfl
      have y15 : l 15 = true := H.deps ⟨15, .phase⟩ (by simp) rfl
      have es : a.eval (.tmp 44) = .int .i64 U := H.r.pure (6, 44) (by decide) (H.deps ⟨6, .data⟩ (by simp) rfl)
      have nn : l 16 = false := H.new
      obtain ⟨q, h1, h2, h3⟩ := H.r.bu y14
      obtain ⟨q2, k1, k2, k3⟩ := H.r.bv y15
      have hne : q2 ≠ q := fun e => H.r.ne y14 y15 (by rw [h1, k1, e])
      rw [nn] at h3
      simp only [Bool.false_eq_true, if_false] at h3
      have cc : W.cell? ⟨q, 0, none⟩ = some (.int .i64 0) := by rw [cell_of_row _ _ _ _ _ _ h3]; rfl
      have cf : W.frozen? ⟨q, 0, none⟩ = false := frozen_of_row _ _ _ _ _ h3
      have ep : a.eval (.tmp 12) = .pointer (some ⟨q, 0, none⟩) := h1
      refine ⟨W.setCell ⟨q, 0, none⟩ (.int .i64 U), ?_, ?_⟩
      · clear H h1 h2 h3 k1 k2 k3 hne
        simp only [execOp, ep, es]
        go_simp
      · have u14 : upd l 16 14 = l 14 := if_neg (by omega)
        have u15 : upd l 16 15 = l 15 := if_neg (by omega)
        have uo : upd l 16 17 = l 17 := if_neg (by omega)
        have um : upd l 16 16 = true := if_pos rfl
        refine ⟨H.r.below.setCell h2 _, fun x hx hl => ?_, ?_, ?_, by rw [u14, u15]; exact H.r.ne⟩
        · have hx2 := pure7_ne x hx
          have hl2 : l x.1 = true := by have : upd l 16 x.1 = l x.1 := if_neg (by omega); rw [← this]; exact hl
          exact H.r.pure x hx hl2
        · intro _
          rw [um]
          refine ⟨q, h1, h2, ?_⟩
          rw [heap_setCell_same W q 0 _ _ _ h3]
          rfl
        · intro _
          rw [uo]
          refine ⟨q2, k1, k2, ?_⟩
          rw [Below.heap_setCell _ _ _ _ (by simpa using hne)]
          exact k3
    · refine R.asked_skip rfl rfl (fun l a W H => ?_)
      have y14 : l 14 = true := H.deps ⟨14, .phase⟩ (by simp) rfl
      have y15 : l 15 = true := H.deps ⟨15, .phase⟩ (by simp) rfl
      have es : a.eval (.tmp 51) = .int .i64 V := H.r.pure (13, 51) (by decide) (H.deps ⟨13, .data⟩ (by simp) rfl)
      have nn : l 17 = false := H.new
      obtain ⟨q, h1, h2, h3⟩ := H.r.bv y15
      obtain ⟨q2, k1, k2, k3⟩ := H.r.bu y14
      have hne : q2 ≠ q := fun e => H.r.ne y14 y15 (by rw [h1, k1, e])
      rw [nn] at h3
      simp only [Bool.false_eq_true, if_false] at h3
      have cc : W.cell? ⟨q, 0, none⟩ = some (.int .i64 0) := by rw [cell_of_row _ _ _ _ _ _ h3]; rfl
      have cf : W.frozen? ⟨q, 0, none⟩ = false := frozen_of_row _ _ _ _ _ h3
      have ep : a.eval (.tmp 13) = .pointer (some ⟨q, 0, none⟩) := h1
      refine ⟨W.setCell ⟨q, 0, none⟩ (.int .i64 V), ?_, ?_⟩
      · clear H h1 h2 h3 k1 k2 k3 hne
        simp only [execOp, ep, es]
        go_simp
      · have u14 : upd l 17 14 = l 14 := if_neg (by omega)
        have u15 : upd l 17 15 = l 15 := if_neg (by omega)
        have uo : upd l 17 16 = l 16 := if_neg (by omega)
        have um : upd l 17 17 = true := if_pos rfl
        refine ⟨H.r.below.setCell h2 _, fun x hx hl => ?_, ?_, ?_, by rw [u14, u15]; exact H.r.ne⟩
        · have hx2 := pure7_ne x hx
          have hl2 : l x.1 = true := by have : upd l 17 x.1 = l x.1 := if_neg (by omega); rw [← this]; exact hl
          exact H.r.pure x hx hl2
        · intro _
          rw [uo]
          refine ⟨q2, k1, k2, ?_⟩
          rw [Below.heap_setCell _ _ _ _ (by simpa using hne)]
          exact k3
        · intro _
          rw [um]
          refine ⟨q, h1, h2, ?_⟩
          rw [heap_setCell_same W q 0 _ _ _ h3]
          rfl
  · intro l q W hall h
    obtain ⟨gu, h1, h2, h3⟩ := h.bu (hall 14 (by decide))
    obtain ⟨gv, k1, k2, k3⟩ := h.bv (hall 15 (by decide))
    rw [hall 16 (by decide)] at h3
    rw [hall 17 (by decide)] at k3
    exact hend q gu gv W h1 k1 h2 k2 h3 k3 h.below
end Go.Proofs.Ytljnngblhfhhaab
