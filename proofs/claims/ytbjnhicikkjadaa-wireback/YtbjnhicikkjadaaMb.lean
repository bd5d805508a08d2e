/- WireBack's two makers: a right function and right code, each in a box of its own. -/
import Derived.Test.YtbjnhicikkjadaaAn
import Derived.Test.YtbjnhicikkjadaaSr
import Derived.Test.YtbjnhicikkjadaaMade
import Derived.Test.YtbjnhicikkjadaaMd5
import Derived.Test.YtbjnhicikkjadaaOn
namespace Go.Proofs.Ytbjnhicikkjadaa
open Go Go.RowKit Ir Wire

theorem SpecV.below {w w' : World} {v : Value} {a b c : Int} {bs : List Int} (h : SpecV w v a b c bs) (hB : Below w.heap.size w w') : SpecV w' v a b c bs := by
  obtain ⟨u, h1, h2, h3, h4, h5⟩ := h
  exact ⟨u, h1, h2, h3, h4, h5.below hB⟩
theorem keeps_setRow {T : TypeId → Bool} {w : World} {g : Nat} {old cs : Array Value} {t : TypeId} (hg : w.heap[g]? = some (Obj.cells old t (0, 0))) (ht : T t = false) : Keeps T w (w.setRow g cs) := by
  intro g' cs' t' fr hT h
  by_cases e : g' = g
  · subst e
    rw [hg] at h
    simp only [Option.some.injEq, Obj.cells.injEq] at h
    obtain ⟨_, rfl, _⟩ := h
    rw [ht] at hT
    cases hT
  · rw [setRow_other w g g' cs e]
    exact h
theorem zero24v (W : World) : (zeroValue 24).run Try.prog W = .ok (.agg #[.int .i64 0, .int .i64 0, .slice none 0 0]) W := by kernel_rfl
theorem zero42v (W : World) : (zeroValue 42).run Try.prog W = .ok (.agg #[.int .i64 0, .int .i64 0, .int .i64 0, .slice none 0 0]) W := by kernel_rfl
theorem run_alloc {a : Act} {w : World} {o : Oper} {t : TypeId} (ho : o.op = .alloc t) (Z : Array Value) (hz : ∀ W, (zeroValue t).run Try.prog W = .ok (.agg Z) W) : (execOp a.eval o).run Try.prog w = .ok (.value (.pointer (some ⟨w.heap.size, 0, none⟩))) (w.alloc (.cells Z t)) := by
  unfold execOp
  simp only [ho, Instr.alloc, Sem.run_bind, hz, Result.andThen_ok]
  rfl
theorem run_store_whole {a : Act} {w : World} {o : Oper} {ty t : TypeId} {x y : Operand} {g : Nat} {old cells : Array Value} (ho : o.op = .store ty x y) (hx : a.eval x = .pointer (some ⟨g, 0, none⟩)) (hy : a.eval y = .agg cells) (hg : w.heap[g]? = some (Obj.cells old t (0, 0))) (hi : (Try.prog.info? ty).map (·.size) = some cells.size) (hs : old.size = cells.size) (h1 : cells.all (·.oneCell') = true) :
    (execOp a.eval o).run Try.prog w = .ok .skip (w.setRow g cells) := by
  unfold execOp
  simp only [ho, hx, hy, Instr.storeAt, Instr.sureAddr, Sem.run_bind, Sem.run_pure, Result.andThen_ok, run_storeVar_row w g t ty old cells hg hi hs h1]
def ops_mb : Array Oper := #[⟨some 29, .load 27 (.tmp 4), 27, "law.go:136", #[], none⟩, ⟨some 30, .call { callee := Callee.value (Operand.func 11), args := #[.tmp 29], argTypes := #[27] }, 24, "law.go:136", #[⟨0, .data⟩], none⟩, ⟨some 31, .load 27 (.tmp 4), 27, "law.go:136", #[], none⟩, ⟨some 32, .move (.tmp 1), 5, "law.go:136", #[], none⟩, ⟨some 33, .move (.tmp 2), 25, "law.go:136", #[], none⟩, ⟨some 34, .call { callee := Callee.value (Operand.func 16), args := #[.tmp 31, .tmp 32, .const (.int .u8 3), .tmp 33], argTypes := #[27, 5, 5, 25] }, 42, "law.go:136", #[⟨2, .data⟩, ⟨3, .data⟩, ⟨4, .data⟩, ⟨1, .chain⟩], none⟩, ⟨some 9, .alloc 24, 0, "law.go:136", #[], none⟩, ⟨some 10, .alloc 42, 0, "law.go:136", #[], none⟩, ⟨none, .store 24 (.tmp 9) (.tmp 30), 0, "law.go:136", #[⟨6, .data⟩, ⟨1, .data⟩, ⟨5, .chain⟩, ⟨0, .phase⟩, ⟨1, .phase⟩, { on := 2, ground := Ground.textOnly Departure.lateStores }, { on := 3, ground := Ground.textOnly Departure.lateStores }, { on := 4, ground := Ground.textOnly Departure.lateStores }, { on := 5, ground := Ground.textOnly Departure.lateStoresUnsure }, ⟨6, .phase⟩, ⟨7, .phase⟩], none⟩, ⟨none, .store 42 (.tmp 10) (.tmp 34), 0, "law.go:136", #[⟨7, .data⟩, ⟨5, .data⟩, ⟨8, .chain⟩, ⟨0, .phase⟩, ⟨1, .phase⟩, ⟨2, .phase⟩, ⟨3, .phase⟩, ⟨4, .phase⟩, ⟨5, .phase⟩, ⟨6, .phase⟩, ⟨7, .phase⟩, ⟨8, .phase⟩], none⟩]
/-- What is known of each temporary. -/
def GMb (SP mv : Value) (rg : Int) (M : Fun) (B : Nat) (l : Nat → Bool) : Tmp → Value → World → Prop
  | 29, x, _ => x = SP
  | 31, x, _ => x = SP
  | 32, x, _ => x = .int .u8 rg
  | 33, x, _ => x = mv
  | 30, x, w => ∃ (um : Value) (B' : Nat), x = .agg #[.int .i64 M.p, .int .i64 M.v, um] ∧ BlksO B' w um M.bs
  | 34, x, w => ∃ (C : Cod) (uc : Value) (B' : Nat), x = .agg #[.int .i64 C.p, .int .i64 C.r, .int .i64 C.s, uc] ∧ BlksO B' w uc C.bs ∧ mchk C = (0, 0, 0) ∧ Rgd C.bs
  | 9, x, w => ∃ (g : Nat) (cs : Array Value), x = .pointer (some ⟨g, 0, none⟩) ∧ B ≤ g ∧ w.heap[g]? = some (Obj.cells cs 24 (0, 0)) ∧ cs.size = 3 ∧ (l 8 = true → ∃ (um : Value) (B' : Nat), cs = #[.int .i64 M.p, .int .i64 M.v, um] ∧ BlksO B' w um M.bs)
  | 10, x, w => ∃ (g : Nat) (cs : Array Value), x = .pointer (some ⟨g, 0, none⟩) ∧ B ≤ g ∧ w.heap[g]? = some (Obj.cells cs 42 (0, 0)) ∧ cs.size = 4 ∧ (l 9 = true → ∃ (C : Cod) (uc : Value) (B' : Nat), cs = #[.int .i64 C.p, .int .i64 C.r, .int .i64 C.s, uc] ∧ BlksO B' w uc C.bs ∧ mchk C = (0, 0, 0) ∧ Rgd C.bs)
  | _, _, _ => True
section
variable {SP mv : Value} {rg : Int} {M : Fun} {B : Nat} {l l' : Nat → Bool} {d : Tmp} {x : Value} {w w' : World}
theorem GMb_keep (h : GMb SP mv rg M B l d x w) (h8 : l' 8 = l 8) (h9 : l' 9 = l 9) (hk : Keeps (fun _ => true) w w') : GMb SP mv rg M B l' d x w' := by
  have hk' : Keeps T41 w w' := hk.weak fun _ _ => rfl
  unfold GMb at h ⊢
  split at h
  · exact h
  · exact h
  · exact h
  · exact h
  · obtain ⟨um, B', h1, h2⟩ := h
    exact ⟨um, B', h1, h2.keeps hk'⟩
  · obtain ⟨C, uc, B', h1, h2, h3⟩ := h
    exact ⟨C, uc, B', h1, h2.keeps hk', h3⟩
  · obtain ⟨g, cs, h1, h2, h3, h4, h5⟩ := h
    refine ⟨g, cs, h1, h2, hk _ _ _ _ rfl h3, h4, fun e => ?_⟩
    obtain ⟨um, B', q1, q2⟩ := h5 (h8 ▸ e)
    exact ⟨um, B', q1, q2.keeps hk'⟩
  · obtain ⟨g, cs, h1, h2, h3, h4, h5⟩ := h
    refine ⟨g, cs, h1, h2, hk _ _ _ _ rfl h3, h4, fun e => ?_⟩
    obtain ⟨C, uc, B', q1, q2, q3⟩ := h5 (h9 ▸ e)
    exact ⟨C, uc, B', q1, q2.keeps hk', q3⟩
  · trivial
theorem GMb_s8 {g : Nat} {cs cells : Array Value} (h : GMb SP mv rg M B l d x w) (hd : d ≠ 9) (hg : w.heap[g]? = some (Obj.cells cs 24 (0, 0))) : GMb SP mv rg M B (upd l 8) d x (w.setRow g cells) := by
  have hk' : Keeps T41 w (w.setRow g cells) := keeps_setRow hg rfl
  have hk : Keeps (fun t => t != 24) w (w.setRow g cells) := keeps_setRow hg rfl
  unfold GMb at h ⊢
  split at h
  · exact h
  · exact h
  · exact h
  · exact h
  · obtain ⟨um, B', h1, h2⟩ := h
    exact ⟨um, B', h1, h2.keeps hk'⟩
  · obtain ⟨C, uc, B', h1, h2, h3⟩ := h
    exact ⟨C, uc, B', h1, h2.keeps hk', h3⟩
  · exact absurd rfl hd
  · obtain ⟨g', cs', h1, h2, h3, h4, h5⟩ := h
    refine ⟨g', cs', h1, h2, hk _ _ _ _ rfl h3, h4, fun e => ?_⟩
    obtain ⟨C, uc, B', q1, q2, q3⟩ := h5 (by simpa [upd] using e)
    exact ⟨C, uc, B', q1, q2.keeps hk', q3⟩
  · trivial
theorem GMb_s9 {g : Nat} {cs cells : Array Value} (h : GMb SP mv rg M B l d x w) (hd : d ≠ 10) (hg : w.heap[g]? = some (Obj.cells cs 42 (0, 0))) : GMb SP mv rg M B (upd l 9) d x (w.setRow g cells) := by
  have hk' : Keeps T41 w (w.setRow g cells) := keeps_setRow hg rfl
  have hk : Keeps (fun t => t != 42) w (w.setRow g cells) := keeps_setRow hg rfl
  unfold GMb at h ⊢
  split at h
  · exact h
  · exact h
  · exact h
  · exact h
  · obtain ⟨um, B', h1, h2⟩ := h
    exact ⟨um, B', h1, h2.keeps hk'⟩
  · obtain ⟨C, uc, B', h1, h2, h3⟩ := h
    exact ⟨C, uc, B', h1, h2.keeps hk', h3⟩
  · obtain ⟨g', cs', h1, h2, h3, h4, h5⟩ := h
    refine ⟨g', cs', h1, h2, hk _ _ _ _ rfl h3, h4, fun e => ?_⟩
    obtain ⟨um, B', q1, q2⟩ := h5 (by simpa [upd] using e)
    exact ⟨um, B', q1, q2.keeps hk'⟩
  · exact absurd rfl hd
  · trivial
end
set_option maxHeartbeats 1000000 in
set_option maxRecDepth 100000 in
theorem mb_ok {Q : Exit → Act → World → Prop} {a0 : Act} {wa : World} {gs : Nat} {sa sb sc rg : Int} {ax am : Option Addr} {cx cm : Nat} {sbs ms : List Int} (hz : a0.tmps.size = 135) (b4 : a0.eval (.tmp 4) = .pointer (some ⟨gs, 0, none⟩)) (b1 : a0.eval (.tmp 1) = .int .u8 rg) (b2 : a0.eval (.tmp 2) = .slice am ms.length cm)
    (hrs : wa.heap[gs]? = some (Obj.cells #[.int .u8 sa, .int .u8 sb, .int .u8 sc, .slice ax sbs.length cx] 27 (0, 0))) (hSp : SpecV wa (.agg #[.int .u8 sa, .int .u8 sb, .int .u8 sc, .slice ax sbs.length cx]) sa sb sc sbs) (hm : Byt wa (.slice am ms.length cm) ms) (hrg : 0 ≤ rg ∧ rg < 256)
    (hend : ∀ (s : Tmp → Value) (W : World) (g9 g10 : Nat) (um uc : Value) (C : Cod), s 9 = .pointer (some ⟨g9, 0, none⟩) → s 10 = .pointer (some ⟨g10, 0, none⟩) → W.heap[g9]? = some (Obj.cells #[.int .i64 (made sa sb sc sbs).p, .int .i64 (made sa sb sc sbs).v, um] 24 (0, 0)) → W.heap[g10]? = some (Obj.cells #[.int .i64 C.p, .int .i64 C.r, .int .i64 C.s, uc] 42 (0, 0)) →
      BlksV W um (made sa sb sc sbs).bs → BlksV W uc C.bs → mchk C = (0, 0, 0) → Rgd C.bs → Below wa.heap.size wa W → Q .normal (overlay a0 (dstsOf ops_mb) s) W) : (Code.region 3 ops_mb true).wp Try.prog Q a0 wa := by
  have size27 : (Try.prog.info? 27).map (·.size) = some (#[.int .u8 sa, .int .u8 sb, .int .u8 sc, .slice ax sbs.length cx] : Array Value).size := by kernel_rfl
  have hmd : ∀ W, Below wa.heap.size wa W → Calls Try.prog 11 #[.agg #[.int .u8 sa, .int .u8 sb, .int .u8 sc, .slice ax sbs.length cx]] W (MadePost W (made sa sb sc sbs)) := fun W h => made_any _ sa sb sc sbs W (hSp.below h)
  have hmc := fun W (h : Below wa.heap.size wa W) => made5_any _ sa sb sc sbs rg 3 _ ms W (hSp.below h) hrg (by omega) (hm.below h)
  generalize made sa sb sc sbs = M at *
  generalize hSP : Value.agg #[.int .u8 sa, .int .u8 sb, .int .u8 sc, .slice ax sbs.length cx] = SP at *
  refine L2.wp_region_eachL (by kernel_rfl) (GMb SP (.slice am ms.length cm) rg M wa.heap.size) (fun _ W => Below wa.heap.size wa W) (by rw [hz]; kernel_rfl) (Below.refl _ _).drew ?_ ?_
  · refine And.intro ?_ (And.intro ?_ (And.intro ?_ (And.intro ?_ (And.intro ?_ (And.intro ?_ (And.intro ?_ (And.intro ?_ (And.intro ?_ (And.intro ?_ trivial)))))))))
    · refine L2.asked_any rfl (fun l a W H => ?_)
      have e4 : a.eval (.tmp 4) = .pointer (some ⟨gs, 0, none⟩) := (H.base 4 rfl).trans b4
      refine ⟨SP, W, ?_, fun d hd => by cases hd; exact rfl, H.s, fun d _ h => GMb_keep h rfl rfl (Keeps.below (Below.refl _ _))⟩
      rw [← hSP]
      exact Gr.run_load_row rfl e4 ((H.s.block gs (Array.getElem?_eq_some_iff.1 hrs).1).trans hrs) Try.underlying27 size27
    · refine L2.asked_call rfl Try.func11 rfl rfl rfl rfl (fun l a W H => ?_)
      have e29 : a.eval (.tmp 29) = SP := H.facts 29 rfl
      simp only [List.map_toArray, List.map_cons, List.map_nil, e29]
      refine (hmd W H.s).mono ?_
      rintro e w' ⟨um, rfl, hO, hB⟩
      exact ⟨_, rfl, ⟨um, _, rfl, hO⟩, bel_of H.s hB, fun d _ h => GMb_keep h rfl rfl (Keeps.below hB)⟩
    · refine L2.asked_any rfl (fun l a W H => ?_)
      have e4 : a.eval (.tmp 4) = .pointer (some ⟨gs, 0, none⟩) := (H.base 4 rfl).trans b4
      refine ⟨SP, W, ?_, fun d hd => by cases hd; exact rfl, H.s, fun d _ h => GMb_keep h rfl rfl (Keeps.below (Below.refl _ _))⟩
      rw [← hSP]
      exact Gr.run_load_row rfl e4 ((H.s.block gs (Array.getElem?_eq_some_iff.1 hrs).1).trans hrs) Try.underlying27 size27
    · refine L2.asked_any rfl (fun l a W H => ?_)
      have e1 : a.eval (.tmp 1) = .int .u8 rg := (H.base 1 rfl).trans b1
      exact ⟨.int .u8 rg, W, run_move rfl e1, fun d hd => by cases hd; exact rfl, H.s, fun d _ h => GMb_keep h rfl rfl (Keeps.below (Below.refl _ _))⟩
    · refine L2.asked_any rfl (fun l a W H => ?_)
      have e2 : a.eval (.tmp 2) = .slice am ms.length cm := (H.base 2 rfl).trans b2
      exact ⟨.slice am ms.length cm, W, run_move rfl e2, fun d hd => by cases hd; exact rfl, H.s, fun d _ h => GMb_keep h rfl rfl (Keeps.below (Below.refl _ _))⟩
    · refine L2.asked_call rfl Try.func16 rfl rfl rfl rfl (fun l a W H => ?_)
      have e31 : a.eval (.tmp 31) = SP := H.facts 31 rfl
      have e32 : a.eval (.tmp 32) = .int .u8 rg := H.facts 32 rfl
      have e33 : a.eval (.tmp 33) = .slice am ms.length cm := H.facts 33 rfl
      have e3 : a.eval (.const (.int .u8 3)) = .int .u8 3 := rfl
      simp only [List.map_toArray, List.map_cons, List.map_nil, e31, e32, e33, e3]
      refine (hmc W H.s).mono ?_
      rintro e w' ⟨C, uc, rfl, hO, hck, -, hr, -, hB⟩
      exact ⟨_, rfl, ⟨C, uc, _, rfl, hO, hck, hr⟩, bel_of H.s hB, fun d _ h => GMb_keep h rfl rfl (Keeps.below hB)⟩
    · refine L2.asked_any rfl (fun l a W H => ?_)
      have hB := bel1' W (.cells #[.int .i64 0, .int .i64 0, .slice none 0 0] 24)
      have h8 : upd l 6 8 = l 8 := rfl
      have hl8 : l 8 = false := by
        cases h12 : l 8 with
        | false => rfl
        | true => have h1 := H.closed 8 6 (by rfl) h12; rw [H.new] at h1; cases h1
      exact ⟨_, _, run_alloc rfl _ zero24v, fun d hd => by cases hd; exact ⟨W.heap.size, _, rfl, H.s.size, heap_alloc_new W _, rfl, fun e => by rw [h8, hl8] at e; cases e⟩, bel_of H.s hB, fun d _ h => GMb_keep h rfl rfl (Keeps.below hB)⟩
    · refine L2.asked_any rfl (fun l a W H => ?_)
      have hB := bel1' W (.cells #[.int .i64 0, .int .i64 0, .int .i64 0, .slice none 0 0] 42)
      have h8 : upd l 7 9 = l 9 := rfl
      have hl8 : l 9 = false := by
        cases h12 : l 9 with
        | false => rfl
        | true => have h1 := H.closed 9 7 (by rfl) h12; rw [H.new] at h1; cases h1
      exact ⟨_, _, run_alloc rfl _ zero42v, fun d hd => by cases hd; exact ⟨W.heap.size, _, rfl, H.s.size, heap_alloc_new W _, rfl, fun e => by rw [h8, hl8] at e; cases e⟩, bel_of H.s hB, fun d _ h => GMb_keep h rfl rfl (Keeps.below hB)⟩
    · refine L2.asked_skip rfl rfl (fun l a W H => ?_)
      obtain ⟨g, cs, e9, hBg, hg, hcs, _⟩ : ∃ (g : Nat) (cs : Array Value), a.eval (.tmp 9) = .pointer (some ⟨g, 0, none⟩) ∧ wa.heap.size ≤ g ∧ W.heap[g]? = some (Obj.cells cs 24 (0, 0)) ∧ cs.size = 3 ∧ (l 8 = true → ∃ (um : Value) (B' : Nat), cs = #[.int .i64 M.p, .int .i64 M.v, um] ∧ BlksO B' W um M.bs) := H.facts 9 rfl
      obtain ⟨um, B', e30, hO⟩ : ∃ (um : Value) (B' : Nat), a.eval (.tmp 30) = .agg #[.int .i64 M.p, .int .i64 M.v, um] ∧ BlksO B' W um M.bs := H.facts 30 rfl
      obtain ⟨ua, uc', hu⟩ := hO.v.slice
      refine ⟨_, run_store_whole rfl e9 e30 hg (size24 _ _ _) hcs (by rw [hu]; simp [Value.oneCell']), below_setRow H.s hBg _, fun d h => ?_⟩
      by_cases hd : d = 9
      · subst hd
        exact ⟨g, _, e9, hBg, setRow_heap W g _ _ _ _ hg, rfl, fun _ => ⟨um, B', rfl, hO.keeps (keeps_setRow hg rfl)⟩⟩
      · exact GMb_s8 h hd hg
    · refine L2.asked_skip rfl rfl (fun l a W H => ?_)
      obtain ⟨g, cs, e9, hBg, hg, hcs, _⟩ : ∃ (g : Nat) (cs : Array Value), a.eval (.tmp 10) = .pointer (some ⟨g, 0, none⟩) ∧ wa.heap.size ≤ g ∧ W.heap[g]? = some (Obj.cells cs 42 (0, 0)) ∧ cs.size = 4 ∧ (l 9 = true → ∃ (C : Cod) (uc : Value) (B' : Nat), cs = #[.int .i64 C.p, .int .i64 C.r, .int .i64 C.s, uc] ∧ BlksO B' W uc C.bs ∧ mchk C = (0, 0, 0) ∧ Rgd C.bs) := H.facts 10 rfl
      obtain ⟨C, um, B', e30, hO, hck, hr⟩ : ∃ (C : Cod) (uc : Value) (B' : Nat), a.eval (.tmp 34) = .agg #[.int .i64 C.p, .int .i64 C.r, .int .i64 C.s, uc] ∧ BlksO B' W uc C.bs ∧ mchk C = (0, 0, 0) ∧ Rgd C.bs := H.facts 34 rfl
      obtain ⟨ua, uc', hu⟩ := hO.v.slice
      refine ⟨_, run_store_whole rfl e9 e30 hg (size42 _ _ _ _) hcs (by rw [hu]; simp [Value.oneCell']), below_setRow H.s hBg _, fun d h => ?_⟩
      by_cases hd : d = 10
      · subst hd
        exact ⟨g, _, e9, hBg, setRow_heap W g _ _ _ _ hg, rfl, fun _ => ⟨C, um, B', rfl, hO.keeps (keeps_setRow hg rfl), hck, hr⟩⟩
      · exact GMb_s9 h hd hg
  · intro l s W hall hS hs
    obtain ⟨g9, cs9, q1, q2, q3, q4, q5⟩ : ∃ (g : Nat) (cs : Array Value), s 9 = .pointer (some ⟨g, 0, none⟩) ∧ wa.heap.size ≤ g ∧ W.heap[g]? = some (Obj.cells cs 24 (0, 0)) ∧ cs.size = 3 ∧ (l 8 = true → ∃ (um : Value) (B' : Nat), cs = #[.int .i64 M.p, .int .i64 M.v, um] ∧ BlksO B' W um M.bs) := hs 9 rfl
    obtain ⟨g10, cs10, p1, p2, p3, p4, p5⟩ : ∃ (g : Nat) (cs : Array Value), s 10 = .pointer (some ⟨g, 0, none⟩) ∧ wa.heap.size ≤ g ∧ W.heap[g]? = some (Obj.cells cs 42 (0, 0)) ∧ cs.size = 4 ∧ (l 9 = true → ∃ (C : Cod) (uc : Value) (B' : Nat), cs = #[.int .i64 C.p, .int .i64 C.r, .int .i64 C.s, uc] ∧ BlksO B' W uc C.bs ∧ mchk C = (0, 0, 0) ∧ Rgd C.bs) := hs 10 rfl
    obtain ⟨um, B1, rfl, hO⟩ := q5 (hall 8 (by decide))
    obtain ⟨C, uc, B2, rfl, hO2, hck, hr⟩ := p5 (hall 9 (by decide))
    exact hend s W g9 g10 um uc C q1 p1 q3 p3 hO.v hO2.v hck hr hS
end Go.Proofs.Ytbjnhicikkjadaa
