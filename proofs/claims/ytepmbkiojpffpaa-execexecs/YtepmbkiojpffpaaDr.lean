/- Regions of run.Do that draw their order. -/
import Derived.Test.YtepmbkiojpffpaaDz
namespace Go.Proofs.Ytepmbkiojpffpaa
open Go Go.RowKit Ir
def ops_do2_ok : Array Oper := #[{ dst := some 17, op := Op.move (Operand.tmp 1), type := 3, pos := "run.go:35", after := #[], guard := none }, { dst := some 18, op := Op.move (Operand.tmp 0), type := 29, pos := "run.go:35", after := #[], guard := none }, { dst := some 19, op := Op.move (Operand.tmp 2), type := 3, pos := "run.go:35", after := #[], guard := none }, { dst := some 20, op := Op.call { callee := Callee.value (Operand.func 31), args := #[Operand.tmp 18, Operand.tmp 19], argTypes := #[29, 3] }, type := 3, pos := "run.go:35", after := #[{ on := 1, ground := Ground.data }, { on := 2, ground := Ground.data }], guard := none }, { dst := some 21, op := Op.binOp BinOp.add 3 (Operand.tmp 17) (Operand.tmp 20) 3, type := 3, pos := "run.go:35", after := #[{ on := 0, ground := Ground.data }, { on := 3, ground := Ground.data }], guard := none }, { dst := some 22, op := Op.move (Operand.tmp 3), type := 3, pos := "run.go:35", after := #[], guard := none }, { dst := some 23, op := Op.fieldAddr 27 (Operand.tmp 9) 0, type := 0, pos := "run.go:35", after := #[], guard := none }, { dst := some 24, op := Op.load 25 (Operand.tmp 23), type := 25, pos := "run.go:35", after := #[{ on := 6, ground := Ground.data }], guard := none }, { dst := some 25, op := Op.call { callee := Callee.value (Operand.func 30), args := #[Operand.tmp 21, Operand.tmp 22, Operand.tmp 24], argTypes := #[3, 3, 25] }, type := 25, pos := "run.go:35", after := #[{ on := 4, ground := Ground.data }, { on := 5, ground := Ground.data }, { on := 7, ground := Ground.data }, { on := 3, ground := Ground.chain }], guard := none }, { dst := some 26, op := Op.fieldAddr 88 (Operand.tmp 11) 2, type := 0, pos := "run.go:35", after := #[{ on := 0, ground := Ground.phase }, { on := 1, ground := Ground.phase }, { on := 2, ground := Ground.phase }, { on := 3, ground := Ground.phase }, { on := 4, ground := Ground.phase }, { on := 5, ground := Ground.phase }, { on := 6, ground := Ground.phase }, { on := 7, ground := Ground.phase }, { on := 8, ground := Ground.phase }], guard := none }, { dst := none, op := Op.store 25 (Operand.tmp 26) (Operand.tmp 25), type := 0, pos := "run.go:35", after := #[{ on := 9, ground := Ground.data }, { on := 8, ground := Ground.data }, { on := 8, ground := Ground.chain }, { on := 0, ground := Ground.phase }, { on := 1, ground := Ground.phase }, { on := 2, ground := Ground.phase }, { on := 3, ground := Ground.phase }, { on := 4, ground := Ground.phase }, { on := 5, ground := Ground.phase }, { on := 6, ground := Ground.phase }, { on := 7, ground := Ground.phase }, { on := 8, ground := Ground.phase }], guard := none }]
/-- What is known of each temporary. -/
def G_do2 (hs g gi n : Nat) (rr slots first : Int) (bs : List Blk) (L : List Int) (u ua : Value) : Tmp → Value → World → Prop
  | 17, xx, _ => xx = .int .i64 rr
  | 18, xx, _ => xx = u
  | 19, xx, _ => xx = .int .i64 slots
  | 20, xx, _ => xx = .int .i64 (rm bs slots)
  | 21, xx, _ => xx = .int .i64 (n : Nat)
  | 22, xx, _ => xx = .int .i64 first
  | 23, xx, _ => xx = .pointer (some ⟨gi, 0, none⟩)
  | 24, xx, _ => xx = ua
  | 25, xx, ww => ∃ gp, xx = .slice (some ⟨gp, 0, none⟩) n n ∧ hs ≤ gp ∧ ww.heap[gp]? = some (Obj.cells (nums L).toArray 2 (0, 0))
  | 26, xx, _ => xx = .pointer (some ⟨g, 69, none⟩)
  | _, _, _ => True

structure S2 (g n : Nat) (L : List Int) (wa : World) (l : Nat → Bool) (W : World) : Prop where
  a : l 10 = false → Below wa.heap.size wa W
  c : l 10 = true → ∃ gp W0, Below wa.heap.size wa W0 ∧ wa.heap.size ≤ gp ∧ W0.heap[gp]? = some (Obj.cells (nums L).toArray 2 (0, 0)) ∧ W = W0.setCell ⟨g, 69, none⟩ (.slice (some ⟨gp, 0, none⟩) n n)
section
variable {g n : Nat} {L : List Int} {wa : World} {l : Nat → Bool} {W W' : World}
theorem S2.skip (h : S2 g n L wa l W) {j : Nat} (hj : j ≠ 10) : S2 g n L wa (upd l j) W := by
  have u : upd l j 10 = l 10 := if_neg (fun e => hj e.symm)
  exact ⟨by rw [u]; exact h.a, by rw [u]; exact h.c⟩
theorem S2.grow (h : S2 g n L wa l W) {j : Nat} (hj : j ≠ 10) (n10 : l 10 = false) (hB : Below W.heap.size W W') : S2 g n L wa (upd l j) W' := by
  have u : upd l j 10 = l 10 := if_neg (fun e => hj e.symm)
  exact ⟨fun _ => bel_of (h.a n10) hB, fun h => by rw [u, n10] at h; cases h⟩
theorem G_mono {hs gi : Nat} {rr slots first : Int} {bs : List Blk} {u ua : Value} {t : Tmp} {y : Value} (h : G_do2 hs g gi n rr slots first bs L u ua t y W) (hB : Below W.heap.size W W') : G_do2 hs g gi n rr slots first bs L u ua t y W' := by
  unfold G_do2 at h ⊢
  split
  all_goals
    first
      | exact h
      | (obtain ⟨gp, e1, e2, e3⟩ := h; exact ⟨gp, e1, e2, by rw [hB.block gp (Array.getElem?_eq_some_iff.1 e3).1]; exact e3⟩)
      | trivial
theorem G_store {gi : Nat} {rr slots first : Int} {bs : List Blk} {u ua v : Value} {t : Tmp} {y : Value} (h : G_do2 wa.heap.size g gi n rr slots first bs L u ua t y W) (hg : g < wa.heap.size) : G_do2 wa.heap.size g gi n rr slots first bs L u ua t y (W.setCell ⟨g, 69, none⟩ v) := by
  unfold G_do2 at h ⊢
  split
  all_goals
    first
      | exact h
      | (obtain ⟨gp, e1, e2, e3⟩ := h; exact ⟨gp, e1, e2, by rw [Below.heap_setCell _ _ _ _ (by simp only; omega)]; exact e3⟩)
      | trivial
end
set_option maxHeartbeats 1000000 in
set_option maxRecDepth 100000 in
theorem do2_ok {Q : Exit → Act → World → Prop} {a0 : Act} {wa : World} {g gi n : Nat} {rr slots first : Int} {bs : List Blk} {args : List Int} {u ua : Value} (hz : a0.tmps.size = 50) (b0 : a0.eval (.tmp 0) = u) (b1 : a0.eval (.tmp 1) = .int .i64 rr) (b2 : a0.eval (.tmp 2) = .int .i64 slots) (b3 : a0.eval (.tmp 3) = .int .i64 first) (b9 : a0.eval (.tmp 9) = .pointer (some ⟨gi, 0, none⟩)) (b11 : a0.eval (.tmp 11) = .pointer (some ⟨g, 0, none⟩))
    (hu : BlksV wa u bs) (hbs : ∀ b ∈ bs, b.ins.length ≤ 1000 ∧ ∀ i ∈ b.ins, OkS i) (hbl : bs.length ≤ 1000) (hua : IntsV wa ua args) (hi0 : wa.cell? ⟨gi, 0, none⟩ = some ua) (hn : n ≤ 1000000) (hrn : rr + rm bs slots = (n : Int)) {yy : Value} (hc69 : wa.cell? ⟨g, 69, none⟩ = some yy) (hf69 : wa.frozen? ⟨g, 69, none⟩ = false) (hg : g < wa.heap.size)
    (hend : ∀ (q : Tmp → Value) (gp : Nat) (W0 : World), Below wa.heap.size wa W0 → wa.heap.size ≤ gp → W0.heap[gp]? = some (Obj.cells (nums (laidL n first args)).toArray 2 (0, 0)) → Q .normal (overlay a0 (dstsOf ops_do2_ok) q) (W0.setCell ⟨g, 69, none⟩ (.slice (some ⟨gp, 0, none⟩) n n))) : (Code.region 2 ops_do2_ok true).wp Try.prog Q a0 wa := by
  have hnn : (n : Int) ≤ 1000000 := by omega
  refine L.wp_region_eachL (by kernel_rfl) (fun _ tt yv W => G_do2 wa.heap.size g gi n rr slots first bs (laidL n first args) u ua tt yv W) (fun l W => S2 g n (laidL n first args) wa l W) (by rw [hz]; kernel_rfl) ⟨fun _ => (Below.refl _ _).drew, fun h => by simp at h⟩ ?_ ?_
  · refine And.intro ?_ (And.intro ?_ (And.intro ?_ (And.intro ?_ (And.intro ?_ (And.intro ?_ (And.intro ?_ (And.intro ?_ (And.intro ?_ (And.intro ?_ (And.intro ?_ trivial))))))))))
    · refine L.asked_pure rfl rfl (fun _ _ h => h.skip (by decide)) (fun _ _ _ _ _ h => h) (fun _ _ _ => rfl) (fun l a W H => ?_)
      have e1 : a.eval (.tmp 1) = .int .i64 rr := (H.base 1 rfl).trans b1
      exact run_move rfl e1
    · refine L.asked_pure rfl rfl (fun _ _ h => h.skip (by decide)) (fun _ _ _ _ _ h => h) (fun _ _ _ => rfl) (fun l a W H => ?_)
      have e0 : a.eval (.tmp 0) = u := (H.base 0 rfl).trans b0
      exact run_move rfl e0
    · refine L.asked_pure rfl rfl (fun _ _ h => h.skip (by decide)) (fun _ _ _ _ _ h => h) (fun _ _ _ => rfl) (fun l a W H => ?_)
      have e2 : a.eval (.tmp 2) = .int .i64 slots := (H.base 2 rfl).trans b2
      exact run_move rfl e2
    · refine L.asked_call rfl Try.func31 (by kernel_rfl) (by kernel_rfl) rfl rfl (fun l a W H => ?_)
      have e18 : a.eval (.tmp 18) = u := H.facts 18 rfl
      have e19 : a.eval (.tmp 19) = .int .i64 slots := H.facts 19 rfl
      have ea : (#[.tmp 18, .tmp 19] : Array Operand).map a.eval = #[u, .int .i64 slots] := by simp only [List.map_toArray, List.map_cons, List.map_nil, e18, e19]
      rw [ea]
      have n10 : l 10 = false := by
        cases hs : l 10 with
        | false => rfl
        | true =>
          have h1 := (H.closed 10 3 (by rfl) hs)
          rw [H.new] at h1
          cases h1
      have hb := H.s.a n10
      refine (room_any u bs slots W (hu.below hb) hbs hbl).mono ?_
      rintro e w' ⟨rfl, hB⟩
      exact ⟨_, rfl, rfl, H.s.grow (by decide) n10 hB, fun _ _ _ h => G_mono h hB⟩
    · refine L.asked_pure rfl rfl (fun _ _ h => h.skip (by decide)) (fun _ _ _ _ _ h => h) (fun _ _ _ => rfl) (fun l a W H => ?_)
      have e17 : a.eval (.tmp 17) = .int .i64 rr := H.facts 17 rfl
      have e20 : a.eval (.tmp 20) = .int .i64 (rm bs slots) := H.facts 20 rfl
      (simp only [execOp]; try simp only [Option.map]); (try simp only [List.map_toArray, List.map_cons, List.map_nil]); (simp only [e17, e20]; go_simp)
      all_goals (try first | go_num | omega | (rw [IntKind.wrap_i64]; omega) | (rw [IntKind.wrap_u8]; omega))
    · refine L.asked_pure rfl rfl (fun _ _ h => h.skip (by decide)) (fun _ _ _ _ _ h => h) (fun _ _ _ => rfl) (fun l a W H => ?_)
      have e3 : a.eval (.tmp 3) = .int .i64 first := (H.base 3 rfl).trans b3
      exact run_move rfl e3
    · refine L.asked_pure rfl rfl (fun _ _ h => h.skip (by decide)) (fun _ _ _ _ _ h => h) (fun _ _ _ => rfl) (fun l a W H => ?_)
      have e9 : a.eval (.tmp 9) = .pointer (some ⟨gi, 0, none⟩) := (H.base 9 rfl).trans b9
      (simp only [execOp]; try simp only [Option.map]); (try simp only [List.map_toArray, List.map_cons, List.map_nil]); (simp only [e9]; go_simp)
      all_goals (try first | go_num | omega | (rw [IntKind.wrap_i64]; omega) | (rw [IntKind.wrap_u8]; omega))
    · refine L.asked_pure rfl rfl (fun _ _ h => h.skip (by decide)) (fun _ _ _ _ _ h => h) (fun _ _ _ => rfl) (fun l a W H => ?_)
      have e23 : a.eval (.tmp 23) = .pointer (some ⟨gi, 0, none⟩) := H.facts 23 rfl
      have n10 : l 10 = false := by
        cases hs : l 10 with
        | false => rfl
        | true =>
          have h1 := (H.closed 10 7 (by rfl) hs)
          rw [H.new] at h1
          cases h1
      have hcc := cell_below (H.s.a n10) hi0
      (simp only [execOp]; try simp only [Option.map]); (simp only [e23]; go_simp)
    · refine L.asked_call rfl Try.func30 (by kernel_rfl) (by kernel_rfl) rfl rfl (fun l a W H => ?_)
      have e21 : a.eval (.tmp 21) = .int .i64 (n : Nat) := H.facts 21 rfl
      have e22 : a.eval (.tmp 22) = .int .i64 first := H.facts 22 rfl
      have e24 : a.eval (.tmp 24) = ua := H.facts 24 rfl
      have ea : (#[.tmp 21, .tmp 22, .tmp 24] : Array Operand).map a.eval = #[.int .i64 (n : Nat), .int .i64 first, ua] := by simp only [List.map_toArray, List.map_cons, List.map_nil, e21, e22, e24]
      rw [ea]
      have n10 : l 10 = false := by
        cases hs : l 10 with
        | false => rfl
        | true =>
          have h1 := (H.closed 10 8 (by rfl) hs)
          rw [H.new] at h1
          cases h1
      have hb := H.s.a n10
      refine (laid_any n first args ua W (hua.below hb) hn).mono ?_
      rintro e w' ⟨gp, rfl, hgp, hrow, hB⟩
      exact ⟨_, rfl, ⟨gp, rfl, Nat.le_trans hb.size hgp, hrow⟩, H.s.grow (by decide) n10 hB, fun _ _ _ h => G_mono h hB⟩
    · refine L.asked_pure rfl rfl (fun _ _ h => h.skip (by decide)) (fun _ _ _ _ _ h => h) (fun _ _ _ => rfl) (fun l a W H => ?_)
      have e11 : a.eval (.tmp 11) = .pointer (some ⟨g, 0, none⟩) := (H.base 11 rfl).trans b11
      (simp only [execOp]; try simp only [Option.map]); (try simp only [List.map_toArray, List.map_cons, List.map_nil]); (simp only [e11]; go_simp)
      all_goals (try first | go_num | omega | (rw [IntKind.wrap_i64]; omega) | (rw [IntKind.wrap_u8]; omega))
    · refine L.asked_skip rfl rfl (fun l a W H => ?_)
      obtain ⟨gp, e25, hgp, hrow⟩ : ∃ gp, a.eval (.tmp 25) = .slice (some ⟨gp, 0, none⟩) n n ∧ wa.heap.size ≤ gp ∧ W.heap[gp]? = some (Obj.cells (nums (laidL n first args)).toArray 2 (0, 0)) := H.facts 25 rfl
      have e26 : a.eval (.tmp 26) = .pointer (some ⟨g, 69, none⟩) := H.facts 26 rfl
      have hb := H.s.a H.new
      have hcc := cell_below hb hc69
      have hff := (hb.frozen (p := ⟨g, 69, none⟩) hg).trans hf69
      refine ⟨W.setCell ⟨g, 69, none⟩ (.slice (some ⟨gp, 0, none⟩) n n), ?_, ⟨fun h => (by simp [upd] at h), fun _ => ⟨gp, W, hb, hgp, hrow, rfl⟩⟩, fun d u hG => G_store hG hg⟩
      (simp only [execOp]; try simp only [Option.map]); (simp only [e25, e26]; go_simp)
  · intro l q W hall hS _
    obtain ⟨gp, W0, h1, h2, h3, rfl⟩ := hS.c (hall 10 (by decide))
    exact hend q gp W0 h1 h2 h3
def ops_do3_ok : Array Oper := #[{ dst := some 27, op := Op.fieldAddr 88 (Operand.tmp 11) 0, type := 0, pos := "run.go:36", after := #[], guard := none }, { dst := some 28, op := Op.fieldAddr 37 (Operand.tmp 27) 3, type := 0, pos := "run.go:36", after := #[{ on := 0, ground := Ground.data }], guard := none }, { dst := some 29, op := Op.slice 35 (Operand.tmp 28) none none none, type := 25, pos := "run.go:36", after := #[{ on := 1, ground := Ground.data }], guard := none }, { dst := some 30, op := Op.fieldAddr 27 (Operand.tmp 9) 1, type := 0, pos := "run.go:36", after := #[], guard := none }, { dst := some 31, op := Op.load 25 (Operand.tmp 30), type := 25, pos := "run.go:36", after := #[{ on := 3, ground := Ground.data }], guard := none }, { dst := some 32, op := Op.call { callee := Callee.builtin Builtin.copy, args := #[Operand.tmp 29, Operand.tmp 31], argTypes := #[25, 25] }, type := 3, pos := "run.go:36", after := #[{ on := 2, ground := Ground.data }, { on := 4, ground := Ground.data }], guard := none }]
/-- What is known of each temporary. -/
def G_do3_ok (g gi mn mc : Nat) (k : Int) (ma : Option Addr) : Tmp → Value → World → Prop
  | 27, xx, _ => xx = .pointer (some ⟨g, 0, none⟩)
  | 28, xx, _ => xx = .pointer (some ⟨g, 3, none⟩)
  | 29, xx, _ => xx = .slice (some ⟨g, 3, none⟩) 64 64
  | 30, xx, _ => xx = .pointer (some ⟨gi, 1, none⟩)
  | 31, xx, _ => xx = .slice ma mn mc
  | 32, xx, _ => xx = .int .i64 k
  | _, _, _ => True
set_option maxHeartbeats 1000000 in
set_option maxRecDepth 100000 in
theorem do3_ok {Q : Exit → Act → World → Prop} {a0 : Act} {wa : World} {g gi mn mc : Nat} {k : Int} {ma : Option Addr} {W1 : World} (hz : a0.tmps.size = 50) (b9 : a0.eval (.tmp 9) = .pointer (some ⟨gi, 0, none⟩)) (b11 : a0.eval (.tmp 11) = .pointer (some ⟨g, 0, none⟩))
    (m1 : wa.cell? ⟨gi, 1, none⟩ = some (.slice ma mn mc))  (hrun : (Builtin.copy_ #[25, 25] 3 #[.slice (some ⟨g, 3, none⟩) 64 64, .slice ma mn mc]).run Try.prog wa.drew = .ok (.int .i64 k) W1)
    (hend : ∀ s : Tmp → Value, Q .normal (overlay a0 (dstsOf ops_do3_ok) s) W1) : (Code.region 3 ops_do3_ok true).wp Try.prog Q a0 wa := by
  have m1 : wa.drew.cell? ⟨gi, 1, none⟩ = some (.slice ma mn mc) := m1
  refine L.wp_region_eachL (by kernel_rfl) (fun _ tt yv _ => G_do3_ok g gi mn mc k ma tt yv wa) (fun l W => W = if l 5 = true then W1 else wa.drew) (by rw [hz]; kernel_rfl) rfl ?_ ?_
  · refine And.intro ?_ (And.intro ?_ (And.intro ?_ (And.intro ?_ (And.intro ?_ (And.intro ?_ trivial)))))
    · refine L.asked_pure rfl rfl (fun _ _ h => h) (fun _ _ _ _ _ h => h) (fun _ _ _ => rfl) (fun l a W H => ?_)
      have e11 : a.eval (.tmp 11) = .pointer (some ⟨g, 0, none⟩) := (H.base 11 rfl).trans b11
      (simp only [execOp]; try simp only [Option.map]); (try simp only [List.map_toArray, List.map_cons, List.map_nil]); (simp only [e11]; go_simp)
      all_goals (try first | go_num | omega | (rw [IntKind.wrap_i64]; omega) | (rw [IntKind.wrap_u8]; omega))
    · refine L.asked_pure rfl rfl (fun _ _ h => h) (fun _ _ _ _ _ h => h) (fun _ _ _ => rfl) (fun l a W H => ?_)
      have e27 : a.eval (.tmp 27) = .pointer (some ⟨g, 0, none⟩) := H.facts 27 rfl
      (simp only [execOp]; try simp only [Option.map]); (try simp only [List.map_toArray, List.map_cons, List.map_nil]); (simp only [e27]; go_simp)
      all_goals (try first | go_num | omega | (rw [IntKind.wrap_i64]; omega) | (rw [IntKind.wrap_u8]; omega))
    · refine L.asked_pure rfl rfl (fun _ _ h => h) (fun _ _ _ _ _ h => h) (fun _ _ _ => rfl) (fun l a W H => ?_)
      have e28 : a.eval (.tmp 28) = .pointer (some ⟨g, 3, none⟩) := H.facts 28 rfl
      (simp only [execOp]; try simp only [Option.map]); (try simp only [List.map_toArray, List.map_cons, List.map_nil]); (simp only [e28]; go_simp)
      all_goals (try first | go_num | omega | (rw [IntKind.wrap_i64]; omega) | (rw [IntKind.wrap_u8]; omega))
    · refine L.asked_pure rfl rfl (fun _ _ h => h) (fun _ _ _ _ _ h => h) (fun _ _ _ => rfl) (fun l a W H => ?_)
      have e9 : a.eval (.tmp 9) = .pointer (some ⟨gi, 0, none⟩) := (H.base 9 rfl).trans b9
      (simp only [execOp]; try simp only [Option.map]); (try simp only [List.map_toArray, List.map_cons, List.map_nil]); (simp only [e9]; go_simp)
      all_goals (try first | go_num | omega | (rw [IntKind.wrap_i64]; omega) | (rw [IntKind.wrap_u8]; omega))
    · refine L.asked_pure rfl rfl (fun _ _ h => h) (fun _ _ _ _ _ h => h) (fun _ _ _ => rfl) (fun l a W H => ?_)
      have n5 : l 5 = false := by
        cases hs : l 5 with
        | false => rfl
        | true =>
          have h1 := (H.closed 5 4 (by rfl) hs)
          rw [H.new] at h1
          cases h1
      have hW : wa.drew = W := (H.s.trans (by simp only [n5, if_false, Bool.false_eq_true])).symm
      subst hW
      have e30 : a.eval (.tmp 30) = .pointer (some ⟨gi, 1, none⟩) := H.facts 30 rfl
      (simp only [execOp]; try simp only [Option.map]); (try simp only [List.map_toArray, List.map_cons, List.map_nil]); (simp only [e30]; go_simp)
      all_goals (try first | go_num | omega | (rw [IntKind.wrap_i64]; omega) | (rw [IntKind.wrap_u8]; omega))
    · refine L.asked_any rfl (fun l a W H => ?_)
      have n5 : l 5 = false := H.new
      have hW : wa.drew = W := (H.s.trans (by simp only [n5, if_false, Bool.false_eq_true])).symm
      subst hW
      have e29 : a.eval (.tmp 29) = .slice (some ⟨g, 3, none⟩) 64 64 := H.facts 29 rfl
      have e31 : a.eval (.tmp 31) = .slice ma mn mc := H.facts 31 rfl
      refine ⟨.int .i64 k, W1, ?_, fun d hd => by cases hd; rfl, ?_, fun _ _ _ h => h⟩
      · simp only [execOp, resolve, invoke, builtin, Sem.run_bind, Sem.run_pure, Result.andThen_ok, List.map_toArray, List.map_cons, List.map_nil, e29, e31, hrun]
      · simp [upd]
  · intro l s W hall hS hs
    rw [if_pos (hall 5 (by decide))] at hS
    have hS := Eq.symm hS
    subst hS
    exact hend s
end Go.Proofs.Ytepmbkiojpffpaa
