/- MachOnly's first statement that draws its order, over any activation. -/
import Derived.Test.YtbgedbahabbanaaMd5
import Derived.Test.YtbgedbahabbanaaCallL
namespace Go.Proofs.Ytbgedbahabbanaa
open Go Go.RowKit Ir
def ops55 : Array Oper := #[{ dst := some 25, op := Op.load 24 (Operand.tmp 5), type := 24, pos := "law.go:97", after := #[], guard := none }, { dst := some 26, op := Op.load 27 (Operand.tmp 6), type := 27, pos := "law.go:97", after := #[], guard := none }, { dst := some 27, op := Op.move (Operand.tmp 2), type := 5, pos := "law.go:97", after := #[], guard := none }, { dst := some 28, op := Op.move (Operand.tmp 3), type := 5, pos := "law.go:97", after := #[], guard := none }, { dst := some 29, op := Op.move (Operand.tmp 4), type := 25, pos := "law.go:97", after := #[], guard := none }, { dst := some 30, op := Op.call { callee := Callee.value (Operand.func 9), args := #[Operand.tmp 26, Operand.tmp 27, Operand.tmp 28, Operand.tmp 29], argTypes := #[27, 5, 5, 25] }, type := 24, pos := "law.go:97", after := #[{ on := 1, ground := Ground.data }, { on := 2, ground := Ground.data }, { on := 3, ground := Ground.data }, { on := 4, ground := Ground.data }], guard := none }, { dst := some 31, op := Op.buildSlice 49 2 #[(0, Operand.tmp 25), (1, Operand.tmp 30)], type := 49, pos := "law.go:97", after := #[{ on := 0, ground := Ground.data }, { on := 5, ground := Ground.data }], guard := none }, { dst := some 32, op := Op.call { callee := Callee.builtin Builtin.len, args := #[Operand.tmp 31], argTypes := #[49] }, type := 3, pos := "law.go:97", after := #[{ on := 6, ground := Ground.data }], guard := none }, { dst := some 33, op := Op.move (Operand.const (Value.int IntKind.i64 0)), type := 3, pos := "law.go:97", after := #[], guard := none }]
def CodAt (w : World) (g off : Nat) (X : Cod) : Prop := ∃ u, w.cell? ⟨g, off, none⟩ = some (.int .i64 X.p) ∧ w.cell? ⟨g, off + 1, none⟩ = some (.int .i64 X.r) ∧ w.cell? ⟨g, off + 2, none⟩ = some (.int .i64 X.s) ∧ w.cell? ⟨g, off + 3, none⟩ = some u ∧ BlksV w u X.bs
theorem CodAt.below {w w' : World} {g off : Nat} {X : Cod} (h : CodAt w g off X) (hB : Below w.heap.size w w') : CodAt w' g off X := by
  obtain ⟨u, h1, h2, h3, h4, h5⟩ := h
  exact ⟨u, cell_below hB h1, cell_below hB h2, cell_below hB h3, cell_below hB h4, h5.below hB⟩
/-- What is known of each temporary of '[]api.Code{c, Made(s, regs, slots, more)}'. -/
def G55 (C : Cod) (uc su : Value) (sa sb sc rg sl : Int) (ms : List Int) (ma : Option Addr) (mc : Nat) : Tmp → Value → World → Prop
  | 25, xx, _ => xx = .agg #[.int .i64 C.p, .int .i64 C.r, .int .i64 C.s, uc]
  | 26, xx, _ => xx = .agg #[.int .u8 sa, .int .u8 sb, .int .u8 sc, su]
  | 27, xx, _ => xx = .int .u8 rg
  | 28, xx, _ => xx = .int .u8 sl
  | 29, xx, _ => xx = .slice ma ms.length mc
  | 30, xx, ww => (∃ (D : Cod) (u : Value), xx = .agg #[.int .i64 D.p, .int .i64 D.r, .int .i64 D.s, u] ∧ BlksV ww u D.bs)
  | 31, xx, ww => (∃ h, xx = .slice (some ⟨h, 0, none⟩) 2 2 ∧ CodAt ww h 0 C ∧ ∃ D, CodAt ww h 4 D)
  | 32, xx, _ => xx = .int .i64 2
  | 33, xx, _ => xx = .int .i64 0
  | _, _, _ => True

theorem G55_below {C : Cod} {uc su : Value} {sa sb sc rg sl : Int} {ms : List Int} {ma : Option Addr} {mc : Nat} {t : Tmp} {y : Value} {W W' : World} (h : G55 C uc su sa sb sc rg sl ms ma mc t y W) (hb : Below W.heap.size W W') : G55 C uc su sa sb sc rg sl ms ma mc t y W' := by
  unfold G55 at h ⊢
  split
  all_goals
    first
      | exact h
      | (obtain ⟨D, u, e1, e2⟩ := h; exact ⟨D, u, e1, e2.below hb⟩)
      | (obtain ⟨q, e1, e2, D, e3⟩ := h; exact ⟨q, e1, e2.below hb, D, e3.below hb⟩)
      | trivial
set_option maxHeartbeats 1000000 in
set_option maxRecDepth 100000 in
theorem r55_ok {Q : Exit → Act → World → Prop} {a0 : Act} {wd : World} {pc ps : Nat} {C : Cod} {uc su : Value} {sa sb sc rg sl : Int} {sbs ms : List Int} {ma : Option Addr} {mc : Nat} (hz : a0.tmps.size = 112) (b5 : a0.eval (.tmp 5) = .pointer (some ⟨pc, 0, none⟩)) (b6 : a0.eval (.tmp 6) = .pointer (some ⟨ps, 0, none⟩)) (b2 : a0.eval (.tmp 2) = .int .u8 rg) (b3 : a0.eval (.tmp 3) = .int .u8 sl) (b4 : a0.eval (.tmp 4) = .slice ma ms.length mc)
    (hC : BlksV wd uc C.bs) (m0 : wd.cell? ⟨pc, 0, none⟩ = some (.int .i64 C.p)) (m1 : wd.cell? ⟨pc, 1, none⟩ = some (.int .i64 C.r)) (m2 : wd.cell? ⟨pc, 2, none⟩ = some (.int .i64 C.s)) (m3 : wd.cell? ⟨pc, 3, none⟩ = some uc)
    (hS : SpecV wd (.agg #[.int .u8 sa, .int .u8 sb, .int .u8 sc, su]) sa sb sc sbs) (s0 : wd.cell? ⟨ps, 0, none⟩ = some (.int .u8 sa)) (s1 : wd.cell? ⟨ps, 1, none⟩ = some (.int .u8 sb)) (s2 : wd.cell? ⟨ps, 2, none⟩ = some (.int .u8 sc)) (s3 : wd.cell? ⟨ps, 3, none⟩ = some su) (hM : Byt wd (.slice ma ms.length mc) ms) (hrg : 0 ≤ rg ∧ rg < 256) (hsl : 0 ≤ sl ∧ sl < 256)
    (hend : ∀ (q : Tmp → Value) (W : World) (h : Nat) (D : Cod), q 31 = .slice (some ⟨h, 0, none⟩) 2 2 → q 32 = .int .i64 2 → q 33 = .int .i64 0 → CodAt W h 0 C → CodAt W h 4 D → Below wd.heap.size wd W → Q .normal (overlay a0 (dstsOf ops55) q) W) : (Code.region 5 ops55 true).wp Try.prog Q a0 wd := by
  obtain ⟨sua, suc, rfl⟩ : ∃ sua suc, su = .slice sua sbs.length suc := by
    obtain ⟨u', e1, _, _, _, hb⟩ := hS
    obtain ⟨x, y, e⟩ := hb.slice
    simp only [Value.agg.injEq, Array.mk.injEq, List.cons.injEq] at e1
    exact ⟨x, y, by rw [e1.2.2.2.1, e]⟩
  refine L.wp_region_eachL (by kernel_rfl) (fun _ t y W => G55 C uc (.slice sua sbs.length suc) sa sb sc rg sl ms ma mc t y W) (fun _ W => Below wd.heap.size wd W) (by rw [hz]; kernel_rfl) (Below.refl _ _).drew ?_ ?_
  · refine And.intro ?_ (And.intro ?_ (And.intro ?_ (And.intro ?_ (And.intro ?_ (And.intro ?_ (And.intro ?_ (And.intro ?_ (And.intro ?_ trivial))))))))
    · refine L.asked_pure rfl rfl (fun _ _ h => h) (fun _ _ _ _ _ h => h) (fun _ _ _ => rfl) (fun l a W H => ?_)
      have e5 : a.eval (.tmp 5) = .pointer (some ⟨pc, 0, none⟩) := (H.base 5 rfl).trans b5
      exact run_load24 rfl e5 (cell_below H.s m0) (cell_below H.s m1) (cell_below H.s m2) (cell_below H.s m3)
    · refine L.asked_pure rfl rfl (fun _ _ h => h) (fun _ _ _ _ _ h => h) (fun _ _ _ => rfl) (fun l a W H => ?_)
      have e6 : a.eval (.tmp 6) = .pointer (some ⟨ps, 0, none⟩) := (H.base 6 rfl).trans b6
      have c0 := cell_below H.s s0
      have c1 := cell_below H.s s1
      have c2 := cell_below H.s s2
      have c3 := cell_below H.s s3
      (simp only [execOp]; try simp only [Option.map]); (try simp only [List.map_toArray, List.map_cons, List.map_nil]); (simp only [e6]; go_simp)
      all_goals (try first | go_num | omega | (rw [IntKind.wrap_i64]; omega) | (rw [IntKind.wrap_u8]; omega))
    · refine L.asked_pure rfl rfl (fun _ _ h => h) (fun _ _ _ _ _ h => h) (fun _ _ _ => rfl) (fun l a W H => ?_)
      have e2 : a.eval (.tmp 2) = .int .u8 rg := (H.base 2 rfl).trans b2
      exact run_move rfl e2
    · refine L.asked_pure rfl rfl (fun _ _ h => h) (fun _ _ _ _ _ h => h) (fun _ _ _ => rfl) (fun l a W H => ?_)
      have e3 : a.eval (.tmp 3) = .int .u8 sl := (H.base 3 rfl).trans b3
      exact run_move rfl e3
    · refine L.asked_pure rfl rfl (fun _ _ h => h) (fun _ _ _ _ _ h => h) (fun _ _ _ => rfl) (fun l a W H => ?_)
      have e4 : a.eval (.tmp 4) = .slice ma ms.length mc := (H.base 4 rfl).trans b4
      exact run_move rfl e4
    · refine L.asked_call rfl Try.func9 (by kernel_rfl) (by kernel_rfl) rfl rfl (fun l a W H => ?_)
      have e26 : a.eval (.tmp 26) = .agg #[.int .u8 sa, .int .u8 sb, .int .u8 sc, .slice sua sbs.length suc] := H.facts 26 rfl
      have e27 : a.eval (.tmp 27) = .int .u8 rg := H.facts 27 rfl
      have e28 : a.eval (.tmp 28) = .int .u8 sl := H.facts 28 rfl
      have e29 : a.eval (.tmp 29) = .slice ma ms.length mc := H.facts 29 rfl
      have ea : (#[.tmp 26, .tmp 27, .tmp 28, .tmp 29] : Array Operand).map a.eval = #[.agg #[.int .u8 sa, .int .u8 sb, .int .u8 sc, .slice sua sbs.length suc], .int .u8 rg, .int .u8 sl, .slice ma ms.length mc] := by
        simp only [List.map_toArray, List.map_cons, List.map_nil, e26, e27, e28, e29]
      rw [ea]
      refine (made5_any _ sa sb sc sbs rg sl _ ms W (hS.below H.s) hrg hsl (hM.below H.s)).mono ?_
      rintro x w' ⟨D, u, rfl, hO, _, _, hB⟩
      exact ⟨_, rfl, ⟨D, u, rfl, hO.v⟩, bel_of H.s hB, fun _ _ _ h => G55_below h hB⟩
    · refine L.asked_any rfl (fun l a W H => ?_)
      have e25 : a.eval (.tmp 25) = .agg #[.int .i64 C.p, .int .i64 C.r, .int .i64 C.s, uc] := H.facts 25 rfl
      obtain ⟨D, u, e30, hD⟩ : ∃ (D : Cod) (u : Value), a.eval (.tmp 30) = .agg #[.int .i64 D.p, .int .i64 D.r, .int .i64 D.s, u] ∧ BlksV W u D.bs := H.facts 30 rfl
      have hV := hC.below H.s
      have hbx := bel1' W (.cells #[.int .i64 C.p, .int .i64 C.r, .int .i64 C.s, uc, .int .i64 D.p, .int .i64 D.r, .int .i64 D.s, u] 24)
      refine ⟨.slice (some ⟨W.heap.size, 0, none⟩) 2 2, W.alloc (.cells #[.int .i64 C.p, .int .i64 C.r, .int .i64 C.s, uc, .int .i64 D.p, .int .i64 D.r, .int .i64 D.s, u] 24), ?_, fun d hd => by cases hd; exact ⟨W.heap.size, rfl, ⟨uc, box_cell (Below.refl _ _) 0 rfl, box_cell (Below.refl _ _) 1 rfl, box_cell (Below.refl _ _) 2 rfl, box_cell (Below.refl _ _) 3 rfl, hV.below hbx⟩, D, ⟨u, box_cell (Below.refl _ _) 4 rfl, box_cell (Below.refl _ _) 5 rfl, box_cell (Below.refl _ _) 6 rfl, box_cell (Below.refl _ _) 7 rfl, hD.below hbx⟩⟩, bel_of H.s hbx, fun _ _ _ h => G55_below h hbx⟩
      obtain ⟨q1, q2, rfl⟩ := hV.slice
      obtain ⟨q3, q4, rfl⟩ := hD.slice
      (simp only [execOp]; try simp only [Option.map]); (try simp only [List.map_toArray, List.map_cons, List.map_nil]); (simp only [e25, e30]; go_simp)
    · refine L.asked_any rfl (fun l a W H => ?_)
      obtain ⟨h, e31, _⟩ : ∃ h, a.eval (.tmp 31) = .slice (some ⟨h, 0, none⟩) 2 2 ∧ CodAt W h 0 C ∧ ∃ D, CodAt W h 4 D := H.facts 31 rfl
      exact ⟨.int .i64 2, W, run_len rfl e31 Try.underlying49, fun d hd => by cases hd; exact rfl, H.s, fun _ _ _ h => h⟩
    · refine L.asked_pure rfl rfl (fun _ _ h => h) (fun _ _ _ _ _ h => h) (fun _ _ _ => rfl) (fun l a W H => ?_)
      exact run_move rfl rfl
  · intro l q W _ hS' hq
    obtain ⟨h, e1, e2, D, e3⟩ : ∃ h, q 31 = .slice (some ⟨h, 0, none⟩) 2 2 ∧ CodAt W h 0 C ∧ ∃ D, CodAt W h 4 D := hq 31 rfl
    exact hend q W h D e1 (hq 32 rfl) (hq 33 rfl) e2 e3 hS'
end Go.Proofs.Ytbgedbahabbanaa
