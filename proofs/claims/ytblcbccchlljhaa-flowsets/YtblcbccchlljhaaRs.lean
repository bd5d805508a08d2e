/- FlowStays' drawn regions, FlowMore's: joins into facts. -/
import Derived.Test.YtblcbccchlljhaaPb
namespace Go.Proofs.Ytblcbccchlljhaa.S
open Go.RowKit Ir Wy

def ops_t13 : Array Oper := #[⟨some 54, .fieldAddr 51 (.tmp 12) 3, 0, "law.go:164", #[], none⟩, ⟨some 55, .load 42 (.tmp 54), 42, "law.go:164", #[⟨0, .data⟩], none⟩, ⟨some 56, .move (.tmp 13), 35, "law.go:164", #[], none⟩, ⟨some 57, .move (.tmp 14), 3, "law.go:164", #[], none⟩, ⟨some 58, .indexAddr 35 (.tmp 56) (.tmp 57), 0, "law.go:164", #[⟨2, .data⟩, ⟨3, .data⟩], none⟩, ⟨some 59, .fieldAddr 51 (.tmp 12) 4, 0, "law.go:164", #[], none⟩, ⟨some 60, .load 49 (.tmp 59), 49, "law.go:164", #[⟨5, .data⟩], none⟩, ⟨some 61, .move (.tmp 16), 3, "law.go:164", #[], none⟩, ⟨some 62, .move (.tmp 13), 35, "law.go:164", #[], none⟩, ⟨some 63, .move (.tmp 16), 3, "law.go:164", #[], none⟩, ⟨some 64, .indexAddr 35 (.tmp 62) (.tmp 63), 0, "law.go:164", #[⟨8, .data⟩, ⟨9, .data⟩], none⟩, ⟨some 65, .load 40 (.tmp 64), 40, "law.go:164", #[⟨10, .data⟩], none⟩, ⟨some 66, .call { callee := Callee.value (.tmp 60), args := #[.tmp 61, .tmp 65], argTypes := #[3, 40] }, 40, "law.go:164", #[⟨6, .data⟩, ⟨7, .data⟩, ⟨11, .data⟩], none⟩, ⟨some 67, .call { callee := Callee.value (.tmp 55), args := #[.tmp 58, .tmp 66], argTypes := #[44, 40] }, 4, "law.go:164", #[⟨1, .data⟩, ⟨4, .data⟩, ⟨12, .data⟩, ⟨12, .chain⟩], none⟩]
set_option maxHeartbeats 2000000 in
set_option maxRecDepth 100000 in
theorem t13_ok {Q : Exit → Act → World → Prop} {a0 : Act} {wa w0 : World} {p : Fl.Prob Fc} {vF vI vJ vP : Value} (hf : FnsOk w0 p vF vI vJ vP) (g cap b a pb : Nat) (fs : Nat → Fc) (t : TypeId) (hz : a0.tmps.size = 84) (b1 : a0.eval (.tmp 13) = .slice (some ⟨g, 0, none⟩) p.n cap) (b2 : a0.eval (.tmp 14) = .int .i64 (b : Int)) (b4 : a0.eval (.tmp 12) = .pointer (some ⟨pb, 0, none⟩)) (b11 : a0.eval (.tmp 16) = .int .i64 (a : Int))
    (hp : wa.heap[pb]? = some (.cells #[.int .i64 (p.n : Int), vF, vI, vJ, vP] t (0, 0))) (hW : Below w0.heap.size w0 wa) (hg : w0.heap.size ≤ g) (hc : p.Come fs) (hb : b < p.n) (ha : a < p.n) (hm : a ∈ p.frm b) (hF : FactsAt wa g p.n fs)
    (hend : ∀ (s : Tmp → Value) (W : World), s 67 = .bool (p.does fs b a) → FactsAt W g p.n (p.step fs b a) → wa.grownBy W (some g) → Q .normal (overlay a0 (dstsOf ops_t13) s) W) : (Code.region 13 ops_t13 true).wp Try.prog Q a0 wa := by
  have hb' : (b : Int) < (p.n : Int) := by omega
  have ha' : (a : Int) < (p.n : Int) := by omega
  refine L3.wp_region_eachL (by kernel_rfl) (fun _ t v _ => (match t with | 54 => v = .pointer (some ⟨pb, 3, none⟩) | 55 => v = vJ | 56 => v = .slice (some ⟨g, 0, none⟩) p.n cap | 57 => v = .int .i64 (b : Int) | 58 => v = .pointer (some ⟨g, b * 64, none⟩) | 59 => v = .pointer (some ⟨pb, 4, none⟩) | 60 => v = vP | 61 => v = .int .i64 (a : Int) | 62 => v = .slice (some ⟨g, 0, none⟩) p.n cap | 63 => v = .int .i64 (a : Int) | 64 => v = .pointer (some ⟨g, a * 64, none⟩) | 65 => FV v (fs a) | 66 => FV v (p.pass a (fs a)) | 67 => v = .bool (p.does fs b a) | _ => True)) (fun l _ W => Sse g p.n fs (p.step fs b a) wa l W) (by rw [hz]; kernel_rfl) ⟨fun _ => (Below.refl _ _).drew, fun h => by simp at h⟩ ?_ ?_
  · refine And.intro ?_ (And.intro ?_ (And.intro ?_ (And.intro ?_ (And.intro ?_ (And.intro ?_ (And.intro ?_ (And.intro ?_ (And.intro ?_ (And.intro ?_ (And.intro ?_ (And.intro ?_ (And.intro ?_ (And.intro ?_ trivial)))))))))))))
    · refine L3.asked_any rfl fun l x W H => ⟨.pointer (some ⟨pb, 3, none⟩), W, ?_, (fun d hd => by cases hd; rfl), ⟨H.s.pre, H.s.post⟩, fun _ _ h => h⟩
      have e4 : x.eval (.tmp 12) = .pointer (some ⟨pb, 0, none⟩) := (H.base 12 rfl).trans b4
      (simp only [execOp]; simp only [e4]; go_simp)
    · refine L3.asked_any rfl fun l x W H => ⟨vJ, W, ?_, (fun d hd => by cases hd; rfl), ⟨H.s.pre, H.s.post⟩, fun _ _ h => h⟩
      have e18 : x.eval (.tmp 54) = .pointer (some ⟨pb, 3, none⟩) := H.facts 54 rfl
      have hw := H.s.pre (dep_in H 13 rfl)
      have hcell : W.cell? ⟨pb, 3, none⟩ = some vJ := by rw [cell_of_row _ _ _ _ _ _ ((hw.block pb (Array.getElem?_eq_some_iff.1 hp).1).trans hp)]; rfl
      (simp only [execOp]; simp only [e18]; go_simp)
    · exact L3.asked_any rfl fun l x W H => ⟨.slice (some ⟨g, 0, none⟩) p.n cap, W, Bg.ex_move rfl ((H.base 13 rfl).trans b1), (fun d hd => by cases hd; rfl), ⟨H.s.pre, H.s.post⟩, fun _ _ h => h⟩
    · exact L3.asked_any rfl fun l x W H => ⟨.int .i64 (b : Int), W, Bg.ex_move rfl ((H.base 14 rfl).trans b2), (fun d hd => by cases hd; rfl), ⟨H.s.pre, H.s.post⟩, fun _ _ h => h⟩
    · refine L3.asked_any rfl fun l x W H => ⟨.pointer (some ⟨g, b * 64, none⟩), W, ?_, (fun d hd => by cases hd; rfl), ⟨H.s.pre, H.s.post⟩, fun _ _ h => h⟩
      have e20 : x.eval (.tmp 56) = .slice (some ⟨g, 0, none⟩) p.n cap := H.facts 56 rfl
      have e21 : x.eval (.tmp 57) = .int .i64 (b : Int) := H.facts 57 rfl
      (simp only [execOp]; simp only [e20, e21]; go_simp)
    · refine L3.asked_any rfl fun l x W H => ⟨.pointer (some ⟨pb, 4, none⟩), W, ?_, (fun d hd => by cases hd; rfl), ⟨H.s.pre, H.s.post⟩, fun _ _ h => h⟩
      have e4 : x.eval (.tmp 12) = .pointer (some ⟨pb, 0, none⟩) := (H.base 12 rfl).trans b4
      (simp only [execOp]; simp only [e4]; go_simp)
    · refine L3.asked_any rfl fun l x W H => ⟨vP, W, ?_, (fun d hd => by cases hd; rfl), ⟨H.s.pre, H.s.post⟩, fun _ _ h => h⟩
      have e23 : x.eval (.tmp 59) = .pointer (some ⟨pb, 4, none⟩) := H.facts 59 rfl
      have hw := H.s.pre (dep_in2 H 13 12 rfl rfl)
      have hcell : W.cell? ⟨pb, 4, none⟩ = some vP := by rw [cell_of_row _ _ _ _ _ _ ((hw.block pb (Array.getElem?_eq_some_iff.1 hp).1).trans hp)]; rfl
      (simp only [execOp]; simp only [e23]; go_simp)
    · exact L3.asked_any rfl fun l x W H => ⟨.int .i64 (a : Int), W, Bg.ex_move rfl ((H.base 16 rfl).trans b11), (fun d hd => by cases hd; rfl), ⟨H.s.pre, H.s.post⟩, fun _ _ h => h⟩
    · exact L3.asked_any rfl fun l x W H => ⟨.slice (some ⟨g, 0, none⟩) p.n cap, W, Bg.ex_move rfl ((H.base 13 rfl).trans b1), (fun d hd => by cases hd; rfl), ⟨H.s.pre, H.s.post⟩, fun _ _ h => h⟩
    · exact L3.asked_any rfl fun l x W H => ⟨.int .i64 (a : Int), W, Bg.ex_move rfl ((H.base 16 rfl).trans b11), (fun d hd => by cases hd; rfl), ⟨H.s.pre, H.s.post⟩, fun _ _ h => h⟩
    · refine L3.asked_any rfl fun l x W H => ⟨.pointer (some ⟨g, a * 64, none⟩), W, ?_, (fun d hd => by cases hd; rfl), ⟨H.s.pre, H.s.post⟩, fun _ _ h => h⟩
      have e26 : x.eval (.tmp 62) = .slice (some ⟨g, 0, none⟩) p.n cap := H.facts 62 rfl
      have e27 : x.eval (.tmp 63) = .int .i64 (a : Int) := H.facts 63 rfl
      (simp only [execOp]; simp only [e26, e27]; go_simp)
    · refine L3.asked_any rfl fun l x W H => ?_
      have e28 : x.eval (.tmp 64) = .pointer (some ⟨g, a * 64, none⟩) := H.facts 64 rfl
      have hw := H.s.pre (dep_in2 H 13 12 rfl rfl)
      obtain ⟨cs, h1, h2⟩ := (hF.below hw a ha : Bg.SetO W g (a * 64) (fs a)).load
      exact ⟨.agg cs, W, Bg.ex_load_o rfl e28 h2 h1.1, (fun d hd => by cases hd; exact ⟨cs, rfl, h1⟩), ⟨H.s.pre, H.s.post⟩, fun _ _ h => h⟩
    · refine L3.asked_callv rfl rfl rfl fun l x W H => ?_
      have e24 : x.eval (.tmp 60) = vP := H.facts 60 rfl
      have e25 : x.eval (.tmp 61) = .int .i64 (a : Int) := H.facts 61 rfl
      have e29 : FV (x.eval (.tmp 65)) (fs a) := H.facts 65 rfl
      have n13 : l 13 = false := dep_in H 13 rfl
      have hw := H.s.pre n13
      rw [e24]
      simp only [List.map_toArray, List.map_cons, List.map_nil, e25]
      refine (hf.pass fs hc a ha W (hW.trans (hw.mono hW.size)) _ e29).mono ?_
      rintro e W' ⟨u, rfl, hu, hB⟩
      exact ⟨u, rfl, hu, ⟨fun _ => bel_of hw hB, fun h => (by rw [show (upd l 12) 13 = l 13 from rfl, n13] at h; cases h)⟩, fun _ _ h => h⟩
    · refine L3.asked_callv rfl rfl rfl fun l x W H => ?_
      have e19 : x.eval (.tmp 55) = vJ := H.facts 55 rfl
      have e22 : x.eval (.tmp 58) = .pointer (some ⟨g, b * 64, none⟩) := H.facts 58 rfl
      have e30 : FV (x.eval (.tmp 66)) (p.pass a (fs a)) := H.facts 66 rfl
      have hw := H.s.pre H.new
      have hFW := hF.below hw
      rw [e19]
      simp only [List.map_toArray, List.map_cons, List.map_nil, e22]
      refine (hf.join fs hc b a hb ha hm W (hW.trans (hw.mono hW.size)) g _ hg (hFW b hb) e30).mono ?_
      rintro e W' ⟨rfl, hu, hB, hO⟩
      exact ⟨_, rfl, rfl, ⟨fun h => (by rw [show (upd l 13) 13 = true from rfl] at h; cases h), fun _ => ⟨hFW.upd hO (by simpa [Fl.Prob.step] using hu) (fun x hx => by simp [Fl.Prob.step, hx]), Bg.gb_then (Bg.gb_of hw) hB⟩⟩, fun _ _ h => h⟩
  · intro l s W hall hS hs
    obtain ⟨h1, h2⟩ := hS.post (hall 13 (by decide))
    exact hend s W (hs 67 rfl) h1 h2

/-- Before a join, behind it. -/
structure Sj (J : Nat) (P : World → Prop) (wa : World) (l : Nat → Bool) (W : World) : Prop where
  pre : l J = false → Below wa.heap.size wa W
  post : l J = true → P W
def joined (fs : Nat → Fc) (b : Nat) (h : Fc) : Nat → Fc := fun x => if x = b then Fl.un (fs b) h else fs x
def ops_t17 : Array Oper := #[⟨some 73, .move (.tmp 13), 35, "law.go:169", #[], none⟩, ⟨some 74, .move (.tmp 14), 3, "law.go:169", #[], none⟩, ⟨some 75, .indexAddr 35 (.tmp 73) (.tmp 74), 0, "law.go:169", #[⟨0, .data⟩, ⟨1, .data⟩], none⟩, ⟨some 76, .load 40 (.tmp 17), 40, "law.go:169", #[], none⟩, ⟨some 77, .call { callee := Callee.value (Operand.func 13), args := #[.tmp 75, .tmp 76], argTypes := #[40, 40] }, 4, "law.go:169", #[⟨2, .data⟩, ⟨3, .data⟩], none⟩]
set_option maxHeartbeats 2000000 in
set_option maxRecDepth 100000 in
theorem t17_ok {Q : Exit → Act → World → Prop} {a0 : Act} {wa : World} (g n cap b pf : Nat) (fs : Nat → Fc) (h : Fc) (hz : a0.tmps.size = 84) (b13 : a0.eval (.tmp 13) = .slice (some ⟨g, 0, none⟩) n cap) (b14 : a0.eval (.tmp 14) = .int .i64 (b : Int)) (b17 : a0.eval (.tmp 17) = .pointer (some ⟨pf, 0, none⟩)) (cs : Array Value) (hpf : wa.heap[pf]? = some (.cells cs 40 (0, 0))) (hcs : Bg.SetC cs h) (hb : b < n) (hF : FactsAt wa g n fs)
    (hend : ∀ (s : Tmp → Value) (W : World), s 77 = .bool (!Fl.sm (fs b) (Fl.un (fs b) h) 4096) → FactsAt W g n (joined fs b h) → wa.grownBy W (some g) → Q .normal (overlay a0 (dstsOf ops_t17) s) W) : (Code.region 17 ops_t17 true).wp Try.prog Q a0 wa := by
  have hb' : (b : Int) < (n : Int) := by omega
  refine L3.wp_region_eachL (by kernel_rfl) (fun _ t v _ => (match t with | 73 => v = .slice (some ⟨g, 0, none⟩) n cap | 74 => v = .int .i64 (b : Int) | 75 => v = .pointer (some ⟨g, b * 64, none⟩) | 76 => v = .agg cs | 77 => v = .bool (!Fl.sm (fs b) (Fl.un (fs b) h) 4096) | _ => True)) (fun l _ W => Sj 4 (fun W => FactsAt W g n (joined fs b h) ∧ wa.grownBy W (some g)) wa l W) (by rw [hz]; kernel_rfl) ⟨fun _ => (Below.refl _ _).drew, fun h => by simp at h⟩ ?_ ?_
  · refine And.intro ?_ (And.intro ?_ (And.intro ?_ (And.intro ?_ (And.intro ?_ trivial))))
    · exact L3.asked_any rfl fun l x W H => ⟨.slice (some ⟨g, 0, none⟩) n cap, W, Bg.ex_move rfl ((H.base 13 rfl).trans b13), (fun d hd => by cases hd; rfl), ⟨H.s.pre, H.s.post⟩, fun _ _ h => h⟩
    · exact L3.asked_any rfl fun l x W H => ⟨.int .i64 (b : Int), W, Bg.ex_move rfl ((H.base 14 rfl).trans b14), (fun d hd => by cases hd; rfl), ⟨H.s.pre, H.s.post⟩, fun _ _ h => h⟩
    · refine L3.asked_any rfl fun l x W H => ⟨.pointer (some ⟨g, b * 64, none⟩), W, ?_, (fun d hd => by cases hd; rfl), ⟨H.s.pre, H.s.post⟩, fun _ _ h => h⟩
      have e73 : x.eval (.tmp 73) = .slice (some ⟨g, 0, none⟩) n cap := H.facts 73 rfl
      have e74 : x.eval (.tmp 74) = .int .i64 (b : Int) := H.facts 74 rfl
      (simp only [execOp]; simp only [e73, e74]; go_simp)
    · refine L3.asked_any rfl fun l x W H => ⟨.agg cs, W, ?_, (fun d hd => by cases hd; rfl), ⟨H.s.pre, H.s.post⟩, fun _ _ h => h⟩
      have e17 : x.eval (.tmp 17) = .pointer (some ⟨pf, 0, none⟩) := (H.base 17 rfl).trans b17
      have hw := H.s.pre (dep_in H 4 rfl)
      exact Bg.ex_load rfl e17 ((hw.block pf (Array.getElem?_eq_some_iff.1 hpf).1).trans hpf) Try.underlying40 rfl (by rw [hcs.1]; exact Bg.info27)
    · refine L3.asked_call rfl Try.func13 rfl rfl rfl rfl fun l x W H => ?_
      have e75 : x.eval (.tmp 75) = .pointer (some ⟨g, b * 64, none⟩) := H.facts 75 rfl
      have e76 : x.eval (.tmp 76) = .agg cs := H.facts 76 rfl
      have hw := H.s.pre H.new
      have hFW := hF.below hw
      simp only [List.map_toArray, List.map_cons, List.map_nil, e75, e76]
      refine (join13 g b _ (fs b) h W (hFW b hb) ⟨cs, rfl, hcs⟩).mono ?_
      rintro e W' ⟨rfl, hu, hB, hO⟩
      exact ⟨_, rfl, rfl, ⟨fun h => (by rw [show (upd l 4) 4 = true from rfl] at h; cases h), fun _ => ⟨hFW.upd hO (by simpa [joined] using hu) (fun x hx => by simp [joined, hx]), Bg.gb_then (Bg.gb_of hw) hB⟩⟩, fun _ _ h => h⟩
  · intro l s W hall hS hs
    obtain ⟨h1, h2⟩ := hS.post (hall 4 (by decide))
    exact hend s W (hs 77 rfl) h1 h2
def ops_t11 : Array Oper := #[⟨some 40, .move (.tmp 14), 35, "law.go:202", #[], none⟩, ⟨some 41, .move (.tmp 15), 3, "law.go:202", #[], none⟩, ⟨some 42, .indexAddr 35 (.tmp 40) (.tmp 41), 0, "law.go:202", #[⟨0, .data⟩, ⟨1, .data⟩], none⟩, ⟨some 43, .move (.tmp 13), 35, "law.go:202", #[], none⟩, ⟨some 44, .move (.tmp 15), 3, "law.go:202", #[], none⟩, ⟨some 45, .indexAddr 35 (.tmp 43) (.tmp 44), 0, "law.go:202", #[⟨3, .data⟩, ⟨4, .data⟩], none⟩, ⟨some 46, .load 40 (.tmp 45), 40, "law.go:202", #[⟨5, .data⟩], none⟩, ⟨some 47, .call { callee := Callee.value (Operand.func 13), args := #[.tmp 42, .tmp 46], argTypes := #[40, 40] }, 4, "law.go:202", #[⟨2, .data⟩, ⟨6, .data⟩], none⟩]
set_option maxHeartbeats 2000000 in
set_option maxRecDepth 100000 in
theorem t11_ok {Q : Exit → Act → World → Prop} {a0 : Act} {wa : World} (g n cap gf capf b : Nat) (fs hs : Nat → Fc) (hz : a0.tmps.size = 61) (b14 : a0.eval (.tmp 14) = .slice (some ⟨g, 0, none⟩) n cap) (b13 : a0.eval (.tmp 13) = .slice (some ⟨gf, 0, none⟩) n capf) (b15 : a0.eval (.tmp 15) = .int .i64 (b : Int)) (hb : b < n) (hF : FactsAt wa g n fs) (hH : FactsAt wa gf n hs)
    (hend : ∀ (s : Tmp → Value) (W : World), s 47 = .bool (!Fl.sm (fs b) (Fl.un (fs b) (hs b)) 4096) → FactsAt W g n (joined fs b (hs b)) → wa.grownBy W (some g) → Q .normal (overlay a0 (dstsOf ops_t11) s) W) : (Code.region 11 ops_t11 true).wp Try.prog Q a0 wa := by
  have hb' : (b : Int) < (n : Int) := by omega
  refine L3.wp_region_eachL (by kernel_rfl) (fun _ t v _ => (match t with | 40 => v = .slice (some ⟨g, 0, none⟩) n cap | 41 => v = .int .i64 (b : Int) | 42 => v = .pointer (some ⟨g, b * 64, none⟩) | 43 => v = .slice (some ⟨gf, 0, none⟩) n capf | 44 => v = .int .i64 (b : Int) | 45 => v = .pointer (some ⟨gf, b * 64, none⟩) | 46 => FV v (hs b) | 47 => v = .bool (!Fl.sm (fs b) (Fl.un (fs b) (hs b)) 4096) | _ => True)) (fun l _ W => Sj 7 (fun W => FactsAt W g n (joined fs b (hs b)) ∧ wa.grownBy W (some g)) wa l W) (by rw [hz]; kernel_rfl) ⟨fun _ => (Below.refl _ _).drew, fun h => by simp at h⟩ ?_ ?_
  · refine And.intro ?_ (And.intro ?_ (And.intro ?_ (And.intro ?_ (And.intro ?_ (And.intro ?_ (And.intro ?_ (And.intro ?_ trivial)))))))
    · exact L3.asked_any rfl fun l x W H => ⟨.slice (some ⟨g, 0, none⟩) n cap, W, Bg.ex_move rfl ((H.base 14 rfl).trans b14), (fun d hd => by cases hd; rfl), ⟨H.s.pre, H.s.post⟩, fun _ _ h => h⟩
    · exact L3.asked_any rfl fun l x W H => ⟨.int .i64 (b : Int), W, Bg.ex_move rfl ((H.base 15 rfl).trans b15), (fun d hd => by cases hd; rfl), ⟨H.s.pre, H.s.post⟩, fun _ _ h => h⟩
    · refine L3.asked_any rfl fun l x W H => ⟨.pointer (some ⟨g, b * 64, none⟩), W, ?_, (fun d hd => by cases hd; rfl), ⟨H.s.pre, H.s.post⟩, fun _ _ h => h⟩
      have e40 : x.eval (.tmp 40) = .slice (some ⟨g, 0, none⟩) n cap := H.facts 40 rfl
      have e41 : x.eval (.tmp 41) = .int .i64 (b : Int) := H.facts 41 rfl
      (simp only [execOp]; simp only [e40, e41]; go_simp)
    · exact L3.asked_any rfl fun l x W H => ⟨.slice (some ⟨gf, 0, none⟩) n capf, W, Bg.ex_move rfl ((H.base 13 rfl).trans b13), (fun d hd => by cases hd; rfl), ⟨H.s.pre, H.s.post⟩, fun _ _ h => h⟩
    · exact L3.asked_any rfl fun l x W H => ⟨.int .i64 (b : Int), W, Bg.ex_move rfl ((H.base 15 rfl).trans b15), (fun d hd => by cases hd; rfl), ⟨H.s.pre, H.s.post⟩, fun _ _ h => h⟩
    · refine L3.asked_any rfl fun l x W H => ⟨.pointer (some ⟨gf, b * 64, none⟩), W, ?_, (fun d hd => by cases hd; rfl), ⟨H.s.pre, H.s.post⟩, fun _ _ h => h⟩
      have e43 : x.eval (.tmp 43) = .slice (some ⟨gf, 0, none⟩) n capf := H.facts 43 rfl
      have e44 : x.eval (.tmp 44) = .int .i64 (b : Int) := H.facts 44 rfl
      (simp only [execOp]; simp only [e43, e44]; go_simp)
    · refine L3.asked_any rfl fun l x W H => ?_
      have e45 : x.eval (.tmp 45) = .pointer (some ⟨gf, b * 64, none⟩) := H.facts 45 rfl
      have hw := H.s.pre (dep_in H 7 rfl)
      obtain ⟨cs, h1, h2⟩ := (hH.below hw b hb : Bg.SetO W gf (b * 64) (hs b)).load
      exact ⟨.agg cs, W, Bg.ex_load_o rfl e45 h2 h1.1, (fun d hd => by cases hd; exact ⟨cs, rfl, h1⟩), ⟨H.s.pre, H.s.post⟩, fun _ _ h => h⟩
    · refine L3.asked_call rfl Try.func13 rfl rfl rfl rfl fun l x W H => ?_
      have e42 : x.eval (.tmp 42) = .pointer (some ⟨g, b * 64, none⟩) := H.facts 42 rfl
      have e46 : FV (x.eval (.tmp 46)) (hs b) := H.facts 46 rfl
      have hw := H.s.pre H.new
      have hFW := hF.below hw
      simp only [List.map_toArray, List.map_cons, List.map_nil, e42]
      refine (join13 g b _ (fs b) (hs b) W (hFW b hb) e46).mono ?_
      rintro e W' ⟨rfl, hu, hB, hO⟩
      exact ⟨_, rfl, rfl, ⟨fun h => (by rw [show (upd l 7) 7 = true from rfl] at h; cases h), fun _ => ⟨hFW.upd hO (by simpa [joined] using hu) (fun x hx => by simp [joined, hx]), Bg.gb_then (Bg.gb_of hw) hB⟩⟩, fun _ _ h => h⟩
  · intro l s W hall hS hs
    obtain ⟨h1, h2⟩ := hS.post (hall 7 (by decide))
    exact hend s W (hs 47 rfl) h1 h2
end Go.Proofs.Ytblcbccchlljhaa.S
