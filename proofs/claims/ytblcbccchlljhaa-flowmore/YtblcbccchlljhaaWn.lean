/- FlowMore's solve: its drawn region, and the closure. -/
import Derived.Test.YtblcbccchlljhaaRs
namespace Go.Proofs.Ytblcbccchlljhaa
open Go.RowKit Ir Wy

theorem mkL_short (n : Nat) (bs : List Int) (a : Nat) : (ci (mkL n bs bs.length a)).length ≤ 1000 := by
  rw [List.length_map]
  have := (mkL_len n bs bs.length a).2
  omega
/-- FlowMore's problem. -/
abbrev mP (back : Bool) (es : List En) (ms cs : List Int) : Fl.Prob (Nat → Bool) := sP back es (fun _ _ => false) ms cs
theorem zero_fit : ∀ b : Nat, Fl.Fit ((fun _ _ => false : Nat → Nat → Bool) b) := fun _ _ h => by cases h
/-- Solve, at such a problem. -/
theorem more_solve {W : World} {back : Bool} {pb p6 p7 cl fb : Nat} {al : Option Addr} {es : List En} {ms cs : List Int} (hvF : fromV back pb = .func (.func fb) #[] #[.pointer (some ⟨pb, 0, none⟩)]) (hin : EndsIn es) (h0 : 0 < es.length) (h7 : es.length ≤ 7) (hp : W.heap[pb]? = some (.cells #[.slice al es.length cl] 26 (0, 0))) (hE : EndsV W (.slice al es.length cl) es) (tl : TabV W p7 es.length (fun b => ci (mkL es.length cs cs.length b))) (tm : TabV W p6 es.length (fun b => ci (mkL es.length ms ms.length b))) :
    Calls Try.prog 11 #[.agg #[.int .i64 (es.length : Int), .func (.func fb) #[] #[.pointer (some ⟨pb, 0, none⟩)], .func (.func 28) #[] #[], .func (.func 13) #[] #[], .func (.func 29) #[] #[.pointer (some ⟨p7, 0, none⟩), .pointer (some ⟨p6, 0, none⟩)]]] W fun e w' => ∃ g cap fs, e = .returned (.slice (some ⟨g, 0, none⟩) es.length cap) ∧ W.heap.size ≤ g ∧ (mP back es ms cs).Come fs ∧ (mP back es ms cs).Still fs ∧ S.FactsAt w' g es.length fs ∧ Below W.heap.size W w' := by
  rw [← hvF]
  exact sP_solve W back pb es ms cs (fun _ _ => false) hin h0 h7 zero_fit (sP_fns W back pb p7 p6 al cl es ms cs (fun _ _ => false) _ _ hin h7 hp hE tl tm
    (fun W _ b _ => callV_func Try.func28 rfl rfl (zero28 (b : Int) W))
    (fun a v f W hv tl tm ha => callV_func Try.func29 rfl rfl (pass29 es.length a v f _ _ _ _ W hv tl tm ha (mkL_short _ cs a) (mkL_short _ ms a)))) rfl rfl
def ops_r27 : Array Oper := #[⟨some 15, .load 26 (.tmp 1), 26, "law.go:184", #[], none⟩, ⟨some 16, .call { callee := Callee.builtin Builtin.len, args := #[.tmp 15], argTypes := #[26] }, 3, "law.go:184", #[⟨0, .data⟩], none⟩, ⟨some 17, .load 26 (.tmp 1), 26, "law.go:184", #[], none⟩, ⟨some 18, .load 4 (.tmp 3), 4, "law.go:184", #[], none⟩, ⟨some 19, .call { callee := Callee.value (Operand.func 10), args := #[.tmp 17, .tmp 18], argTypes := #[26, 4] }, 33, "law.go:186", #[⟨2, .data⟩, ⟨3, .data⟩], none⟩, ⟨some 20, .makeFunc (Fn.func 29) #[] #[.tmp 7, .tmp 6], 49, "law.go:184", #[], none⟩, ⟨some 21, .build 51 #[(0, .tmp 16), (1, .tmp 19), (2, Operand.func 28), (3, Operand.func 13), (4, .tmp 20)], 51, "law.go:184", #[⟨1, .data⟩, ⟨4, .data⟩, ⟨5, .data⟩], none⟩, ⟨some 22, .call { callee := Callee.value (Operand.func 11), args := #[.tmp 21], argTypes := #[51] }, 35, "law.go:184", #[⟨6, .data⟩, ⟨4, .chain⟩], none⟩, ⟨some 5, .assign (.tmp 22), 35, "law.go:184", #[⟨7, .data⟩, ⟨7, .chain⟩, ⟨0, .phase⟩, ⟨1, .phase⟩, ⟨2, .phase⟩, ⟨3, .phase⟩, ⟨4, .phase⟩, ⟨5, .phase⟩, ⟨6, .phase⟩, ⟨7, .phase⟩], none⟩]
/-- How far it has come. -/
structure S27 (back : Bool) (es : List En) (ms cs : List Int) (al : Option Addr) (cl p6 p7 : Nat) (wa : World) (l : Nat → Bool) (s : Tmp → Value) (W : World) : Prop where
  bel : Below wa.heap.size wa W
  mid : l 4 = true → ∃ pb fb, s 19 = .func (.func fb) #[] #[.pointer (some ⟨pb, 0, none⟩)] ∧ fromV back pb = .func (.func fb) #[] #[.pointer (some ⟨pb, 0, none⟩)] ∧ W.heap[pb]? = some (.cells #[.slice al es.length cl] 26 (0, 0))
  bld : l 6 = true → s 21 = .agg #[.int .i64 (es.length : Int), s 19, .func (.func 28) #[] #[], .func (.func 13) #[] #[], .func (.func 29) #[] #[.pointer (some ⟨p7, 0, none⟩), .pointer (some ⟨p6, 0, none⟩)]]
  post : l 7 = true → ∃ g cap fs, s 22 = .slice (some ⟨g, 0, none⟩) es.length cap ∧ wa.heap.size ≤ g ∧ (mP back es ms cs).Come fs ∧ (mP back es ms cs).Still fs ∧ S.FactsAt W g es.length fs
  asg : l 8 = true → s 5 = s 22
set_option maxHeartbeats 2000000 in
set_option maxRecDepth 100000 in
theorem r27_ok {Q : Exit → Act → World → Prop} {a0 : Act} {wa : World} (back : Bool) (es : List En) (ms cs : List Int) (al : Option Addr) (cl p1 p3 p6 p7 : Nat) (hin : EndsIn es) (h0 : 0 < es.length) (h7 : es.length ≤ 7) (hz : a0.tmps.size = 23) (b1 : a0.eval (.tmp 1) = .pointer (some ⟨p1, 0, none⟩)) (b3 : a0.eval (.tmp 3) = .pointer (some ⟨p3, 0, none⟩)) (b6 : a0.eval (.tmp 6) = .pointer (some ⟨p6, 0, none⟩)) (b7 : a0.eval (.tmp 7) = .pointer (some ⟨p7, 0, none⟩))
    (hl : wa.heap[p1]? = some (.cells #[.slice al es.length cl] 26 (0, 0))) (hk : wa.heap[p3]? = some (.cells #[.bool back] 4 (0, 0))) (hE : EndsV wa (.slice al es.length cl) es) (tl : TabV wa p7 es.length (fun b => ci (mkL es.length cs cs.length b))) (tm : TabV wa p6 es.length (fun b => ci (mkL es.length ms ms.length b)))
    (hend : ∀ (s : Tmp → Value) (W : World) (g cap : Nat) (fs : Nat → Nat → Bool), s 5 = .slice (some ⟨g, 0, none⟩) es.length cap → wa.heap.size ≤ g → (mP back es ms cs).Come fs → (mP back es ms cs).Still fs → S.FactsAt W g es.length fs → Below wa.heap.size wa W → Q .normal (overlay a0 (dstsOf ops_r27) s) W) : (Code.region 2 ops_r27 true).wp Try.prog Q a0 wa := by
  have hmf : ∀ (fn : Fn) (first cap : Array Value) (w : World), (Instr.makeFunc fn first cap).run Try.prog w = .ok (.func fn first cap) w := fun _ _ _ _ => rfl
  have cellL : ∀ W, Below wa.heap.size wa W → W.cell? ⟨p1, 0, none⟩ = some (.slice al es.length cl) := fun W hB => (cell_of_row _ _ _ _ _ _ ((hB.block _ (heap_lt' hl)).trans hl)).trans rfl
  refine L3.wp_region_eachL (by kernel_rfl) (fun _ t v _ => (match t with | 15 => v = .slice al es.length cl | 16 => v = .int .i64 (es.length : Int) | 17 => v = .slice al es.length cl | 18 => v = .bool back | 20 => v = .func (.func 29) #[] #[.pointer (some ⟨p7, 0, none⟩), .pointer (some ⟨p6, 0, none⟩)] | _ => True)) (S27 back es ms cs al cl p6 p7 wa) (by rw [hz]; kernel_rfl) ⟨(Below.refl _ _).drew, fun h => (by simp at h), fun h => (by simp at h), fun h => (by simp at h), fun h => by simp at h⟩ ?_ ?_
  · refine And.intro ?_ (And.intro ?_ (And.intro ?_ (And.intro ?_ (And.intro ?_ (And.intro ?_ (And.intro ?_ (And.intro ?_ (And.intro ?_ trivial))))))))
    · refine L3.asked_any rfl fun l x W H => ⟨.slice al es.length cl, W, ?_, (fun d hd => by cases hd; rfl), ⟨H.s.bel, H.s.mid, H.s.bld, H.s.post, H.s.asg⟩, fun _ _ h => h⟩
      have e1 : x.eval (.tmp 1) = .pointer (some ⟨p1, 0, none⟩) := (H.base 1 rfl).trans b1
      have hcell := cellL W H.s.bel
      (simp only [execOp]; simp only [e1]; go_simp)
    · exact L3.asked_any rfl fun l x W H => ⟨.int .i64 (es.length : Int), W, exec_len Try.underlying26 rfl (H.facts 15 rfl), (fun d hd => by cases hd; rfl), ⟨H.s.bel, H.s.mid, H.s.bld, H.s.post, H.s.asg⟩, fun _ _ h => h⟩
    · refine L3.asked_any rfl fun l x W H => ⟨.slice al es.length cl, W, ?_, (fun d hd => by cases hd; rfl), ⟨H.s.bel, H.s.mid, H.s.bld, H.s.post, H.s.asg⟩, fun _ _ h => h⟩
      have e1 : x.eval (.tmp 1) = .pointer (some ⟨p1, 0, none⟩) := (H.base 1 rfl).trans b1
      have hcell := cellL W H.s.bel
      (simp only [execOp]; simp only [e1]; go_simp)
    · refine L3.asked_any rfl fun l x W H => ⟨.bool back, W, ?_, (fun d hd => by cases hd; rfl), ⟨H.s.bel, H.s.mid, H.s.bld, H.s.post, H.s.asg⟩, fun _ _ h => h⟩
      have e3 : x.eval (.tmp 3) = .pointer (some ⟨p3, 0, none⟩) := (H.base 3 rfl).trans b3
      have hcell : W.cell? ⟨p3, 0, none⟩ = some (.bool back) := (cell_of_row _ _ _ _ _ _ ((H.s.bel.block _ (heap_lt' hk)).trans hk)).trans rfl
      (simp only [execOp]; simp only [e3]; go_simp)
    · refine L3.asked_call rfl Try.func10 rfl rfl rfl rfl fun l x W H => ?_
      have e17 : x.eval (.tmp 17) = .slice al es.length cl := H.facts 17 rfl
      have e18 : x.eval (.tmp 18) = .bool back := H.facts 18 rfl
      have n6 : l 6 = false := dep_in H 6 rfl
      have n7 : l 7 = false := dep_in H 7 rfl
      simp only [List.map_toArray, List.map_cons, List.map_nil, e17, e18]
      refine (ahead_new W al es.length cl back).mono ?_
      rintro e W' ⟨pb, fb, rfl, h1, h2, h3⟩
      exact ⟨_, rfl, trivial, ⟨bel_of H.s.bel h3, fun _ => ⟨pb, fb, rfl, h1, h2⟩, fun h => (by rw [show (upd l 4) 6 = l 6 from rfl, n6] at h; cases h), fun h => (by rw [show (upd l 4) 7 = l 7 from rfl, n7] at h; cases h), H.s.asg⟩, fun _ _ h => h⟩
    · refine L3.asked_any rfl fun l x W H => ⟨.func (.func 29) #[] #[.pointer (some ⟨p7, 0, none⟩), .pointer (some ⟨p6, 0, none⟩)], W, ?_, (fun d hd => by cases hd; rfl), ⟨H.s.bel, H.s.mid, H.s.bld, H.s.post, H.s.asg⟩, fun _ _ h => h⟩
      have e6 : x.eval (.tmp 6) = .pointer (some ⟨p6, 0, none⟩) := (H.base 6 rfl).trans b6
      have e7 : x.eval (.tmp 7) = .pointer (some ⟨p7, 0, none⟩) := (H.base 7 rfl).trans b7
      (simp only [execOp]; try simp only [Option.map]); (try simp only [List.map_toArray, List.map_cons, List.map_nil]); (simp only [e6, e7]; go_simp)
    · refine L3.asked_any rfl fun l x W H => ?_
      have e16 : x.eval (.tmp 16) = .int .i64 (es.length : Int) := H.facts 16 rfl
      have e20 : x.eval (.tmp 20) = .func (.func 29) #[] #[.pointer (some ⟨p7, 0, none⟩), .pointer (some ⟨p6, 0, none⟩)] := H.facts 20 rfl
      have n7 : l 7 = false := dep_in H 7 rfl
      obtain ⟨pb, fb, h1, h2, h3⟩ := H.s.mid (H.deps ⟨4, .data⟩ (by simp [Array.mem_def]) rfl)
      have e19 : x.eval (.tmp 19) = .func (.func fb) #[] #[.pointer (some ⟨pb, 0, none⟩)] := h1
      refine ⟨.agg #[.int .i64 (es.length : Int), .func (.func fb) #[] #[.pointer (some ⟨pb, 0, none⟩)], .func (.func 28) #[] #[], .func (.func 13) #[] #[], .func (.func 29) #[] #[.pointer (some ⟨p7, 0, none⟩), .pointer (some ⟨p6, 0, none⟩)]], W, ?_, (fun d hd => by cases hd; trivial), ⟨H.s.bel, H.s.mid, fun _ => ?_, fun h => (by rw [show (upd l 6) 7 = l 7 from rfl, n7] at h; cases h), H.s.asg⟩, fun _ _ h => h⟩
      · (simp only [execOp]; try simp only [Option.map]); (try simp only [List.map_toArray, List.map_cons, List.map_nil]); (simp only [e16, e19, e20]; go_simp)
      · show Value.agg _ = Value.agg #[.int .i64 (es.length : Int), x.eval (.tmp 19), _, _, _]
        rw [e19]
    · refine L3.asked_call rfl Try.func11 rfl rfl rfl rfl fun l x W H => ?_
      have l4 : l 4 = true := H.deps ⟨4, .chain⟩ (by simp [Array.mem_def]) rfl
      have l6 : l 6 = true := H.deps ⟨6, .data⟩ (by simp [Array.mem_def]) rfl
      have n8 : l 8 = false := dep_in H 8 rfl
      obtain ⟨pb, fb, h1, h2, h3⟩ := H.s.mid l4
      have e21 : x.eval (.tmp 21) = .agg #[.int .i64 (es.length : Int), .func (.func fb) #[] #[.pointer (some ⟨pb, 0, none⟩)], .func (.func 28) #[] #[], .func (.func 13) #[] #[], .func (.func 29) #[] #[.pointer (some ⟨p7, 0, none⟩), .pointer (some ⟨p6, 0, none⟩)]] := by
        have h4 := H.s.bld l6
        rw [h1] at h4
        exact h4
      simp only [List.map_toArray, List.map_cons, List.map_nil, e21]
      refine (more_solve (ms := ms) (cs := cs) h2 hin h0 h7 h3 (hE.below H.s.bel) (tl.below H.s.bel) (tm.below H.s.bel)).mono ?_
      rintro e W' ⟨g, cap, fs, rfl, k1, k2, k3, k4, k5⟩
      exact ⟨_, rfl, trivial, ⟨bel_of H.s.bel k5, fun _ => ⟨pb, fb, h1, h2, (k5.block _ (heap_lt' h3)).trans h3⟩, H.s.bld, fun _ => ⟨g, cap, fs, rfl, Nat.le_trans H.s.bel.size k1, k2, k3, k4⟩, fun h => (by rw [show (upd l 7) 8 = l 8 from rfl, n8] at h; cases h)⟩, fun _ _ h => h⟩
    · refine L3.asked_any rfl fun l x W H => ⟨x.eval (.tmp 22), W, Bg.ex_assign rfl rfl, (fun d hd => by cases hd; trivial), ⟨H.s.bel, H.s.mid, H.s.bld, H.s.post, fun _ => rfl⟩, fun _ _ h => h⟩
  · intro l s W hall hS hs
    obtain ⟨g, cap, fs, k1, k2, k3, k4, k5⟩ := hS.post (hall 7 (by decide))
    exact hend s W g cap fs ((hS.asg (hall 8 (by decide))).trans k1) k2 k3 k4 k5 hS.bel
/-- What solve's captures hold. -/
structure Cap (w : World) (p1 p2 p3 : Nat) (al : Option Addr) (cl : Nat) (es : List En) (vc : Value) (cs : List Int) (back : Bool) : Prop where
  l : w.heap[p1]? = some (.cells #[.slice al es.length cl] 26 (0, 0))
  c : w.heap[p2]? = some (.cells #[vc] 22 (0, 0))
  k : w.heap[p3]? = some (.cells #[.bool back] 4 (0, 0))
  e : EndsV w (.slice al es.length cl) es
  b : Byt w vc cs
theorem Cap.below {w w' : World} {p1 p2 p3 : Nat} {al : Option Addr} {cl : Nat} {es : List En} {vc : Value} {cs : List Int} {back : Bool} (h : Cap w p1 p2 p3 al cl es vc cs back) (hB : Below w.heap.size w w') : Cap w' p1 p2 p3 al cl es vc cs back :=
  ⟨(hB.block _ (heap_lt' h.l)).trans h.l, (hB.block _ (heap_lt' h.c)).trans h.c, (hB.block _ (heap_lt' h.k)).trans h.k, h.e.below hB, h.b.below hB⟩
set_option maxHeartbeats 2000000 in
set_option maxRecDepth 100000 in
theorem solve27 (w : World) (p1 p2 p3 : Nat) (al : Option Addr) (cl : Nat) (es : List En) (va vc : Value) (ms cs : List Int) (back : Bool) (hin : EndsIn es) (h0 : 0 < es.length) (h7 : es.length ≤ 7) (h : Cap w p1 p2 p3 al cl es vc cs back) (ha : Byt w va ms) :
    Calls Try.prog 27 #[va, .pointer (some ⟨p1, 0, none⟩), .pointer (some ⟨p2, 0, none⟩), .pointer (some ⟨p3, 0, none⟩)] w fun e w' => ∃ g cap fs, e = .returned (.slice (some ⟨g, 0, none⟩) es.length cap) ∧ w.heap.size ≤ g ∧ (mP back es ms cs).Come fs ∧ (mP back es ms cs).Still fs ∧ S.FactsAt w' g es.length fs ∧ Below w.heap.size w w' := by
  have k1 : w.cell? ⟨p1, 0, none⟩ = some (.slice al es.length cl) := (cell_of_row _ _ _ _ _ _ h.l).trans rfl
  have k2 : w.cell? ⟨p2, 0, none⟩ = some vc := (cell_of_row _ _ _ _ _ _ h.c).trans rfl
  have HC := hide h
  have HA := hide ha
  obtain ⟨ac, cc, rfl⟩ := h.b.slice
  obtain ⟨aa, ca, rfl⟩ := ha.slice
  clear h ha
  go_enter Try.func27, Try.ntmps27
  go_wp2_with (go_at_call 9; refine (marks_any w al es.length cl _ _ ms cs h0 (by omega) HA.out HC.out.b).mono ?_; rintro e w4 ⟨gm, gl, Vm, Vl, rfl, hW4⟩; have HW4 := hide hW4; clear hW4)
  have HW5 := hide ((bel1' w4 (.cells #[.slice (some ⟨gm, 0, none⟩) es.length es.length] 30)).trans ((bel1' (w4.alloc (.cells #[.slice (some ⟨gm, 0, none⟩) es.length es.length] 30)) (.cells #[.slice (some ⟨gl, 0, none⟩) es.length es.length] 30)).mono (by simp)))
  have HPM := hide ((bel1' (w4.alloc (.cells #[.slice (some ⟨gm, 0, none⟩) es.length es.length] 30)) (.cells #[.slice (some ⟨gl, 0, none⟩) es.length es.length] 30)).block w4.heap.size (by simp) |>.trans (heap_alloc_new w4 _))
  have HPL := heap_alloc_new (w4.alloc (.cells #[.slice (some ⟨gm, 0, none⟩) es.length es.length] 30)) (.cells #[.slice (some ⟨gl, 0, none⟩) es.length es.length] 30)
  rw [World.size_alloc] at HPL
  have HPL := hide HPL
  generalize (w4.alloc (.cells #[.slice (some ⟨gm, 0, none⟩) es.length es.length] 30)).alloc (.cells #[.slice (some ⟨gl, 0, none⟩) es.length es.length] 30) = w5 at *
  have hB5 := hide (bel_of HW4.out.below HW5.out)
  have HC5 := hide (HC.out.below hB5.out)
  refine r27_ok back es ms cs al cl p1 p3 w4.heap.size (w4.heap.size + 1) hin h0 h7 rfl rfl rfl rfl rfl HC5.out.l HC5.out.k HC5.out.e (marks_tab HW4.out.swap HPL.out HW5.out) (marks_tab HW4.out HPM.out HW5.out) ?_
  intro s W g cap fs hs5 hg hCo hSt hF hB
  have HE := hide (show w.heap.size ≤ g ∧ (mP back es ms cs).Come fs ∧ (mP back es ms cs).Still fs ∧ S.FactsAt W g es.length fs ∧ Below w.heap.size w W from ⟨Nat.le_trans hB5.out.size hg, hCo, hSt, hF, bel_of hB5.out hB⟩)
  clear hg hCo hSt hF hB
  simp [overlay, dstsOf, ops_r27, hs5]
  go_wp2_with fail
  go_ret
  exact ⟨g, cap, fs, rfl, HE.out⟩
end Go.Proofs.Ytblcbccchlljhaa
