/- Facts that are numbers: in memory; what the functions of a problem do; settle. -/
import Derived.Test.YtblcbccchlljhaaFm
import Derived.Test.YtblcbccchlljhaaWy
namespace Go.Proofs.Ytblcbccchlljhaa.I
open Go.RowKit Ir Wy
abbrev Fc := Nat
def FV (v : Value) (f : Fc) : Prop := v = .int .i64 (f : Int)
def FO (w : World) (g j : Nat) (f : Fc) : Prop := w.cell? ⟨g, j, none⟩ = some (.int .i64 (f : Int)) ∧ w.frozen? ⟨g, j, none⟩ = false
def Only (w w' : World) (g j : Nat) : Prop := ∀ i, i ≠ j → w'.cell? ⟨g, i, none⟩ = w.cell? ⟨g, i, none⟩ ∧ w'.frozen? ⟨g, i, none⟩ = w.frozen? ⟨g, i, none⟩
section
variable {w w' w1 : World} {g j k : Nat} {f : Fc} {r : Option Nat}
theorem FO.eq (h : FO w g j f) (he : w'.heap[g]? = w.heap[g]?) : FO w' g j f := by
  obtain ⟨e1, e2⟩ := Bg.cell_eq he j
  exact ⟨e1.trans h.1, e2.trans h.2⟩
theorem FO.lt (h : FO w g j f) : g < w.heap.size := World.block_lt_of_cell? w _ h.1
theorem FO.other (h : FO w g k f) (ho : Only w w' g j) (hne : k ≠ j) : FO w' g k f := ⟨((ho k hne).1).trans h.1, ((ho k hne).2).trans h.2⟩
theorem Only.drew (h : Only w w' g j) : Only w w'.drew g j := h
theorem FO.drew (h : FO w g j f) : FO w.drew g j f := h
end

/-- In block g lie n facts, one behind the other. -/
def FactsAt (w : World) (g n : Nat) (fs : Nat → Fc) : Prop := ∀ j, j < n → FO w g j (fs j)
theorem FactsAt.eq {w w' : World} {g n : Nat} {fs : Nat → Fc} (h : FactsAt w g n fs) (he : w'.heap[g]? = w.heap[g]?) : FactsAt w' g n fs := fun j hj => (h j hj).eq he
theorem FactsAt.below {w w' : World} {g n : Nat} {fs : Nat → Fc} (h : FactsAt w g n fs) (hB : Below w.heap.size w w') : FactsAt w' g n fs := fun j hj => (h j hj).eq (hB.block g (h j hj).lt)
theorem FactsAt.upd {w w' : World} {g n b : Nat} {fs gs : Nat → Fc} (h : FactsAt w g n fs) (ho : Only w w' g b) (hb : FO w' g b (gs b)) (he : ∀ x, x ≠ b → gs x = fs x) : FactsAt w' g n gs := fun j hj => by
  by_cases e : j = b
  · subst e
    exact hb
  · rw [he j e]
    exact (h j hj).other ho e
/-- What a problem's functions do, called in any world that leaves what was there at w0. -/
structure FnsOk (w0 : World) (p : Fl.Prob Fc) (vF vI vJ vP : Value) : Prop where
  frm : FromOk w0 vF p.n p.frm
  first : ∀ W, Below w0.heap.size w0 W → ∀ b, b < p.n → CallV vI #[.int .i64 (b : Int)] W fun e W' => ∃ u, e = .returned u ∧ FV u (p.first b) ∧ Below W.heap.size W W'
  pass : ∀ fs, p.Come fs → ∀ a, a < p.n → ∀ W, Below w0.heap.size w0 W → ∀ v, FV v (fs a) → CallV vP #[.int .i64 (a : Int), v] W fun e W' => ∃ u, e = .returned u ∧ FV u (p.pass a (fs a)) ∧ Below W.heap.size W W'
  join : ∀ fs, p.Come fs → ∀ b a, b < p.n → a < p.n → a ∈ p.frm b → ∀ W, Below w0.heap.size w0 W → ∀ g v, w0.heap.size ≤ g → FO W g b (fs b) → FV v (p.pass a (fs a)) → CallV vJ #[.pointer (some ⟨g, b, none⟩), v] W fun e W' => e = .returned (.bool (p.does fs b a)) ∧ FO W' g b (p.join (fs b) (p.pass a (fs a))) ∧ W.grownBy W' (some g) ∧ Only W W' g b
def ops_se : Array Oper := #[⟨some 18, .fieldAddr 62 (.tmp 4) 3, 0, "flow.go:62", #[], none⟩, ⟨some 19, .load 59 (.tmp 18), 59, "flow.go:62", #[⟨0, .data⟩], none⟩, ⟨some 20, .move (.tmp 1), 48, "flow.go:62", #[], none⟩, ⟨some 21, .move (.tmp 2), 3, "flow.go:62", #[], none⟩, ⟨some 22, .indexAddr 48 (.tmp 20) (.tmp 21), 0, "flow.go:62", #[⟨2, .data⟩, ⟨3, .data⟩], none⟩, ⟨some 23, .fieldAddr 62 (.tmp 4) 4, 0, "flow.go:62", #[], none⟩, ⟨some 24, .load 60 (.tmp 23), 60, "flow.go:62", #[⟨5, .data⟩], none⟩, ⟨some 25, .move (.tmp 11), 3, "flow.go:62", #[], none⟩, ⟨some 26, .move (.tmp 1), 48, "flow.go:62", #[], none⟩, ⟨some 27, .move (.tmp 11), 3, "flow.go:62", #[], none⟩, ⟨some 28, .indexAddr 48 (.tmp 26) (.tmp 27), 0, "flow.go:62", #[⟨8, .data⟩, ⟨9, .data⟩], none⟩, ⟨some 29, .load 3 (.tmp 28), 3, "flow.go:62", #[⟨10, .data⟩], none⟩, ⟨some 30, .call { callee := Callee.value (.tmp 24), args := #[.tmp 25, .tmp 29], argTypes := #[3, 3] }, 3, "flow.go:62", #[⟨6, .data⟩, ⟨7, .data⟩, ⟨11, .data⟩], none⟩, ⟨some 31, .call { callee := Callee.value (.tmp 19), args := #[.tmp 22, .tmp 30], argTypes := #[58, 3] }, 4, "flow.go:62", #[⟨1, .data⟩, ⟨4, .data⟩, ⟨12, .data⟩, ⟨12, .chain⟩], none⟩]
/-- Before the join, behind it. -/
structure Sse (g n : Nat) (fs gs : Nat → Fc) (wa : World) (l : Nat → Bool) (W : World) : Prop where
  pre : l 13 = false → Below wa.heap.size wa W
  post : l 13 = true → FactsAt W g n gs ∧ wa.grownBy W (some g)
theorem dep_in2 {md : Region.Mode} {ops : Array Oper} {a0 : Act} {G : (Nat → Bool) → Tmp → Value → World → Prop} {S : (Nat → Bool) → (Tmp → Value) → World → Prop} {j : Nat} {o : Oper} {l : Nat → Bool} {a : Act} {w : World} (H : L3.Hand md ops a0 G S j o l a w) (i k : Nat) (hd : dep md ops i k = true) (hk : dep md ops k j = true) : l i = false := by
  cases e : l i
  · rfl
  · have := H.closed k j hk (H.closed i k hd e)
    rw [H.new] at this
    cases this
set_option maxHeartbeats 2000000 in
set_option maxRecDepth 100000 in
theorem se_ok {Q : Exit → Act → World → Prop} {a0 : Act} {wa w0 : World} {p : Fl.Prob Fc} {vF vI vJ vP : Value} (hf : FnsOk w0 p vF vI vJ vP) (g cap b a pb : Nat) (fs : Nat → Fc) (t : TypeId) (hz : a0.tmps.size = 34) (b1 : a0.eval (.tmp 1) = .slice (some ⟨g, 0, none⟩) p.n cap) (b2 : a0.eval (.tmp 2) = .int .i64 (b : Int)) (b4 : a0.eval (.tmp 4) = .pointer (some ⟨pb, 0, none⟩)) (b11 : a0.eval (.tmp 11) = .int .i64 (a : Int))
    (hp : wa.heap[pb]? = some (.cells #[.int .i64 (p.n : Int), vF, vI, vJ, vP] t (0, 0))) (hW : Below w0.heap.size w0 wa) (hg : w0.heap.size ≤ g) (hc : p.Come fs) (hb : b < p.n) (ha : a < p.n) (hm : a ∈ p.frm b) (hF : FactsAt wa g p.n fs)
    (hend : ∀ (s : Tmp → Value) (W : World), s 31 = .bool (p.does fs b a) → FactsAt W g p.n (p.step fs b a) → wa.grownBy W (some g) → Q .normal (overlay a0 (dstsOf ops_se) s) W) : (Code.region 5 ops_se true).wp Try.prog Q a0 wa := by
  have hb' : (b : Int) < (p.n : Int) := by omega
  have ha' : (a : Int) < (p.n : Int) := by omega
  refine L3.wp_region_eachL (by kernel_rfl) (fun _ t v _ => (match t with | 18 => v = .pointer (some ⟨pb, 3, none⟩) | 19 => v = vJ | 20 => v = .slice (some ⟨g, 0, none⟩) p.n cap | 21 => v = .int .i64 (b : Int) | 22 => v = .pointer (some ⟨g, b, none⟩) | 23 => v = .pointer (some ⟨pb, 4, none⟩) | 24 => v = vP | 25 => v = .int .i64 (a : Int) | 26 => v = .slice (some ⟨g, 0, none⟩) p.n cap | 27 => v = .int .i64 (a : Int) | 28 => v = .pointer (some ⟨g, a, none⟩) | 29 => FV v (fs a) | 30 => FV v (p.pass a (fs a)) | 31 => v = .bool (p.does fs b a) | _ => True)) (fun l _ W => Sse g p.n fs (p.step fs b a) wa l W) (by rw [hz]; kernel_rfl) ⟨fun _ => (Below.refl _ _).drew, fun h => by simp at h⟩ ?_ ?_
  · refine And.intro ?_ (And.intro ?_ (And.intro ?_ (And.intro ?_ (And.intro ?_ (And.intro ?_ (And.intro ?_ (And.intro ?_ (And.intro ?_ (And.intro ?_ (And.intro ?_ (And.intro ?_ (And.intro ?_ (And.intro ?_ trivial)))))))))))))
    · refine L3.asked_any rfl fun l x W H => ⟨.pointer (some ⟨pb, 3, none⟩), W, ?_, (fun d hd => by cases hd; rfl), ⟨H.s.pre, H.s.post⟩, fun _ _ h => h⟩
      have e4 : x.eval (.tmp 4) = .pointer (some ⟨pb, 0, none⟩) := (H.base 4 rfl).trans b4
      (simp only [execOp]; simp only [e4]; go_simp)
    · refine L3.asked_any rfl fun l x W H => ⟨vJ, W, ?_, (fun d hd => by cases hd; rfl), ⟨H.s.pre, H.s.post⟩, fun _ _ h => h⟩
      have e18 : x.eval (.tmp 18) = .pointer (some ⟨pb, 3, none⟩) := H.facts 18 rfl
      have hw := H.s.pre (dep_in H 13 rfl)
      have hcell : W.cell? ⟨pb, 3, none⟩ = some vJ := by rw [cell_of_row _ _ _ _ _ _ ((hw.block pb (Array.getElem?_eq_some_iff.1 hp).1).trans hp)]; rfl
      (simp only [execOp]; simp only [e18]; go_simp)
    · exact L3.asked_any rfl fun l x W H => ⟨.slice (some ⟨g, 0, none⟩) p.n cap, W, Bg.ex_move rfl ((H.base 1 rfl).trans b1), (fun d hd => by cases hd; rfl), ⟨H.s.pre, H.s.post⟩, fun _ _ h => h⟩
    · exact L3.asked_any rfl fun l x W H => ⟨.int .i64 (b : Int), W, Bg.ex_move rfl ((H.base 2 rfl).trans b2), (fun d hd => by cases hd; rfl), ⟨H.s.pre, H.s.post⟩, fun _ _ h => h⟩
    · refine L3.asked_any rfl fun l x W H => ⟨.pointer (some ⟨g, b, none⟩), W, ?_, (fun d hd => by cases hd; rfl), ⟨H.s.pre, H.s.post⟩, fun _ _ h => h⟩
      have e20 : x.eval (.tmp 20) = .slice (some ⟨g, 0, none⟩) p.n cap := H.facts 20 rfl
      have e21 : x.eval (.tmp 21) = .int .i64 (b : Int) := H.facts 21 rfl
      (simp only [execOp]; simp only [e20, e21]; go_simp)
    · refine L3.asked_any rfl fun l x W H => ⟨.pointer (some ⟨pb, 4, none⟩), W, ?_, (fun d hd => by cases hd; rfl), ⟨H.s.pre, H.s.post⟩, fun _ _ h => h⟩
      have e4 : x.eval (.tmp 4) = .pointer (some ⟨pb, 0, none⟩) := (H.base 4 rfl).trans b4
      (simp only [execOp]; simp only [e4]; go_simp)
    · refine L3.asked_any rfl fun l x W H => ⟨vP, W, ?_, (fun d hd => by cases hd; rfl), ⟨H.s.pre, H.s.post⟩, fun _ _ h => h⟩
      have e23 : x.eval (.tmp 23) = .pointer (some ⟨pb, 4, none⟩) := H.facts 23 rfl
      have hw := H.s.pre (dep_in2 H 13 12 rfl rfl)
      have hcell : W.cell? ⟨pb, 4, none⟩ = some vP := by rw [cell_of_row _ _ _ _ _ _ ((hw.block pb (Array.getElem?_eq_some_iff.1 hp).1).trans hp)]; rfl
      (simp only [execOp]; simp only [e23]; go_simp)
    · exact L3.asked_any rfl fun l x W H => ⟨.int .i64 (a : Int), W, Bg.ex_move rfl ((H.base 11 rfl).trans b11), (fun d hd => by cases hd; rfl), ⟨H.s.pre, H.s.post⟩, fun _ _ h => h⟩
    · exact L3.asked_any rfl fun l x W H => ⟨.slice (some ⟨g, 0, none⟩) p.n cap, W, Bg.ex_move rfl ((H.base 1 rfl).trans b1), (fun d hd => by cases hd; rfl), ⟨H.s.pre, H.s.post⟩, fun _ _ h => h⟩
    · exact L3.asked_any rfl fun l x W H => ⟨.int .i64 (a : Int), W, Bg.ex_move rfl ((H.base 11 rfl).trans b11), (fun d hd => by cases hd; rfl), ⟨H.s.pre, H.s.post⟩, fun _ _ h => h⟩
    · refine L3.asked_any rfl fun l x W H => ⟨.pointer (some ⟨g, a, none⟩), W, ?_, (fun d hd => by cases hd; rfl), ⟨H.s.pre, H.s.post⟩, fun _ _ h => h⟩
      have e26 : x.eval (.tmp 26) = .slice (some ⟨g, 0, none⟩) p.n cap := H.facts 26 rfl
      have e27 : x.eval (.tmp 27) = .int .i64 (a : Int) := H.facts 27 rfl
      (simp only [execOp]; simp only [e26, e27]; go_simp)
    · refine L3.asked_any rfl fun l x W H => ?_
      have e28 : x.eval (.tmp 28) = .pointer (some ⟨g, a, none⟩) := H.facts 28 rfl
      have hw := H.s.pre (dep_in2 H 13 12 rfl rfl)
      have hcell := ((hF.below hw) a ha).1
      refine ⟨.int .i64 ((fs a : Nat) : Int), W, ?_, (fun d hd => by cases hd; rfl), ⟨H.s.pre, H.s.post⟩, fun _ _ h => h⟩
      (simp only [execOp]; simp only [e28]; go_simp)
    · refine L3.asked_callv rfl rfl rfl fun l x W H => ?_
      have e24 : x.eval (.tmp 24) = vP := H.facts 24 rfl
      have e25 : x.eval (.tmp 25) = .int .i64 (a : Int) := H.facts 25 rfl
      have e29 : FV (x.eval (.tmp 29)) (fs a) := H.facts 29 rfl
      have n13 : l 13 = false := dep_in H 13 rfl
      have hw := H.s.pre n13
      rw [e24]
      simp only [List.map_toArray, List.map_cons, List.map_nil, e25]
      refine (hf.pass fs hc a ha W (hW.trans (hw.mono hW.size)) _ e29).mono ?_
      rintro e W' ⟨u, rfl, hu, hB⟩
      exact ⟨u, rfl, hu, ⟨fun _ => bel_of hw hB, fun h => (by rw [show (upd l 12) 13 = l 13 from rfl, n13] at h; cases h)⟩, fun _ _ h => h⟩
    · refine L3.asked_callv rfl rfl rfl fun l x W H => ?_
      have e19 : x.eval (.tmp 19) = vJ := H.facts 19 rfl
      have e22 : x.eval (.tmp 22) = .pointer (some ⟨g, b, none⟩) := H.facts 22 rfl
      have e30 : FV (x.eval (.tmp 30)) (p.pass a (fs a)) := H.facts 30 rfl
      have hw := H.s.pre H.new
      have hFW := hF.below hw
      rw [e19]
      simp only [List.map_toArray, List.map_cons, List.map_nil, e22]
      refine (hf.join fs hc b a hb ha hm W (hW.trans (hw.mono hW.size)) g _ hg (hFW b hb) e30).mono ?_
      rintro e W' ⟨rfl, hu, hB, hO⟩
      exact ⟨_, rfl, rfl, ⟨fun h => (by rw [show (upd l 13) 13 = true from rfl] at h; cases h), fun _ => ⟨hFW.upd hO (by simpa [Fl.Prob.step] using hu) (fun x hx => by simp [Fl.Prob.step, hx]), Bg.gb_then (Bg.gb_of hw) hB⟩⟩, fun _ _ h => h⟩
  · intro l s W hall hS hs
    obtain ⟨h1, h2⟩ := hS.post (hall 13 (by decide))
    exact hend s W (hs 31 rfl) h1 h2
set_option maxHeartbeats 4000000 in
set_option maxRecDepth 100000 in
theorem settle_any {w0 : World} {p : Fl.Prob Fc} {vF vI vJ vP : Value} {m : (Nat → Fc) → Nat} (hf : FnsOk w0 p vF vI vJ vP) (ok : p.Ok m) (hlen : ∀ b, b < p.n → (p.frm b).length ≤ 1000) (g cap b C : Nat) (fs : Nat → Fc) (fv : Value) (w : World) (hW : Below w0.heap.size w0 w) (hg : w0.heap.size ≤ g) (hb : b < p.n) (hc : p.Come fs) (hF : FactsAt w g p.n fs) (hr : ArgsO C w fv (ci (p.frm b))) (hrg : fv.ownBlock ≠ some g) :
    Calls Try.prog 47 #[.agg #[.int .i64 (p.n : Int), vF, vI, vJ, vP], .slice (some ⟨g, 0, none⟩) p.n cap, .int .i64 (b : Int), fv] w fun e w' => ∃ fs' ch, e = .returned (.bool ch) ∧ Fl.Swp p m b fs fs' (p.frm b).length ch ∧ FactsAt w' g p.n fs' ∧ w.grownBy w' (some g) := by
  have hgw := (hF b hb).lt
  have hlb := hlen b hb
  have HF := hide hf
  have HOK := hide ok
  have HC := hide hc
  have HR := hide hr
  have HRG := hide hrg
  have HFA := hide hF
  have HW := hide hW
  obtain ⟨au, cu, hfv⟩ := hr.slice
  rw [List.length_map] at hfv
  subst hfv
  clear hf ok hc hr hrg hF hW hlen
  go_enter Try.func47, Try.ntmps47
  go_wp2_with (refine Bg.wpList_box' rfl 62 (.tmp 0) rfl #[.int .i64 (p.n : Int), vF, vI, vJ, vP] rfl ?_; intro pb w1 h1)
  have hpb : Hid (pb ≠ g) := hide (by have := h1.out.1; omega)
  have hP1 : Hid (w1.heap[pb]? = some (.cells #[.int .i64 (p.n : Int), vF, vI, vJ, vP] 62 (0, 0))) := hide h1.out.2.1
  have hB1 : Hid (w.grownBy w1 none) := hide (Bg.gb_at h1.out)
  clear h1
  go_loopw [9, 11, 14] (fun cv _ iv wr => ∃ (i : Nat) (gs : Nat → Fc) (ch : Bool), i ≤ (p.frm b).length ∧ iv = .int .i64 i ∧ cv = .bool ch ∧ Hid (Fl.Swp p m b fs gs i ch) ∧ Hid (FactsAt wr g p.n gs) ∧ Hid (w1.grownBy wr (some g))) (fun _ _ iv _ => (p.frm b).length - (intOf iv).toNat)
  case atStart => exact ⟨0, fs, false, by omega, rfl, rfl, hide (Fl.Swp.start HC.out), hide (HFA.out.below (Bg.gb_to hB1.out)), hide (Bg.gb_refl _ _)⟩
  case round =>
    obtain ⟨i, gs, ch, hi, rfl, rfl, hS, hG, hX⟩ := hrel
    by_cases hlt : i < (p.frm b).length
    · have hlt' : (i : Int) < ((p.frm b).length : Int) := by omega
      have hrow := (HR.out.below (Bg.gb_to hB1.out)).stays (w' := wr) fun k hk => hX.out.block k ((HR.out.below (Bg.gb_to hB1.out)).lt k hk).2 (fun e => HRG.out (by rw [hk, e]))
      obtain ⟨gu, ou, rfl, hcu⟩ := hrow.v.at i (by rw [List.length_map]; exact hlt)
      rw [ci_getD hlt] at hcu
      have hget : (p.frm b)[i]? = some ((p.frm b).getD i 0) := by simp [hlt]
      generalize (p.frm b).getD i 0 = a at *
      have HM := hide (List.mem_of_getElem? hget)
      have HA := hide (HOK.out.frm_lt b hb a HM.out)
      have HST := hide (hS.out.step HOK.out hb hget)
      have HPW : Hid (wr.heap[pb]? = some (.cells #[.int .i64 (p.n : Int), vF, vI, vJ, vP] 62 (0, 0))) := hide ((hX.out.block pb (Array.getElem?_eq_some_iff.1 hP1.out).1 (by simpa using hpb.out)).trans hP1.out)
      have HWW : Hid (Below w0.heap.size w0 wr) := hide (by
        have h2 := HW.out.trans ((Bg.gb_to hB1.out).mono HW.out.size)
        exact h2.grown hX.out h2.size (fun k e => by cases e; exact hg))
      clear hrow hget
      go_wp2_with fail
      refine se_ok HF.out g cap b a pb gs 62 rfl rfl rfl rfl rfl HPW.out HWW.out hg hS.out.come hb HA.out HM.out hG.out ?_
      intro s W hs31 hGW hgw2
      have HGW := hide hGW
      have HXW := hide (hX.out.trans hgw2)
      clear hGW hgw2
      cases hd : p.does gs b a
      · rw [hd] at hs31
        rw [hd, Bool.or_false] at HST
        simp [overlay, dstsOf, ops_se, hs31]
        clear hs31
        go_wp2_with fail
        go_roundw
        case rel => exact ⟨i + 1, _, _, by omega, by go_num, rfl, HST, HGW, HXW⟩
        case measure => simp [intOf]; omega
      · rw [hd] at hs31
        rw [hd, Bool.or_true] at HST
        simp [overlay, dstsOf, ops_se, hs31]
        clear hs31
        go_wp2_with fail
        go_roundw
        case rel => exact ⟨i + 1, _, _, by omega, by go_num, rfl, HST, HGW, HXW⟩
        case measure => simp [intOf]; omega
    · obtain rfl : i = (p.frm b).length := by omega
      have HE := hide (Bg.gb_then hB1.out hX.out)
      go_wp2_with fail
      go_ret
      exact ⟨gs, ch, rfl, hS.out, hG.out, HE.out⟩
end Go.Proofs.Ytblcbccchlljhaa.I
