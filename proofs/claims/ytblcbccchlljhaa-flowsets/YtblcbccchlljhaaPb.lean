/- The laws' problems: sets that grow along blocks or against them. -/
import Derived.Test.YtblcbccchlljhaaSv
import Derived.Test.YtblcbccchlljhaaPs
import Derived.Test.YtblcbccchlljhaaMm
import Derived.Test.YtblcbccchlljhaaAh
import Derived.Test.YtblcbccchlljhaaAk
namespace Go.Proofs.Ytblcbccchlljhaa
open Go.RowKit Ir Wy

theorem ofL_mem {l : List Nat} (hl : ∀ x ∈ l, x < 4096) (y : Nat) : Bg.ofL (ci l) y = decide (y ∈ l) := by
  have key : ∀ (l : List Nat) (f : Nat → Bool), (∀ x ∈ l, x < 4096) → (ci l).foldl Bg.ins f y = (f y || decide (y ∈ l)) := by
    intro l
    induction l with
    | nil => intro f _; simp [ci]
    | cons x l ih =>
      intro f hl
      have hx := hl x (by simp)
      show (ci l).foldl Bg.ins (Bg.ins f (x : Int)) y = _
      rw [ih _ (fun z hz => hl z (by simp [hz])), Bg.ins, Bg.inS_nat hx, Int.toNat_natCast, Bool.true_and, Bool.or_assoc]
      congr 1
      rw [Bool.eq_iff_iff]
      simp
  show (ci l).foldl Bg.ins (fun _ => false) y = _
  rw [key l _ hl]
  simp
/-- What the marks say of a number. -/
def mset (n : Nat) (bs : List Int) (b : Nat) : Nat → Bool := Bg.ofL (ci (mkL n bs bs.length b))
theorem mset_mem (n : Nat) (bs : List Int) (b y : Nat) : mset n bs b y = decide (y ∈ mkL n bs bs.length b) := ofL_mem (fun x hx => by have := mkL_lt hx; omega) y
theorem mset_fit (n : Nat) (bs : List Int) (b : Nat) : Fl.Fit (mset n bs b) := fun y hy => by
  rw [mset_mem] at hy
  have := mkL_lt (of_decide_eq_true hy)
  omega
/-- The laws' problem. -/
def sP (back : Bool) (es : List En) (first : Nat → Nat → Bool) (bs cs : List Int) : Fl.Prob (Nat → Bool) := Fl.sets es.length (frmE back es) first (mset es.length bs) (mset es.length cs)
theorem sP_does (back : Bool) (es : List En) (first : Nat → Nat → Bool) (bs cs : List Int) (fs : Nat → Nat → Bool) (b a : Nat) : (sP back es first bs cs).does fs b a = !Fl.sm (fs b) (Fl.un (fs b) ((sP back es first bs cs).pass a (fs a))) 4096 := by
  simp only [Fl.Prob.does, sP, Fl.sets]
theorem sP_join (back : Bool) (es : List En) (first : Nat → Nat → Bool) (bs cs : List Int) (f g : Nat → Bool) : (sP back es first bs cs).join f g = Fl.un f g := by
  simp only [sP, Fl.sets]
theorem sP_fit {back : Bool} {es : List En} (hin : EndsIn es) {first : Nat → Nat → Bool} (hf : ∀ b, Fl.Fit (first b)) (bs : List Int) : Fl.FitS es.length (frmE back es) first (mset es.length bs) := ⟨fun _ hb => frmE_lt hin hb, hf, mset_fit es.length bs⟩
theorem left_all (s : Nat → Bool) : ∀ n, left s n ≤ n := by
  intro n
  induction n with
  | zero => simp [left]
  | succ n ih =>
    have := left_none n
    have := left_le (s := fun _ => false) (t := s) (fun x hx => by cases hx) (n + 1)
    have := left_none (n + 1)
    omega
theorem sum_bound (k : Nat → Nat) (c : Nat) (h : ∀ b, k b ≤ c) : ∀ n, Fl.sum n k ≤ n * c
  | 0 => by simp [Fl.sum]
  | n + 1 => by
    rw [Fl.sum_succ, Nat.add_mul, Nat.one_mul]
    have := sum_bound k c h n
    have := h n
    omega
theorem sm_same (f g : Nat → Bool) (n : Nat) : Fl.sm f g n = Bg.same f g n := rfl
theorem join13 (g b : Nat) (v : Value) (f h : Nat → Bool) (W : World) (ho : S.FO W g b f) (hv : Bg.SetV v h) : Calls Try.prog 13 #[.pointer (some ⟨g, b * 64, none⟩), v] W fun e W' => e = .returned (.bool (!Fl.sm f (Fl.un f h) 4096)) ∧ S.FO W' g b (Fl.un f h) ∧ W.grownBy W' (some g) ∧ S.Only W W' g b := by
  rw [sm_same]
  exact Bg.join_off g (b * 64) v f h W ho hv
/-- The functions of such a problem. -/
theorem sP_fns (w0 : World) (back : Bool) (pb pl pm : Nat) (ao : Option Addr) (c : Nat) (es : List En) (bs cs : List Int) (first : Nat → Nat → Bool) (vI vP : Value) (hin : EndsIn es) (h7 : es.length ≤ 7) (hp : w0.heap[pb]? = some (.cells #[.slice ao es.length c] 26 (0, 0))) (hE : EndsV w0 (.slice ao es.length c) es)
    (hl : TabV w0 pl es.length (fun b => ci (mkL es.length cs cs.length b))) (hm : TabV w0 pm es.length (fun b => ci (mkL es.length bs bs.length b)))
    (hI : ∀ W, Below w0.heap.size w0 W → ∀ b, b < es.length → CallV vI #[.int .i64 (b : Int)] W fun e W' => ∃ u, e = .returned u ∧ Bg.SetV u (first b) ∧ Below W.heap.size W W')
    (hP : ∀ (a : Nat) (v : Value) (f : Nat → Bool) (W : World), Bg.SetV v f → TabV W pl es.length (fun b => ci (mkL es.length cs cs.length b)) → TabV W pm es.length (fun b => ci (mkL es.length bs bs.length b)) → a < es.length → CallV vP #[.int .i64 (a : Int), v] W fun e W' => ∃ u, e = .returned u ∧ Bg.SetV u (fun y => (f y && !mset es.length cs a y) || mset es.length bs a y) ∧ Below W.heap.size W W') :
    S.FnsOk w0 (sP back es first bs cs) (fromV back pb) vI (fv 13) vP :=
  ⟨from_ok w0 back pb ao c es hin h7 hp hE, hI, fun fs _ a ha W hW v hv => hP a v (fs a) W hv (hl.below hW) (hm.below hW) ha, fun fs _ b a _ _ _ W _ g v _ ho hv => callV_func Try.func13 rfl rfl (by rw [sP_does, sP_join]; exact join13 g b v (fs b) _ W ho hv)⟩
/-- Solve, at such a problem. -/
theorem sP_solve (w0 : World) (back : Bool) (pb : Nat) (es : List En) (bs cs : List Int) (first : Nat → Nat → Bool) {vI vP : Value} {fI fP : Fn} {aI cI aP' cP : Array Value} (hin : EndsIn es) (h0 : 0 < es.length) (h7 : es.length ≤ 7) (hff : ∀ b, Fl.Fit (first b))
    (hf : S.FnsOk w0 (sP back es first bs cs) (fromV back pb) vI (fv 13) vP) (eI : vI = .func fI aI cI) (eP : vP = .func fP aP' cP) :
    Calls Try.prog 11 #[.agg #[.int .i64 (es.length : Int), fromV back pb, vI, fv 13, vP]] w0 fun e w' => ∃ g cap fs, e = .returned (.slice (some ⟨g, 0, none⟩) es.length cap) ∧ w0.heap.size ≤ g ∧ (sP back es first bs cs).Come fs ∧ (sP back es first bs cs).Still fs ∧ S.FactsAt w' g es.length fs ∧ Below w0.heap.size w0 w' := by
  refine S.solve_any w0 hf (Fl.sets_ok (sP_fit hin hff bs)) h0 (show es.length ≤ 100 by omega) (fun b _ => Nat.le_trans (frmE_len h7 b) (by omega)) ?_ rfl eI rfl eP
  show Fl.sum es.length (fun b => left (first b) 4096) * (es.length + 1) + es.length ≤ 100000000
  have h1 := sum_bound (fun b => left (first b) 4096) 4096 (fun b => left_all _ _) es.length
  have h2 : Fl.sum es.length (fun b => left (first b) 4096) ≤ 28672 := Nat.le_trans h1 (by omega)
  have h3 := Nat.mul_le_mul h2 (show es.length + 1 ≤ 8 by omega)
  omega
theorem marks_tab {w w' : World} {gm gl n : Nat} {Vm Vl : Nat → Value} {Rm Rl : Nat → List Int} (h : Wst w gm gl n w' Vm Vl Rm Rl) {W : World} {p : Nat} (hp : W.heap[p]? = some (.cells #[.slice (some ⟨gm, 0, none⟩) n n] 30 (0, 0))) (hB : Below w'.heap.size w' W) : TabV W p n Rm :=
  ⟨gm, hp, fun b hb => ⟨Vm b, ((h.f.below hB).at b hb).1, ((h.f.below hB).row b hb).v⟩⟩
end Go.Proofs.Ytblcbccchlljhaa
