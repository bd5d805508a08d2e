/- FrameLays: P3.1: any bytes as a frame. -/
import Derived.Test.YtlonniegaaocoaaRows
import Derived.WalkKit
import Derived.ProofKit
import Derived.OpenShut
import Derived.ShutString
import Derived.ChangeOld
import Derived.Below
import Derived.Test.YtlonniegaaocoaaAwake
import Derived.Test.YtlonniegaaocoaaRefTake
namespace Go.Proofs.Ytlonniegaaocoaa.frameLays
open Go.ChangeShapes Go.WideShapes Go.ChangeAt Go.RowKit
open Go.ChangeMaps (open_string shut_string)
set_option linter.unusedVariables false

theorem own : ownKnob Try.prog.godebug = none := by kernel_rfl
theorem laidOut : laidOutB Try.prog = true := by kernel_rfl

/-- What is known of each temporary that the last statement writes, once it is written. -/
def Gl (k : Int) (v5 V : Value) (L : List Int) : Tmp → Value → World → Prop
  | 28, v, _ => v = .int .i64 0
  | 29, v, _ => v = .bool true
  | 30, v, _ => v = .bool true
  | 31, v, _ => v = v5
  | 32, v, _ => v = .string (strOfNums L)
  | 33, v, _ => v = .int .u8 k
  | 34, v, _ => v = V
  | 35, v, w => Byt w v L
  | 36, v, _ => v = .string (strOfNums L)
  | 37, v, _ => v = .bool true
  | 38, v, _ => v = .bool true
  | 4, v, _ => v = .bool true
  | _, _, _ => True
theorem Gl_below {k : Int} {v5 V : Value} {L : List Int} {d : Tmp} {x : Value} {W W' : World} (h : Gl k v5 V L d x W) (hB : Below W.heap.size W W') : Gl k v5 V L d x W' := by
  unfold Gl at *
  split
  all_goals
    first
      | exact h
      | exact h.below hB
      | trivial

set_option maxHeartbeats 1000000 in
set_option maxRecDepth 100000 in
theorem frameLays_any (k : Int) (ao : Option Addr) (cap : Nat) (xs : List Int) (w : World) (hk0 : 0 ≤ k) (hk1 : k < 256) (hv : Byt w (.slice ao xs.length cap) xs) :
    Calls Try.prog 3 #[.int .u8 k, .slice ao xs.length cap] w fun e w' => e = .returned (.bool true) ∧ Below w.heap.size w w' := by
  have HV := hide hv
  clear hv
  by_cases h1 : 70000 < xs.length
  · go_enter Try.func3, Try.ntmps3
    go_wp2_with fail
    refine (awake_any _).mono ?_
    rintro e w1 ⟨rfl, hB1⟩
    go_wp2_with fail
    go_ret
    exact ⟨rfl, hB1⟩
  by_cases h2 : 65536 < xs.length
  · go_enter Try.func3, Try.ntmps3
    go_wp2_with fail
    refine (awake_any _).mono ?_
    rintro e w1 ⟨rfl, hB1⟩
    go_wp2_with fail
    refine (lay_long k _ xs w1 (HV.out.below hB1) h2).mono ?_
    rintro e w2 ⟨rfl, rfl⟩
    go_wp2_with fail
    go_ret
    exact ⟨rfl, hB1⟩
  · have hbts : Frm.Bts (Frm.lay k xs) := Frm.lay_bts hk0 hk1 HV.out.bytes
    obtain ⟨L, hL⟩ : ∃ L, L = Frm.lay k xs := ⟨_, rfl⟩
    rw [← hL] at hbts
    have HL := hide hL
    have HBT := hide hbts
    clear hL hbts
    go_enter Try.func3, Try.ntmps3
    go_wp2_with fail
    refine (awake_any _).mono ?_
    rintro e w1 ⟨rfl, hB1⟩
    go_wp2_with fail
    refine (lay_own k _ xs w1 hk0 hk1 (HV.out.below hB1) (by omega)).mono ?_
    rintro e w2 ⟨v5, rfl, hO, hB2⟩
    rw [← HL.out] at hO
    have hv5 := Byt.of_owns hO HBT.out
    have hS0 : Byt w2.drew v5 L ∧ Byt w2.drew (.slice ao xs.length cap) xs ∧ Below w.heap.size w w2.drew := ⟨hv5.drew, (HV.out.below (bel_of hB1 hB2)).drew, (bel_of hB1 hB2).drew⟩
    clear hO hv5 hB1 hB2
    go_wp2_with fail
    refine wp_region_each (by kernel_rfl) (Gl k v5 (.slice ao xs.length cap) L) (fun W => Byt W v5 L ∧ Byt W (.slice ao xs.length cap) xs ∧ Below w.heap.size w W) (by kernel_rfl) (by repeat' (first | exact trivial | exact fun _ _ h => h | constructor)) hS0 ?_ ?_
    · have hbts := HBT.out
      obtain ⟨V, hV⟩ : ∃ V, V = Value.slice ao xs.length cap := ⟨_, rfl⟩
      rw [← hV]
      refine And.intro ?_ (And.intro ?_ (And.intro ?_ (And.intro ?_ (And.intro ?_ (And.intro ?_ (And.intro ?_ (And.intro ?_ (And.intro ?_ (And.intro ?_ (And.intro ?_ (And.intro ?_ trivial)))))))))))
      · exact asked_pure rfl (fun _ _ => rfl) (fun a w _ hb _ => run_move rfl (hb 6 rfl))
      · refine asked_pure rfl (fun _ _ => rfl) (fun a w hS hb hd => ?_)
        have e28 : a.eval (.tmp 28) = .int .i64 0 := hd 28 rfl
        (simp only [execOp]; try simp only [Option.map]); (try simp only [List.map_toArray, List.map_cons, List.map_nil]); (simp only [e28]; go_simp)
      · exact asked_pure rfl (fun _ _ => rfl) (fun a w _ _ hd => run_move rfl (hd 29 rfl))
      · exact asked_pure rfl (fun _ _ => rfl) (fun a w _ hb _ => run_move rfl (hb 5 rfl))
      · refine asked_pure rfl (fun _ _ => rfl) (fun a w hS _ hd => ?_)
        have e31 : a.eval (.tmp 31) = v5 := hd 31 rfl
        exact run_conv rfl e31 hS.1
      · exact asked_pure rfl (fun _ _ => rfl) (fun a w _ hb _ => run_move rfl (hb 0 rfl))
      · exact asked_pure rfl (fun _ _ => rfl) (fun a w _ hb _ => run_move rfl (hb 1 rfl))
      · refine asked_call Try.func11 (by kernel_rfl) (by kernel_rfl) rfl rfl (fun a w hS _ hd => ?_)
        have e33 : a.eval (.tmp 33) = .int .u8 k := hd 33 rfl
        have e34 : a.eval (.tmp 34) = V := hd 34 rfl
        have ea : (#[.tmp 33, .tmp 34] : Array Operand).map a.eval = #[.int .u8 k, V] := by simp [e33, e34]
        rw [ea]
        refine (refLay_own k V xs w hk0 hk1 hS.2.1 (by omega)).mono ?_
        rintro e w' ⟨v', rfl, hO, hB⟩
        rw [← HL.out] at hO
        exact ⟨_, rfl, Byt.of_owns hO hbts, ⟨hS.1.below hB, hS.2.1.below hB, bel_of hS.2.2 hB⟩, fun _ _ h => Gl_below h hB⟩
      · exact asked_pure rfl (fun _ _ => rfl) (fun a w _ _ hd => run_conv rfl rfl (hd 35 rfl))
      · refine asked_pure rfl (fun _ _ => rfl) (fun a w hS hb hd => ?_)
        have e32 : a.eval (.tmp 32) = .string (strOfNums L) := hd 32 rfl
        have e36 : a.eval (.tmp 36) = .string (strOfNums L) := hd 36 rfl
        (simp only [execOp]; try simp only [Option.map]); (try simp only [List.map_toArray, List.map_cons, List.map_nil]); (simp only [e32, e36]; go_simp)
      · refine asked_pure rfl (fun _ _ => rfl) (fun a w hS hb hd => ?_)
        have e30 : a.eval (.tmp 30) = .bool true := hd 30 rfl
        have e37 : a.eval (.tmp 37) = .bool true := hd 37 rfl
        (simp only [execOp]; try simp only [Option.map]); (try simp only [List.map_toArray, List.map_cons, List.map_nil]); (simp only [e30, e37]; go_simp)
      · exact asked_pure rfl (fun _ _ => rfl) (fun a w _ _ hd => run_assign rfl (hd 38 rfl))
    · intro s W hW hs
      have h4 : s 4 = .bool true := hs 4 rfl
      have hbel := hW.2.2
      clear hs hW hS0
      simp [overlay, dstsOf]
      go_wp2
      go_ret
      rw [h4]
      exact ⟨rfl, hbel⟩

theorem walk (a0 : Int) (a1 : Option Addr) (len1 cap1 : Nat) (z1 : List Int) (w : World) (w0 : (Lit.int .u8 a0).wf = true) (w1 : IsRow .u8 w a1 len1 cap1 z1) :
    Calls Try.prog 3 #[.int .u8 a0, .slice a1 len1 cap1] w fun e w' => e = .returned (.bool true) ∧ Below w.heap.size w w' := by
  have hk : 0 ≤ a0 ∧ a0 < 256 := by
    simp [Lit.wf, IntKind.min, IntKind.max, IntKind.signed, IntKind.bits] at w0
    omega
  obtain ⟨hl, hv⟩ := Byt.of_row w1
  obtain ⟨xs, hxs⟩ : ∃ xs, xs = z1.take len1 := ⟨_, rfl⟩
  rw [← hxs] at hl hv
  subst hl
  exact frameLays_any a0 a1 cap1 xs w hk.1 hk.2 hv

/-! ### THE ROW's STEP: WRITTEN OUT: LEAVE IT -/
set_option maxRecDepth 100000 in
theorem lifted (os : Os) (started : os.Started) (H : Type) (enc : TypeId × Value → H) :
    ReturnsInHanded {} Try.checked os 3 .any (Rows.frameLaysSpec.pre6 enc Try.prog Try.f3 Rows.frameLaysRow.domain false) (Rows.frameLaysSpec.post enc Try.prog Try.f3 false true false false) := by
  refine returnsInHanded_of_change (C := Try.checked) own started (by kernel_rfl) Try.func3
    (ChangeSpec.witness6 (enc := enc) (C := Try.checked) false ⟨#[], #[.int .u8 0, .slice none 0 0], []⟩ 8 (by kernel_rfl) (by kernel_rfl) (by kernel_rfl) (by kernel_rfl)) ?_
  intro W base args ds gs before hval0 hW hcnd _
  have hval : ∀ (j : Nat) t v, Try.f3.params[j]? = some t → args[j]? = some v → Value.okWide Try.prog W .any base t v := hval0
  have hW' := hW
  obtain ⟨p, q, hA0, hV, rfl, hfz, hnd⟩ := hW
  have hA : DataW.TrodAll enc Try.prog W 0 (fun _ => true) true Try.f3.params.toList args.toList ds p := hA0
  rw [Try.params3] at hA hval
  obtain ⟨v0, vs0, d0, ds0, p0, q0, hargs, rfl, rfl, h0, r0⟩ := trodAll_cons hA
  obtain ⟨v1, vs1, d1, ds1, p1, q1, rfl, rfl, rfl, h1, r1⟩ := trodAll_cons r0
  obtain ⟨rfl, rfl, rfl⟩ := trodAll_nil r1
  obtain rfl : args = #[v0, v1] := by cases args; simp_all
  obtain ⟨rfl, rfl⟩ := trodVars_none hV
  obtain ⟨a0, rfl, rfl, rfl, w0⟩ := open_int Try.underlying5 (hval 0 5 v0 rfl rfl) h0
  obtain ⟨a1, len1, cap1, rfl⟩ := okWide_slice Try.underlying22 (hval 1 22 v1 rfl rfl)
  have k1 := h1
  have lt1 : ∀ x ∈ p1, x.block < W.heap.size := by obtain ⟨m, hm⟩ := k1; exact DataW.trod_lt m _ _ _ hm
  obtain ⟨z1, w1⟩ : ∃ zs, IsRow .u8 W a1 len1 cap1 zs := by
    obtain ⟨fuel, hf⟩ := h1
    rcases open_ints Try.underlying22 Try.underlying5 (by kernel_rfl) hf with ⟨hcs, _⟩ | ⟨x, l, c, zs, hcs, _, hl, hm, hz, _, hcell, hwz⟩
    · simp [Value.cells] at hcs
      obtain ⟨rfl, rfl, rfl⟩ := hcs
      exact ⟨[], .inl ⟨rfl, rfl, rfl, rfl⟩⟩
    · simp [Value.cells] at hcs
      obtain ⟨rfl, rfl, rfl⟩ := hcs
      exact ⟨zs, .inr ⟨_, rfl, hl, hm, by simpa using hz, hcell, hwz⟩⟩
  clear hA0 hval0
  refine (walk a0 a1 len1 cap1 z1 W w0 w1).mono fun e W' ⟨he, bel⟩ => ?_
  subst he
  exact ⟨_, rfl, _, _, _, [], _, [], hW', trodAll_mk1 (shut_bool Try.underlying4 _), (trodAll_cons_mk (shut_int Try.underlying5 w0) (trodAll_cons_mk (Below.trod laidOut (by kernel_rfl) (of_decide_eq_true (by kernel_rfl)) k1 bel lt1) trodAll_mk0)), rfl, bel.frame _, fun h => by cases h⟩

theorem over : Rows.frameLaysRow.holds Try.pinned (OpenSpec.ofChange Rows.frameLaysSpec) :=
  OpenClaim.holds_of_wide 3 Try.f3 rfl rfl rfl rfl rfl rfl rfl ⟨rfl, rfl, rfl, rfl, rfl⟩ rfl rfl rfl rfl rfl (by kernel_rfl) Try.func3 (by kernel_rfl)
    (of_decide_eq_true (by kernel_rfl)) (by unfold Func.isWrapper; first | (rw [if_pos (by decide +kernel)]; kernel_rfl) | (rw [if_neg (by decide +kernel)]; exact ⟨rfl, rfl⟩))
    (fun os started H enc _ => lifted os started H enc)

end Go.Proofs.Ytlonniegaaocoaa.frameLays
namespace Go.Proofs.Ytlonniegaaocoaa
theorem frameLays_holds : Rows.FrameLaysSaid := frameLays.over
#print axioms frameLays_holds
end Go.Proofs.Ytlonniegaaocoaa
