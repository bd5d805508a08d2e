/- FrameAll: P3.2: the frames of bytes, laid again, are as many bytes as All says, and those. -/
import Derived.Test.YtlonniegaaocoaaRows
import Derived.WalkKit
import Derived.ProofKit
import Derived.OpenShut
import Derived.ShutString
import Derived.ChangeOld
import Derived.Below
import Derived.Test.YtlonniegaaocoaaAwake
import Derived.Test.YtlonniegaaocoaaAll
import Derived.Test.YtlonniegaaocoaaOpen
namespace Go.Proofs.Ytlonniegaaocoaa.frameAll
open Go.ChangeShapes Go.WideShapes Go.ChangeAt Go.RowKit
open Go.ChangeMaps (open_string shut_string)
set_option linter.unusedVariables false

theorem own : ownKnob Try.prog.godebug = none := by kernel_rfl
theorem laidOut : laidOutB Try.prog = true := by kernel_rfl

/-- What is known of each temporary that the last statement writes, once it is written. -/
def Gall (ag al ay ax : Option Addr) (gl cg ll cl n cy lx cx : Nat) (Y : List Int) : Tmp → Value → Prop
  | 81, v => v = .slice ag gl cg
  | 82, v => v = .int .i64 (gl : Nat)
  | 83, v => v = .slice al ll cl
  | 84, v => v = .int .i64 (ll : Nat)
  | 85, v => v = .bool true
  | 86, v => v = .bool true
  | 87, v => v = .slice ay n cy
  | 88, v => v = .int .i64 (n : Nat)
  | 89, v => v = .int .i64 (n : Nat)
  | 90, v => v = .bool true
  | 91, v => v = .bool true
  | 92, v => v = .bool true
  | 93, v => v = .slice ay n cy
  | 94, v => v = .string (strOfNums Y)
  | 95, v => v = .slice ax lx cx
  | 96, v => v = .int .i64 (n : Nat)
  | 97, v => v = .slice ax n cx
  | 98, v => v = .string (strOfNums Y)
  | 99, v => v = .bool true
  | 100, v => v = .bool true
  | 4, v => v = .bool true
  | _, _ => True

section
variable {a : Act} {w : World} {o : Oper}
theorem run_len {x : Operand} {t e : TypeId} {ao : Option Addr} {n cap : Nat} (hop : o.op = .call { callee := .builtin .len, args := #[x], argTypes := #[t] }) (ex : a.eval x = .slice ao n cap) (ht : Try.prog.underlying t = some (.slice e)) :
    (execOp a.eval o).run Try.prog w = .ok (.value (.int .i64 (n : Nat))) w := by
  generalize a.eval = ρ at ex ⊢
  unfold execOp
  rw [hop]
  go_simp
end
theorem lays_len {fs : List (Int × List Int)} {m : Nat} (h : ∀ f ∈ fs, f.2.length ≤ m) (hm : m ≤ 65536) : (Frm.lays fs).length ≤ (20 + m) * fs.length := by
  induction fs with
  | nil => simp [Frm.lays]
  | cons f fs ih =>
    have h1 := ih (fun g hg => h g (by simp [hg]))
    have h2 := h f (by simp)
    have h3 := Frm.lay_more (k := f.1) (xs := f.2) (by omega)
    have e : Frm.lays (f :: fs) = Frm.lay f.1 f.2 ++ Frm.lays fs := by simp [Frm.lays]
    rw [e, List.length_append, List.length_cons, Nat.mul_add]
    omega
theorem lays_bts {fs : List (Int × List Int)} (h : ∀ f ∈ fs, 0 ≤ f.1 ∧ f.1 < 256 ∧ Frm.Bts f.2) : Frm.Bts (Frm.lays fs) := by
  intro x hx
  obtain ⟨f, hf, hx⟩ := List.mem_flatMap.1 hx
  obtain ⟨h1, h2, h3⟩ := h f hf
  exact Frm.lay_bts h1 h2 h3 x hx
theorem lays_ge (fs : List (Int × List Int)) : fs.length ≤ (Frm.lays fs).length := by
  induction fs with
  | nil => simp
  | cons f fs ih =>
    have e : Frm.lays (f :: fs) = Frm.lay f.1 f.2 ++ Frm.lays fs := by simp [Frm.lays]
    have := Frm.lay_pos f.1 f.2
    rw [e, List.length_append, List.length_cons]
    omega
theorem lays_part (fs : List (Int × List Int)) (i : Nat) : (Frm.lays (fs.take i)).length ≤ (Frm.lays fs).length := by
  have e : Frm.lays fs = Frm.lays (fs.take i) ++ Frm.lays (fs.drop i) := by
    conv => lhs; rw [← List.take_append_drop i fs]
    simp only [Frm.lays, List.flatMap_append]
  rw [e, List.length_append]
  omega
theorem take_all {fs : List (Int × List Int)} {i : Nat} {Q : Int × List Int → Prop} (hi : i < fs.length) (h : ∀ f ∈ fs.take i, Q f) (hq : Q (fs.getD i (0, []))) : ∀ f ∈ fs.take (i + 1), Q f := by
  intro f hf
  rw [List.take_succ_eq_append_getElem hi] at hf
  rcases List.mem_append.1 hf with h1 | h1
  · exact h f h1
  · simp at h1
    rw [h1]
    simpa [List.getElem?_eq_getElem hi] using hq

set_option maxHeartbeats 2000000 in
set_option maxRecDepth 100000 in
theorem all_few (ab : Option Addr) (cb : Nat) (bs : List Int) (al : Option Addr) (cl : Nat) (fs : List (Int × List Int)) (w : World) (hv : Byt w (.slice ab bs.length cb) bs) (hf : Frames w (.slice al fs.length cl) fs)
    (hb : bs.length ≤ 2000) (hl : fs.length ≤ 20) :
    Calls Try.prog 7 #[.slice ab bs.length cb, .slice al fs.length cl] w fun e w' => e = .returned (.bool true) ∧ Below w.heap.size w w' := by
  obtain ⟨i0, hi0, hz0, hz1, hz2⟩ := info_parts info5
  have HV := hide hv
  have HF := hide hf
  clear hv hf
  go_enter Try.func7, Try.ntmps7
  go_wp2_with fail
  refine (awake_any _).mono ?_
  rintro e w1 ⟨rfl, hB1⟩
  go_wp2_with fail
  go_loopw [5, 7, 8, 9, 29] (fun xv _ _ _ iv wr => ∃ (i : Nat) (F : List Int), i ≤ fs.length ∧ iv = .int .i64 i ∧ Hid (F = Frm.lays (fs.take i)) ∧ Hid (∀ f ∈ fs.take i, f.2.length ≤ 500 ∧ 0 ≤ f.1 ∧ f.1 < 256 ∧ Frm.Bts f.2) ∧
      wr.ownsRow w.heap.size 5 1 xv F.length (F.map (Value.int .u8)) ∧ Below w.heap.size w wr) (fun _ _ _ _ iv _ => fs.length - (intOf iv).toNat)
  case atStart => exact ⟨0, [], by omega, rfl, rfl, by intro f hf; simp at hf, World.ownsRow_nil _ _ _ _, hB1⟩
  case round =>
    obtain ⟨i, F, hi, rfl, HFi, hall, hown, hBr⟩ := hrel
    have hFl : F.length ≤ 10400 := by
      rw [HFi.out]
      have := lays_len (m := 500) (fun f hf => (hall.out f hf).1) (by omega)
      have h2 : (fs.take i).length ≤ 20 := by simp; omega
      omega
    by_cases hlt : i < fs.length
    · obtain ⟨b, off, rfl, ⟨c0, hk0, hk1, u, c1, hu⟩⟩ := (HF.out.below hBr).at i hlt
      have HT := hide (Frm.lays_take hlt)
      have hA := take_all (Q := fun f => f.2.length ≤ 500 ∧ 0 ≤ f.1 ∧ f.1 < 256 ∧ Frm.Bts f.2) hlt hall.out
      generalize fs.getD i (0, []) = f at *
      obtain ⟨k, xs⟩ := f
      simp only at c0 hk0 hk1 hu HT hA
      have HA := hide hA
      clear hA
      obtain ⟨au, cu, rfl⟩ := hu.slice
      have hBx := hBr.alloc hBr.size (.cells #[.int .u8 k, .slice au xs.length cu] 38)
      have hBy := (Below.refl wr.heap.size wr).alloc (Nat.le_refl _) (.cells #[.int .u8 k, .slice au xs.length cu] 38)
      have hux := hu.below hBy
      have hox := hown.alloc (.cells #[.int .u8 k, .slice au xs.length cu] 38)
      have d1 : (wr.alloc (.cells #[.int .u8 k, .slice au xs.length cu] 38)).cell? ⟨wr.heap.size, 1, none⟩ = some (.slice au xs.length cu) := by go_simp
      have HX := hide hux
      have hzx : (wr.alloc (.cells #[.int .u8 k, .slice au xs.length cu] 38)).heap.size = wr.heap.size + 1 := by simp
      by_cases hbig : 65536 < xs.length
      · have hL := hide (lay_long k _ xs _ hux hbig)
        clear hu hux hown hBr
        go_wp2_with fail
        refine hL.out.mono ?_
        rintro e w3 ⟨rfl, rfl⟩
        go_wp2_with fail
        go_ret
        exact ⟨rfl, hBx⟩
      · have hL := hide (lay_own k _ xs _ hk0 hk1 hux (by omega))
        clear hu hux hown hBr
        go_wp2_with fail
        refine hL.out.mono ?_
        rintro e w3 ⟨v3, rfl, hO3, hB3⟩
        have d3 := (hB3.cell (p := ⟨wr.heap.size, 1, none⟩) (by simp)).trans d1
        have hBw3 := bel_of hBx hB3
        clear d1
        by_cases h500 : 500 < xs.length
        · have h5 : (500 : Int) < (xs.length : Int) := by omega
          clear hO3
          go_wp2_with fail
          go_ret
          exact ⟨rfl, hBw3⟩
        · have h5 : (xs.length : Int) ≤ 500 := by omega
          have hbx : Frm.Bts xs := HX.out.bytes
          have hb3 := Byt.of_owns hO3 (Frm.lay_bts hk0 hk1 hbx)
          have ho3 := owns_below hox hB3
          have hlm := Frm.lay_more (k := k) (xs := xs) (by omega)
          have HA2 := hide (HA.out ⟨by omega, hk0, hk1, hbx⟩)
          have hFn : Hid (F ++ Frm.lay k xs = Frm.lays (fs.take (i + 1))) := by show _ = _; rw [HT.out, HFi.out]
          clear HT HA HFi hall hbx hO3 hB3 hBx hBy hox c0 c1 HX
          generalize Frm.lay k xs = L at *
          go_wp2_with (at_builtin; go_must (refine wpList_append_byt _ rfl (.tmp 49) (.tmp 50) 22 rfl w.heap.size i0 Try.underlying22 hi0 hz0 hz1 hz2 _ _ _ rfl ho3 _ _ rfl hb3 (by omega) hBw3.size ?_))
          intro v4 w4 hO4 hg4
          have hB4 := hBw3.grown hg4 hBw3.size (fun k hk => (ho3.lt k hk).1)
          have hO4' : w4.ownsRow w.heap.size 5 1 v4 (F ++ L).length ((F ++ L).map (Value.int .u8)) := owns_cast hO4 (by simp) (by simp)
          clear hO4 hg4 ho3 hb3 hBw3
          go_wp2_with fail
          go_roundw
          case rel => exact ⟨i + 1, F ++ L, by omega, by go_num, hFn, HA2, hO4', hB4⟩
          case measure => simp [intOf]; omega
    · obtain rfl : i = fs.length := by omega
      have HFs : Hid (F = Frm.lays fs) := by show _ = _; rw [HFi.out, List.take_of_length_le (Nat.le_refl _)]
      have hall' : Hid (∀ f ∈ fs, f.2.length ≤ 500 ∧ 0 ≤ f.1 ∧ f.1 < 256 ∧ Frm.Bts f.2) := by
        have := hall.out
        rw [List.take_of_length_le (Nat.le_refl _)] at this
        exact this
      have hvb := HV.out.below hBr
      clear HFi hall
      go_wp2_with (at_builtin; go_must (refine wpList_append_byt _ rfl (.tmp 53) (.tmp 54) 22 rfl w.heap.size i0 Try.underlying22 hi0 hz0 hz1 hz2 _ _ _ rfl hown _ _ rfl hvb (by omega) hBr.size ?_))
      intro vx w2 hO2 hg2
      have hB2 := hBr.grown hg2 hBr.size (fun k hk => (hown.lt k hk).1)
      obtain ⟨X, hX⟩ : ∃ X, X = F ++ bs := ⟨_, rfl⟩
      have hXb : Frm.Bts X := by
        rw [hX, HFs.out]
        exact (lays_bts (fun f hf => (hall'.out f hf).2)).app HV.out.bytes
      have hx2 : Byt w2 vx X := Byt.of_owns (n := F.length + bs.length) (by rw [hX]; simpa using hO2) hXb
      have hXl : X.length ≤ 20000 := by rw [hX]; simp; omega
      have hlaid := Frm.al_laid X hXb
      have hals := Frm.al_lays bs fs (fun f hf => by have := (hall'.out f hf).1; omega)
      have hge : fs.length ≤ (Frm.al X).length := by
        rw [hX, HFs.out, hals, List.length_append]
        omega
      have hA := hide (all_any vx X w2 hx2 (by omega))
      generalize Frm.al X = gs at *
      generalize Frm.an X = n at *
      obtain ⟨ax, cx, rfl⟩ := hx2.slice
      have HX2 := hide hx2
      have HLD := hide hlaid
      clear hX hXb hx2 hlaid hals hown hg2 hO2 hBr hvb HFs hall' hFl
      go_wp2_with fail
      refine hA.out.mono ?_
      rintro e w3 ⟨vg, rfl, hG3, hB3⟩
      obtain ⟨ag, cg, rfl⟩ := hG3.slice
      have HG3 := hide hG3
      have hBw3 := bel_of hB2 hB3
      have HX3 := hide (HX2.out.below hB3)
      clear hA hG3 HX2 hB3 hB2
      have hgl : gs.length ≤ 20000 := by have h1 := lays_ge gs; have h2 := HLD.out; omega
      have hn2 : n ≤ 20000 := by have h2 := HLD.out; omega
      have hge' : (fs.length : Int) ≤ (gs.length : Int) := by omega
      go_wp2_with fail
      go_loopw [12, 14, 15, 16, 63] (fun yv _ _ _ iv wr => ∃ (i : Nat) (F : List Int), i ≤ gs.length ∧ iv = .int .i64 i ∧ Hid (F = Frm.lays (gs.take i)) ∧
          wr.ownsRow w3.heap.size 5 1 yv F.length (F.map (Value.int .u8)) ∧ Below w3.heap.size w3 wr) (fun _ _ _ _ iv _ => gs.length - (intOf iv).toNat)
      case atStart => exact ⟨0, [], by omega, rfl, rfl, World.ownsRow_nil _ _ _ _, Below.refl _ _⟩
      case round =>
        obtain ⟨i, F, hi, rfl, HFi, hown, hBr⟩ := hrel
        have hFl : F.length ≤ 20000 := by
          rw [HFi.out]
          have := lays_part gs i
          have h2 := HLD.out.2.2.1
          omega
        by_cases hlt : i < gs.length
        · obtain ⟨b, off, rfl, ⟨c0, hk0, hk1, u, c1, hu⟩⟩ := (HG3.out.below hBr).at i hlt
          have HT := hide (Frm.lays_take hlt)
          have hq := HLD.out.2.2.2 (gs.getD i (0, [])) (by simp [List.getElem?_eq_getElem hlt])
          have hfit : (Frm.lays (gs.take (i + 1))).length ≤ 20000 := by
            have := lays_part gs (i + 1)
            have h2 := HLD.out.2.2.1
            omega
          rw [HT.out] at hfit
          generalize gs.getD i (0, []) = f at *
          obtain ⟨k, xs⟩ := f
          simp only at c0 hk0 hk1 hu HT hq
          obtain ⟨hq1, _, _, hq4⟩ := hq
          obtain ⟨au, cu, rfl⟩ := hu.slice
          have hBx := hBr.alloc hBr.size (.cells #[.int .u8 k, .slice au xs.length cu] 38)
          have hBy := (Below.refl wr.heap.size wr).alloc (Nat.le_refl _) (.cells #[.int .u8 k, .slice au xs.length cu] 38)
          have hux := hu.below hBy
          have hox := hown.alloc (.cells #[.int .u8 k, .slice au xs.length cu] 38)
          have hL := hide (lay_own k _ xs _ hk0 hk1 hux hq1)
          have hFn : Hid (F ++ Frm.lay k xs = Frm.lays (gs.take (i + 1))) := by show _ = _; rw [HT.out, HFi.out]
          rw [List.length_append, ← HFi.out] at hfit
          have hbL := hide (Frm.lay_bts hk0 hk1 hq4)
          clear hu hux hown hBr HT HFi hBy
          generalize Frm.lay k xs = L at *
          go_wp2_with fail
          refine hL.out.mono ?_
          rintro e w5 ⟨v5, rfl, hO5, hB5⟩
          have hb5 := Byt.of_owns hO5 hbL.out
          have ho5 := owns_below hox hB5
          have hBw5 := bel_of hBx hB5
          clear hO5 hB5 hBx hox c0 c1 hL
          go_wp2_with (at_builtin; go_must (refine wpList_append_byt _ rfl (.tmp 77) (.tmp 78) 22 rfl w3.heap.size i0 Try.underlying22 hi0 hz0 hz1 hz2 _ _ _ rfl ho5 _ _ rfl hb5 (by omega) hBw5.size ?_))
          intro v6 w6 hO6 hg6
          have hB6 := hBw5.grown hg6 hBw5.size (fun k hk => (ho5.lt k hk).1)
          have hO6' : w6.ownsRow w3.heap.size 5 1 v6 (F ++ L).length ((F ++ L).map (Value.int .u8)) := owns_cast hO6 (by simp) (by simp)
          clear hO6 hg6 ho5 hb5 hBw5
          go_wp2_with fail
          go_roundw
          case rel => exact ⟨i + 1, F ++ L, by omega, by go_num, hFn, hO6', hB6⟩
          case measure => simp [intOf]; omega
        · obtain rfl : i = gs.length := by omega
          obtain ⟨l1, l2, l3, l4⟩ := HLD.out
          have hF : F = Frm.lays gs := by rw [HFi.out, List.take_of_length_le (Nat.le_refl _)]
          have hbF : Frm.Bts F := by
            rw [hF]
            exact lays_bts (fun f hf => (l4 f hf).2)
          have y1 := (Byt.of_owns hown hbF).drew
          have y2 := ((HX3.out.below hBr).take n l2).drew
          rw [← l1, ← hF] at y2
          obtain ⟨ay, cy, rfl⟩ := y1.slice
          rw [← hF] at l3
          rw [l3] at y1 ⊢
          have hcx := y2.cap.2.1
          have hcxi : (n : Int) ≤ (cx : Int) := by omega
          have hBf := bel_of hBw3 hBr
          generalize F = Y at *
          clear hown hF hbF HFi l1 l2 l3 l4 HLD
          go_wp2_with fail
          refine wp_region_each (by kernel_rfl) (fun d v _ => Gall ag al ay ax gs.length cg fs.length cl n cy X.length cx Y d v) (fun W => W = wr.drew) (by kernel_rfl) (by repeat' (first | exact trivial | exact fun _ _ h => h | constructor)) rfl ?_ ?_
          · refine And.intro ?_ (And.intro ?_ (And.intro ?_ (And.intro ?_ (And.intro ?_ (And.intro ?_ (And.intro ?_ (And.intro ?_ (And.intro ?_ (And.intro ?_ (And.intro ?_ (And.intro ?_ (And.intro ?_ (And.intro ?_ (And.intro ?_ (And.intro ?_ (And.intro ?_ (And.intro ?_ (And.intro ?_ (And.intro ?_ (And.intro ?_ trivial))))))))))))))))))))
            · exact asked_pure rfl (fun _ _ => rfl) (fun a w _ hb _ => run_move rfl (hb 10 rfl))
            · exact asked_pure rfl (fun _ _ => rfl) (fun a w _ _ hd => run_len rfl (hd 81 rfl) Try.underlying35)
            · exact asked_pure rfl (fun _ _ => rfl) (fun a w _ hb _ => run_move rfl (hb 1 rfl))
            · exact asked_pure rfl (fun _ _ => rfl) (fun a w _ _ hd => run_len rfl (hd 83 rfl) Try.underlying35)
            · refine asked_pure rfl (fun _ _ => rfl) (fun a w hS hb hd => ?_)
              have e82 : a.eval (.tmp 82) = .int .i64 (gs.length : Nat) := hd 82 rfl
              have e84 : a.eval (.tmp 84) = .int .i64 (fs.length : Nat) := hd 84 rfl
              clear hS hb hd
              (simp only [execOp]; try simp only [Option.map]); (try simp only [List.map_toArray, List.map_cons, List.map_nil]); (simp only [e82, e84]; go_simp)
            · exact asked_pure rfl (fun _ _ => rfl) (fun a w _ _ hd => run_move rfl (hd 85 rfl))
            · exact asked_pure rfl (fun _ _ => rfl) (fun a w _ hb _ => run_move rfl (hb 12 rfl))
            · exact asked_pure rfl (fun _ _ => rfl) (fun a w _ _ hd => run_len rfl (hd 87 rfl) Try.underlying22)
            · exact asked_pure rfl (fun _ _ => rfl) (fun a w _ hb _ => run_move rfl (hb 11 rfl))
            · refine asked_pure rfl (fun _ _ => rfl) (fun a w hS hb hd => ?_)
              have e88 : a.eval (.tmp 88) = .int .i64 (n : Nat) := hd 88 rfl
              have e89 : a.eval (.tmp 89) = .int .i64 (n : Nat) := hd 89 rfl
              (simp only [execOp]; try simp only [Option.map]); (try simp only [List.map_toArray, List.map_cons, List.map_nil]); (simp only [e88, e89]; go_simp)
            · refine asked_pure rfl (fun _ _ => rfl) (fun a w hS hb hd => ?_)
              have e86 : a.eval (.tmp 86) = .bool true := hd 86 rfl
              have e90 : a.eval (.tmp 90) = .bool true := hd 90 rfl
              (simp only [execOp]; try simp only [Option.map]); (try simp only [List.map_toArray, List.map_cons, List.map_nil]); (simp only [e86, e90]; go_simp)
            · exact asked_pure rfl (fun _ _ => rfl) (fun a w _ _ hd => run_move rfl (hd 91 rfl))
            · exact asked_pure rfl (fun _ _ => rfl) (fun a w _ hb _ => run_move rfl (hb 12 rfl))
            · refine asked_pure rfl (fun _ _ => rfl) (fun a w hS _ hd => ?_)
              have e93 : a.eval (.tmp 93) = .slice ay n cy := hd 93 rfl
              subst hS
              exact run_conv rfl e93 y1
            · exact asked_pure rfl (fun _ _ => rfl) (fun a w _ hb _ => run_move rfl (hb 5 rfl))
            · exact asked_pure rfl (fun _ _ => rfl) (fun a w _ hb _ => run_move rfl (hb 11 rfl))
            · refine asked_pure rfl (fun _ _ => rfl) (fun a w hS hb hd => ?_)
              have e95 : a.eval (.tmp 95) = .slice ax X.length cx := hd 95 rfl
              have e96 : a.eval (.tmp 96) = .int .i64 (n : Nat) := hd 96 rfl
              clear hS hb hd
              (simp only [execOp]; try simp only [Option.map]); (try simp only [List.map_toArray, List.map_cons, List.map_nil]); (simp only [e95, e96]; go_simp)
            · refine asked_pure rfl (fun _ _ => rfl) (fun a w hS _ hd => ?_)
              have e97 : a.eval (.tmp 97) = .slice ax n cx := hd 97 rfl
              subst hS
              exact run_conv rfl e97 y2
            · refine asked_pure rfl (fun _ _ => rfl) (fun a w hS hb hd => ?_)
              have e94 : a.eval (.tmp 94) = .string (strOfNums Y) := hd 94 rfl
              have e98 : a.eval (.tmp 98) = .string (strOfNums Y) := hd 98 rfl
              (simp only [execOp]; try simp only [Option.map]); (try simp only [List.map_toArray, List.map_cons, List.map_nil]); (simp only [e94, e98]; go_simp)
            · refine asked_pure rfl (fun _ _ => rfl) (fun a w hS hb hd => ?_)
              have e92 : a.eval (.tmp 92) = .bool true := hd 92 rfl
              have e99 : a.eval (.tmp 99) = .bool true := hd 99 rfl
              (simp only [execOp]; try simp only [Option.map]); (try simp only [List.map_toArray, List.map_cons, List.map_nil]); (simp only [e92, e99]; go_simp)
            · exact asked_pure rfl (fun _ _ => rfl) (fun a w _ _ hd => run_assign rfl (hd 100 rfl))
          · intro s W hW hs
            have h4 : s 4 = .bool true := hs 4 rfl
            subst hW
            clear hs
            simp [overlay, dstsOf]
            go_wp2
            go_ret
            rw [h4]
            exact ⟨rfl, hBf.drew⟩

set_option maxHeartbeats 1000000 in
set_option maxRecDepth 100000 in
theorem all_many (ab : Option Addr) (cb lb : Nat) (al : Option Addr) (cl ll : Nat) (w : World) (h : 2000 < lb ∨ 20 < ll) :
    Calls Try.prog 7 #[.slice ab lb cb, .slice al ll cl] w fun e w' => e = .returned (.bool true) ∧ Below w.heap.size w w' := by
  have HH := hide h
  clear h
  go_enter Try.func7, Try.ntmps7
  go_wp2_with fail
  refine (awake_any _).mono ?_
  rintro e w2 ⟨rfl, hBw⟩
  by_cases h1 : 2000 < lb
  · have h1' : (2000 : Int) < (lb : Int) := by omega
    go_wp2_with fail
    go_ret
    exact ⟨rfl, hBw⟩
  · have h1' : (lb : Int) ≤ 2000 := by omega
    have h2 : (20 : Int) < (ll : Int) := by have := HH.out; omega
    go_wp2_with fail
    go_ret
    exact ⟨rfl, hBw⟩

theorem walk {H : Type} {enc : TypeId × Value → H} (W : World) (base : Nat) (v0 v1 : Value) {d0 d1 : DataW H} {p0 p1 : List MemPlace} (o0 : Value.okWide Try.prog W .any base 22 v0) (k0 : DataW.Trod enc Try.prog W 0 (fun _ => true) true 22 v0 d0 p0) (o1 : Value.okWide Try.prog W .any base 35 v1) (k1 : DataW.Trod enc Try.prog W 0 (fun _ => true) true 35 v1 d1 p1) :
    Calls Try.prog 7 #[v0, v1] W fun e w' => e = .returned (.bool true) ∧ Below W.heap.size W w' := by
  obtain ⟨bs, hb⟩ := byt_in o0 k0
  obtain ⟨fs, hf⟩ := frames_in o1 k1
  obtain ⟨ab, cb, rfl⟩ := hb.slice
  obtain ⟨al, cl, rfl⟩ := hf.slice
  clear o0 o1 k0 k1
  by_cases hl : bs.length ≤ 2000 ∧ fs.length ≤ 20
  · exact all_few ab cb bs al cl fs W hb hf hl.1 hl.2
  · exact all_many ab cb bs.length al cl fs.length W (by omega)

set_option maxRecDepth 100000 in
theorem lifted (os : Os) (started : os.Started) (H : Type) (enc : TypeId × Value → H) :
    ReturnsInHanded {} Try.checked os 7 .any (Rows.frameAllSpec.pre6 enc Try.prog Try.f7 Rows.frameAllRow.domain false) (Rows.frameAllSpec.post enc Try.prog Try.f7 false true false false) := by
  refine returnsInHanded_of_change (C := Try.checked) own started (by kernel_rfl) Try.func7
    (ChangeSpec.witness6 (enc := enc) (C := Try.checked) false ⟨#[], #[.slice none 0 0, .slice none 0 0], []⟩ 8 (by kernel_rfl) (by kernel_rfl) (by kernel_rfl) (by kernel_rfl)) ?_
  intro W base args ds gs before hval0 hW hcnd _
  have hval : ∀ (j : Nat) t v, Try.f7.params[j]? = some t → args[j]? = some v → Value.okWide Try.prog W .any base t v := hval0
  have hW' := hW
  obtain ⟨p, q, hA0, hV, rfl, hfz, hnd⟩ := hW
  have hA : DataW.TrodAll enc Try.prog W 0 (fun _ => true) true Try.f7.params.toList args.toList ds p := hA0
  rw [Try.params7] at hA hval
  obtain ⟨v0, vs0, d0, ds0, p0, q0, hargs, rfl, rfl, h0, r0⟩ := trodAll_cons hA
  obtain ⟨v1, vs1, d1, ds1, p1, q1, rfl, rfl, rfl, h1, r1⟩ := trodAll_cons r0
  obtain ⟨rfl, rfl, rfl⟩ := trodAll_nil r1
  obtain rfl : args = #[v0, v1] := by cases args; simp_all
  obtain ⟨rfl, rfl⟩ := trodVars_none hV
  have lt0 : ∀ x ∈ p0, x.block < W.heap.size := by obtain ⟨m, hm⟩ := h0; exact DataW.trod_lt m _ _ _ hm
  have lt1 : ∀ x ∈ p1, x.block < W.heap.size := by obtain ⟨m, hm⟩ := h1; exact DataW.trod_lt m _ _ _ hm
  refine (walk W base v0 v1 (hval 0 22 v0 rfl rfl) h0 (hval 1 35 v1 rfl rfl) h1).mono fun e W' ⟨he, bel⟩ => ?_
  subst he
  exact ⟨_, rfl, _, _, _, [], _, [], hW', trodAll_mk1 (shut_bool Try.underlying4 _), (trodAll_cons_mk (Below.trod laidOut (by kernel_rfl) (of_decide_eq_true (by kernel_rfl)) h0 bel lt0) (trodAll_cons_mk (Below.trod laidOut (by kernel_rfl) (of_decide_eq_true (by kernel_rfl)) h1 bel lt1) trodAll_mk0)), rfl, bel.frame _, fun h => by cases h⟩

theorem over : Rows.frameAllRow.holds Try.pinned (OpenSpec.ofChange Rows.frameAllSpec) :=
  OpenClaim.holds_of_wide 7 Try.f7 rfl rfl rfl rfl rfl rfl rfl ⟨rfl, rfl, rfl, rfl, rfl⟩ rfl rfl rfl rfl rfl (by kernel_rfl) Try.func7 (by kernel_rfl)
    (of_decide_eq_true (by kernel_rfl)) (by unfold Func.isWrapper; first | (rw [if_pos (by decide +kernel)]; kernel_rfl) | (rw [if_neg (by decide +kernel)]; exact ⟨rfl, rfl⟩))
    (fun os started H enc _ => lifted os started H enc)

end Go.Proofs.Ytlonniegaaocoaa.frameAll
namespace Go.Proofs.Ytlonniegaaocoaa
theorem frameAll_holds : Rows.FrameAllSaid := frameAll.over
#print axioms frameAll_holds
end Go.Proofs.Ytlonniegaaocoaa
