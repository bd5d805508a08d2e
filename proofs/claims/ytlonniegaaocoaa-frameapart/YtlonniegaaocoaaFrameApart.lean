/- FrameApart: P3.1: unlike frames have unlike bytes, and none is the beginning of another one. -/
import Derived.Test.YtlonniegaaocoaaRows
import Derived.WalkKit
import Derived.ProofKit
import Derived.OpenShut
import Derived.ShutString
import Derived.ChangeOld
import Derived.Below
import Derived.Test.YtlonniegaaocoaaAwake
import Derived.Test.YtlonniegaaocoaaRefTake
import Derived.Test.YtlonniegaaocoaaOpen
namespace Go.Proofs.Ytlonniegaaocoaa.frameApart
open Go.ChangeShapes Go.WideShapes Go.ChangeAt Go.RowKit
open Go.ChangeMaps (open_string shut_string)
set_option linter.unusedVariables false

theorem own : ownKnob Try.prog.godebug = none := by kernel_rfl
theorem laidOut : laidOutB Try.prog = true := by kernel_rfl

section
variable {a : Act} {w : World} {o : Oper}
theorem run_eqS {x y : Operand} {l m : List Int} {t : TypeId} (hop : o.op = .binOp .eql 9 x y t) (e : a.eval x = .string (strOfNums l)) (ey : a.eval y = .string (strOfNums m)) (hl : Frm.Bts l) (hm : Frm.Bts m) :
    (execOp a.eval o).run Try.prog w = .ok (.value (.bool (decide (l = m)))) w := by
  have hd : (decide (l = m)) = ((strOfNums l).toList == (strOfNums m).toList) := by rw [str_beq hl hm]
  unfold execOp
  rw [hop]
  simp only [e, ey]
  rw [hd]
  go_simp
theorem run_eqB {x y : Operand} {l m : Bool} {t : TypeId} (hop : o.op = .binOp .eql 4 x y t) (e : a.eval x = .bool l) (ey : a.eval y = .bool m) (h : l = m) :
    (execOp a.eval o).run Try.prog w = .ok (.value (.bool true)) w := by
  subst h
  unfold execOp
  rw [hop]
  simp only [e, ey]
  go_simp
end

/-- What is known of each temporary that the last statement writes, once it is written. -/
def Ga (gx lx cx gy ly cy m : Nat) (xm ym : List Int) (sm : Bool) : Tmp → Value → Prop
  | 58, v => v = .int .i64 0
  | 59, v => v = .bool true
  | 60, v => v = .bool true
  | 61, v => v = .int .i64 0
  | 62, v => v = .bool true
  | 63, v => v = .bool true
  | 64, v => v = .bool true
  | 65, v => v = .slice (some ⟨gx, 0, none⟩) lx cx
  | 66, v => v = .int .i64 (m : Nat)
  | 67, v => v = .slice (some ⟨gx, 0, none⟩) m cx
  | 68, v => v = .string (strOfNums xm)
  | 69, v => v = .slice (some ⟨gy, 0, none⟩) ly cy
  | 70, v => v = .int .i64 (m : Nat)
  | 71, v => v = .slice (some ⟨gy, 0, none⟩) m cy
  | 72, v => v = .string (strOfNums ym)
  | 73, v => v = .bool (decide (xm = ym))
  | 74, v => v = .bool sm
  | 75, v => v = .bool true
  | 76, v => v = .bool true
  | 4, v => v = .bool true
  | _, _ => True

theorem run_min2 (n k m : Nat) (hm : m = min n k) (ts : Array TypeId) (t : TypeId) (W : World) : (Builtin.min_ ts t #[.int .i64 (n : Int), .int .i64 (k : Int)]).run Try.prog W = .ok (.int .i64 (m : Int)) W := by
  rw [run_min_int2]
  subst hm
  split <;> (congr 2; omega)

set_option maxHeartbeats 2000000 in
set_option maxRecDepth 100000 in
theorem apart_few (k1 k2 : Int) (a1 a2 : Option Addr) (cap1 cap2 : Nat) (xs ys : List Int) (w : World) (h10 : 0 ≤ k1) (h11 : k1 < 256) (h20 : 0 ≤ k2) (h21 : k2 < 256)
    (hv1 : Byt w (.slice a1 xs.length cap1) xs) (hv2 : Byt w (.slice a2 ys.length cap2) ys) (hx : xs.length ≤ 2000) (hy : ys.length ≤ 2000) :
    Calls Try.prog 8 #[.agg #[.int .u8 k1, .slice a1 xs.length cap1], .agg #[.int .u8 k2, .slice a2 ys.length cap2]] w fun e w' => e = .returned (.bool true) ∧ Below w.heap.size w w' := by
  have hap := Frm.lay_apart (k := k1) (k' := k2) (xs := xs) (ys := ys) (by omega) (by omega)
  have hbX := Frm.lay_bts h10 h11 hv1.bytes
  have hbY := Frm.lay_bts h20 h21 hv2.bytes
  have hlX := Frm.lay_pos k1 xs
  have hlY := Frm.lay_pos k2 ys
  have hb1 : Frm.Bts xs := hv1.bytes
  have hb2 : Frm.Bts ys := hv2.bytes
  have hL1 := fun W h => lay_own k1 (.slice a1 xs.length cap1) xs W h10 h11 h (by omega)
  have hL2 := fun W h => lay_own k2 (.slice a2 ys.length cap2) ys W h20 h21 h (by omega)
  generalize Frm.lay k1 xs = x at *
  generalize Frm.lay k2 ys = y at *
  obtain ⟨m, hm⟩ : ∃ m, m = min x.length y.length := ⟨_, rfl⟩
  rw [← hm] at hap
  have hmin := run_min2 x.length y.length m hm
  have hmx : m ≤ x.length := by omega
  have hmy : m ≤ y.length := by omega
  have HAP := hide hap
  have HL1 := hide hL1
  have HL2 := hide hL2
  have HBX := hide hbX
  have HBY := hide hbY
  have HB1 := hide hb1
  have HB2 := hide hb2
  have HV1 := hide hv1
  have HV2 := hide hv2
  have hBa := (Below.refl w.heap.size w).alloc (Nat.le_refl _) (.cells #[.int .u8 k1, .slice a1 xs.length cap1] 38)
  have hBb := hBa.alloc (by simp) (.cells #[.int .u8 k2, .slice a2 ys.length cap2] 38)
  have c10 : ((w.alloc (.cells #[.int .u8 k1, .slice a1 xs.length cap1] 38)).alloc (.cells #[.int .u8 k2, .slice a2 ys.length cap2] 38)).cell? ⟨w.heap.size, 0, none⟩ = some (.int .u8 k1) := by go_simp
  have c11 : ((w.alloc (.cells #[.int .u8 k1, .slice a1 xs.length cap1] 38)).alloc (.cells #[.int .u8 k2, .slice a2 ys.length cap2] 38)).cell? ⟨w.heap.size, 1, none⟩ = some (.slice a1 xs.length cap1) := by go_simp
  have c20 : ((w.alloc (.cells #[.int .u8 k1, .slice a1 xs.length cap1] 38)).alloc (.cells #[.int .u8 k2, .slice a2 ys.length cap2] 38)).cell? ⟨w.heap.size + 1, 0, none⟩ = some (.int .u8 k2) := by go_simp
  have c21 : ((w.alloc (.cells #[.int .u8 k1, .slice a1 xs.length cap1] 38)).alloc (.cells #[.int .u8 k2, .slice a2 ys.length cap2] 38)).cell? ⟨w.heap.size + 1, 1, none⟩ = some (.slice a2 ys.length cap2) := by go_simp
  clear hap hL1 hL2 hbX hbY hb1 hb2 hv1 hv2 hm hBa
  go_enter Try.func8, Try.ntmps8
  go_wp2_with fail
  refine (awake_any _).mono ?_
  rintro e w2 ⟨rfl, hB2⟩
  generalize hw0 : (w.alloc (.cells #[.int .u8 k1, .slice a1 xs.length cap1] 38)).alloc (.cells #[.int .u8 k2, .slice a2 ys.length cap2] 38) = w0 at *
  have hz0 : w0.heap.size = w.heap.size + 2 := by rw [← hw0]; simp
  have HW0 := hide hw0
  clear hw0
  have d10 := (hB2.cell (p := ⟨w.heap.size, 0, none⟩) (by simp; omega)).trans c10
  have d11 := (hB2.cell (p := ⟨w.heap.size, 1, none⟩) (by simp; omega)).trans c11
  have d20 := (hB2.cell (p := ⟨w.heap.size + 1, 0, none⟩) (by simp; omega)).trans c20
  have d21 := (hB2.cell (p := ⟨w.heap.size + 1, 1, none⟩) (by simp; omega)).trans c21
  have hBw := bel_of hBb hB2
  have hzw := hB2.size
  clear c10 c11 c20 c21
  go_wp2_with fail
  refine (HL1.out w2 (HV1.out.below hBw)).mono ?_
  rintro e w3 ⟨vx, rfl, hO3, hB3⟩
  have e10 := (hB3.cell (p := ⟨w.heap.size, 0, none⟩) (by simp; omega)).trans d10
  have e11 := (hB3.cell (p := ⟨w.heap.size, 1, none⟩) (by simp; omega)).trans d11
  have e20 := (hB3.cell (p := ⟨w.heap.size + 1, 0, none⟩) (by simp; omega)).trans d20
  have e21 := (hB3.cell (p := ⟨w.heap.size + 1, 1, none⟩) (by simp; omega)).trans d21
  have hBw3 := bel_of hBw hB3
  have hzw3 := hB3.size
  clear d10 d11 d20 d21 hB2
  go_wp2_with fail
  refine (HL2.out w3 (HV2.out.below hBw3)).mono ?_
  rintro e w5 ⟨vy, rfl, hO5, hB5'⟩
  have f10 := (hB5'.cell (p := ⟨w.heap.size, 0, none⟩) (by simp; omega)).trans e10
  have f11 := (hB5'.cell (p := ⟨w.heap.size, 1, none⟩) (by simp; omega)).trans e11
  have f20 := (hB5'.cell (p := ⟨w.heap.size + 1, 0, none⟩) (by simp; omega)).trans e20
  have f21 := (hB5'.cell (p := ⟨w.heap.size + 1, 1, none⟩) (by simp; omega)).trans e21
  have hB5 := bel_of hBw3 hB5'
  have bx := (Byt.of_owns (owns_below hO3 hB5') HBX.out).drew
  have bY := (Byt.of_owns hO5 HBY.out).drew
  have s1 := str_conv (HV1.out.below hB5)
  have s2 := str_conv (HV2.out.below hB5)
  obtain ⟨gx, cx, rfl, hcx⟩ : ∃ g cap, vx = .slice (some ⟨g, 0, none⟩) x.length cap ∧ x.length ≤ cap := by
    rcases hO3.2 with ⟨_, hn0⟩ | ⟨g, cap, cur, rfl, _, _, hnc, _⟩
    · omega
    · exact ⟨g, cap, rfl, hnc⟩
  obtain ⟨gy, cy, rfl, hcy⟩ : ∃ g cap, vy = .slice (some ⟨g, 0, none⟩) y.length cap ∧ y.length ≤ cap := by
    rcases hO5.2 with ⟨_, hn0⟩ | ⟨g, cap, cur, rfl, _, _, hnc, _⟩
    · omega
    · exact ⟨g, cap, rfl, hnc⟩
  have yx := bx.take m hmx
  have yy := bY.take m hmy
  have HS : Hid (((strOfNums xs).toList == (strOfNums ys).toList) = decide (xs = ys)) := str_beq HB1.out HB2.out
  generalize x.take m = xm at *
  generalize y.take m = ym at *
  clear e10 e11 e20 e21 hO3 hO5 hB3 hB5' bx bY hBw hBw3 hBb
  by_cases hk : k1 = k2
  · subst hk
    have hsm : decide (xm = ym) = ((strOfNums xs).toList == (strOfNums ys).toList) := by
      rw [HS.out]
      have := HAP.out
      by_cases hxy : xs = ys
      · simp [this.2 ⟨rfl, hxy⟩, hxy]
      · have hne : ¬ xm = ym := fun h => hxy (this.1 h).2
        simp [hne, hxy]
    have hcx' : (m : Int) ≤ (cx : Int) := by omega
    have hcy' : (m : Int) ≤ (cy : Int) := by omega
    have hm0 : (0 : Int) ≤ (m : Int) := by omega
    go_wp2_with fail
    refine wp_region_each (by kernel_rfl) (fun d v _ => Ga gx x.length cx gy y.length cy m xm ym ((strOfNums xs).toList == (strOfNums ys).toList) d v) (fun W => W = w5.drew) (by kernel_rfl) (by repeat' (first | exact trivial | exact fun _ _ h => h | constructor)) rfl ?_ ?_
    · refine And.intro ?_ (And.intro ?_ (And.intro ?_ (And.intro ?_ (And.intro ?_ (And.intro ?_ (And.intro ?_ (And.intro ?_ (And.intro ?_ (And.intro ?_ (And.intro ?_ (And.intro ?_ (And.intro ?_ (And.intro ?_ (And.intro ?_ (And.intro ?_ (And.intro ?_ (And.intro ?_ (And.intro ?_ (And.intro ?_ trivial)))))))))))))))))))
      · exact asked_pure rfl (fun _ _ => rfl) (fun a w _ hb _ => run_move rfl (hb 6 rfl))
      · refine asked_pure rfl (fun _ _ => rfl) (fun a w hS hb hd => ?_)
        have e58 : a.eval (.tmp 58) = .int .i64 0 := hd 58 rfl
        (simp only [execOp]; try simp only [Option.map]); (try simp only [List.map_toArray, List.map_cons, List.map_nil]); (simp only [e58]; go_simp)
      · exact asked_pure rfl (fun _ _ => rfl) (fun a w _ _ hd => run_move rfl (hd 59 rfl))
      · exact asked_pure rfl (fun _ _ => rfl) (fun a w _ hb _ => run_move rfl (hb 8 rfl))
      · refine asked_pure rfl (fun _ _ => rfl) (fun a w hS hb hd => ?_)
        have e61 : a.eval (.tmp 61) = .int .i64 0 := hd 61 rfl
        (simp only [execOp]; try simp only [Option.map]); (try simp only [List.map_toArray, List.map_cons, List.map_nil]); (simp only [e61]; go_simp)
      · refine asked_pure rfl (fun _ _ => rfl) (fun a w hS hb hd => ?_)
        have e60 : a.eval (.tmp 60) = .bool true := hd 60 rfl
        have e62 : a.eval (.tmp 62) = .bool true := hd 62 rfl
        (simp only [execOp]; try simp only [Option.map]); (try simp only [List.map_toArray, List.map_cons, List.map_nil]); (simp only [e60, e62]; go_simp)
      · exact asked_pure rfl (fun _ _ => rfl) (fun a w _ _ hd => run_move rfl (hd 63 rfl))
      · exact asked_pure rfl (fun _ _ => rfl) (fun a w _ hb _ => run_move rfl (hb 5 rfl))
      · exact asked_pure rfl (fun _ _ => rfl) (fun a w _ hb _ => run_move rfl (hb 9 rfl))
      · refine asked_pure rfl (fun _ _ => rfl) (fun a w hS hb hd => ?_)
        have e65 : a.eval (.tmp 65) = .slice (some ⟨gx, 0, none⟩) x.length cx := hd 65 rfl
        have e66 : a.eval (.tmp 66) = .int .i64 (m : Nat) := hd 66 rfl
        clear hS hb hd
        (simp only [execOp]; try simp only [Option.map]); (try simp only [List.map_toArray, List.map_cons, List.map_nil]); (simp only [e65, e66]; go_simp)
      · refine asked_pure rfl (fun _ _ => rfl) (fun a w hS _ hd => ?_)
        have e67 : a.eval (.tmp 67) = .slice (some ⟨gx, 0, none⟩) m cx := hd 67 rfl
        subst hS
        exact run_conv rfl e67 yx
      · exact asked_pure rfl (fun _ _ => rfl) (fun a w _ hb _ => run_move rfl (hb 7 rfl))
      · exact asked_pure rfl (fun _ _ => rfl) (fun a w _ hb _ => run_move rfl (hb 9 rfl))
      · refine asked_pure rfl (fun _ _ => rfl) (fun a w hS hb hd => ?_)
        have e69 : a.eval (.tmp 69) = .slice (some ⟨gy, 0, none⟩) y.length cy := hd 69 rfl
        have e70 : a.eval (.tmp 70) = .int .i64 (m : Nat) := hd 70 rfl
        clear hS hb hd
        (simp only [execOp]; try simp only [Option.map]); (try simp only [List.map_toArray, List.map_cons, List.map_nil]); (simp only [e69, e70]; go_simp)
      · refine asked_pure rfl (fun _ _ => rfl) (fun a w hS _ hd => ?_)
        have e71 : a.eval (.tmp 71) = .slice (some ⟨gy, 0, none⟩) m cy := hd 71 rfl
        subst hS
        exact run_conv rfl e71 yy
      · exact asked_pure rfl (fun _ _ => rfl) (fun a w _ _ hd => run_eqS rfl (hd 68 rfl) (hd 72 rfl) yx.bytes yy.bytes)
      · exact asked_pure rfl (fun _ _ => rfl) (fun a w _ hb _ => run_move rfl (hb 10 rfl))
      · exact asked_pure rfl (fun _ _ => rfl) (fun a w _ _ hd => run_eqB rfl (hd 73 rfl) (hd 74 rfl) hsm)
      · refine asked_pure rfl (fun _ _ => rfl) (fun a w hS hb hd => ?_)
        have e64 : a.eval (.tmp 64) = .bool true := hd 64 rfl
        have e75 : a.eval (.tmp 75) = .bool true := hd 75 rfl
        (simp only [execOp]; try simp only [Option.map]); (try simp only [List.map_toArray, List.map_cons, List.map_nil]); (simp only [e64, e75]; go_simp)
      · exact asked_pure rfl (fun _ _ => rfl) (fun a w _ _ hd => run_assign rfl (hd 76 rfl))
    · intro s W hW hs
      have h4 : s 4 = .bool true := hs 4 rfl
      subst hW
      clear hs
      simp [overlay, dstsOf]
      go_wp2
      go_ret
      rw [h4]
      exact ⟨rfl, hB5.drew⟩
  · have hkb : (k1 == k2) = false := by simpa using hk
    have hsm : decide (xm = ym) = false := by
      have := HAP.out
      simp
      exact fun h => hk (this.1 h).1
    clear hk
    have hcx' : (m : Int) ≤ (cx : Int) := by omega
    have hcy' : (m : Int) ≤ (cy : Int) := by omega
    have hm0 : (0 : Int) ≤ (m : Int) := by omega
    go_wp2_with fail
    refine wp_region_each (by kernel_rfl) (fun d v _ => Ga gx x.length cx gy y.length cy m xm ym false d v) (fun W => W = w5.drew) (by kernel_rfl) (by repeat' (first | exact trivial | exact fun _ _ h => h | constructor)) rfl ?_ ?_
    · refine And.intro ?_ (And.intro ?_ (And.intro ?_ (And.intro ?_ (And.intro ?_ (And.intro ?_ (And.intro ?_ (And.intro ?_ (And.intro ?_ (And.intro ?_ (And.intro ?_ (And.intro ?_ (And.intro ?_ (And.intro ?_ (And.intro ?_ (And.intro ?_ (And.intro ?_ (And.intro ?_ (And.intro ?_ (And.intro ?_ trivial)))))))))))))))))))
      · exact asked_pure rfl (fun _ _ => rfl) (fun a w _ hb _ => run_move rfl (hb 6 rfl))
      · refine asked_pure rfl (fun _ _ => rfl) (fun a w hS hb hd => ?_)
        have e58 : a.eval (.tmp 58) = .int .i64 0 := hd 58 rfl
        (simp only [execOp]; try simp only [Option.map]); (try simp only [List.map_toArray, List.map_cons, List.map_nil]); (simp only [e58]; go_simp)
      · exact asked_pure rfl (fun _ _ => rfl) (fun a w _ _ hd => run_move rfl (hd 59 rfl))
      · exact asked_pure rfl (fun _ _ => rfl) (fun a w _ hb _ => run_move rfl (hb 8 rfl))
      · refine asked_pure rfl (fun _ _ => rfl) (fun a w hS hb hd => ?_)
        have e61 : a.eval (.tmp 61) = .int .i64 0 := hd 61 rfl
        (simp only [execOp]; try simp only [Option.map]); (try simp only [List.map_toArray, List.map_cons, List.map_nil]); (simp only [e61]; go_simp)
      · refine asked_pure rfl (fun _ _ => rfl) (fun a w hS hb hd => ?_)
        have e60 : a.eval (.tmp 60) = .bool true := hd 60 rfl
        have e62 : a.eval (.tmp 62) = .bool true := hd 62 rfl
        (simp only [execOp]; try simp only [Option.map]); (try simp only [List.map_toArray, List.map_cons, List.map_nil]); (simp only [e60, e62]; go_simp)
      · exact asked_pure rfl (fun _ _ => rfl) (fun a w _ _ hd => run_move rfl (hd 63 rfl))
      · exact asked_pure rfl (fun _ _ => rfl) (fun a w _ hb _ => run_move rfl (hb 5 rfl))
      · exact asked_pure rfl (fun _ _ => rfl) (fun a w _ hb _ => run_move rfl (hb 9 rfl))
      · refine asked_pure rfl (fun _ _ => rfl) (fun a w hS hb hd => ?_)
        have e65 : a.eval (.tmp 65) = .slice (some ⟨gx, 0, none⟩) x.length cx := hd 65 rfl
        have e66 : a.eval (.tmp 66) = .int .i64 (m : Nat) := hd 66 rfl
        clear hS hb hd
        (simp only [execOp]; try simp only [Option.map]); (try simp only [List.map_toArray, List.map_cons, List.map_nil]); (simp only [e65, e66]; go_simp)
      · refine asked_pure rfl (fun _ _ => rfl) (fun a w hS _ hd => ?_)
        have e67 : a.eval (.tmp 67) = .slice (some ⟨gx, 0, none⟩) m cx := hd 67 rfl
        subst hS
        exact run_conv rfl e67 yx
      · exact asked_pure rfl (fun _ _ => rfl) (fun a w _ hb _ => run_move rfl (hb 7 rfl))
      · exact asked_pure rfl (fun _ _ => rfl) (fun a w _ hb _ => run_move rfl (hb 9 rfl))
      · refine asked_pure rfl (fun _ _ => rfl) (fun a w hS hb hd => ?_)
        have e69 : a.eval (.tmp 69) = .slice (some ⟨gy, 0, none⟩) y.length cy := hd 69 rfl
        have e70 : a.eval (.tmp 70) = .int .i64 (m : Nat) := hd 70 rfl
        clear hS hb hd
        (simp only [execOp]; try simp only [Option.map]); (try simp only [List.map_toArray, List.map_cons, List.map_nil]); (simp only [e69, e70]; go_simp)
      · refine asked_pure rfl (fun _ _ => rfl) (fun a w hS _ hd => ?_)
        have e71 : a.eval (.tmp 71) = .slice (some ⟨gy, 0, none⟩) m cy := hd 71 rfl
        subst hS
        exact run_conv rfl e71 yy
      · exact asked_pure rfl (fun _ _ => rfl) (fun a w _ _ hd => run_eqS rfl (hd 68 rfl) (hd 72 rfl) yx.bytes yy.bytes)
      · exact asked_pure rfl (fun _ _ => rfl) (fun a w _ hb _ => run_move rfl (hb 10 rfl))
      · exact asked_pure rfl (fun _ _ => rfl) (fun a w _ _ hd => run_eqB rfl (hd 73 rfl) (hd 74 rfl) hsm)
      · refine asked_pure rfl (fun _ _ => rfl) (fun a w hS hb hd => ?_)
        have e64 : a.eval (.tmp 64) = .bool true := hd 64 rfl
        have e75 : a.eval (.tmp 75) = .bool true := hd 75 rfl
        (simp only [execOp]; try simp only [Option.map]); (try simp only [List.map_toArray, List.map_cons, List.map_nil]); (simp only [e64, e75]; go_simp)
      · exact asked_pure rfl (fun _ _ => rfl) (fun a w _ _ hd => run_assign rfl (hd 76 rfl))
    · intro s W hW hs
      have h4 : s 4 = .bool true := hs 4 rfl
      subst hW
      clear hs
      simp [overlay, dstsOf]
      go_wp2
      go_ret
      rw [h4]
      exact ⟨rfl, hB5.drew⟩

set_option maxHeartbeats 1000000 in
set_option maxRecDepth 100000 in
theorem apart_many (k1 k2 : Int) (a1 a2 : Option Addr) (cap1 cap2 l1 l2 : Nat) (w : World) (h : 2000 < l1 ∨ 2000 < l2) :
    Calls Try.prog 8 #[.agg #[.int .u8 k1, .slice a1 l1 cap1], .agg #[.int .u8 k2, .slice a2 l2 cap2]] w fun e w' => e = .returned (.bool true) ∧ Below w.heap.size w w' := by
  have hBa := (Below.refl w.heap.size w).alloc (Nat.le_refl _) (.cells #[.int .u8 k1, .slice a1 l1 cap1] 38)
  have hBb := hBa.alloc (by simp) (.cells #[.int .u8 k2, .slice a2 l2 cap2] 38)
  have c11 : ((w.alloc (.cells #[.int .u8 k1, .slice a1 l1 cap1] 38)).alloc (.cells #[.int .u8 k2, .slice a2 l2 cap2] 38)).cell? ⟨w.heap.size, 1, none⟩ = some (.slice a1 l1 cap1) := by go_simp
  have c21 : ((w.alloc (.cells #[.int .u8 k1, .slice a1 l1 cap1] 38)).alloc (.cells #[.int .u8 k2, .slice a2 l2 cap2] 38)).cell? ⟨w.heap.size + 1, 1, none⟩ = some (.slice a2 l2 cap2) := by go_simp
  have HH := hide h
  clear hBa h
  go_enter Try.func8, Try.ntmps8
  go_wp2_with fail
  refine (awake_any _).mono ?_
  rintro e w2 ⟨rfl, hB2⟩
  generalize hw0 : (w.alloc (.cells #[.int .u8 k1, .slice a1 l1 cap1] 38)).alloc (.cells #[.int .u8 k2, .slice a2 l2 cap2] 38) = w0 at *
  have hz0 : w0.heap.size = w.heap.size + 2 := by rw [← hw0]; simp
  have d11 := (hB2.cell (p := ⟨w.heap.size, 1, none⟩) (by simp; omega)).trans c11
  have d21 := (hB2.cell (p := ⟨w.heap.size + 1, 1, none⟩) (by simp; omega)).trans c21
  have hBw := bel_of hBb hB2
  clear c11 c21 hw0
  by_cases h1 : 2000 < l1
  · have h1' : (2000 : Int) < (l1 : Int) := by omega
    go_wp2_with fail
    go_ret
    exact ⟨rfl, hBw⟩
  · have h1' : (l1 : Int) ≤ 2000 := by omega
    have h2 : (2000 : Int) < (l2 : Int) := by have := HH.out; omega
    go_wp2_with fail
    go_ret
    exact ⟨rfl, hBw⟩

theorem walk {H : Type} {enc : TypeId × Value → H} (W : World) (base : Nat) (v0 v1 : Value) {d0 d1 : DataW H} {p0 p1 : List MemPlace} (o0 : Value.okWide Try.prog W .any base 38 v0) (k0 : DataW.Trod enc Try.prog W 0 (fun _ => true) true 38 v0 d0 p0) (o1 : Value.okWide Try.prog W .any base 38 v1) (k1 : DataW.Trod enc Try.prog W 0 (fun _ => true) true 38 v1 d1 p1) :
    Calls Try.prog 8 #[v0, v1] W fun e w' => e = .returned (.bool true) ∧ Below W.heap.size W w' := by
  obtain ⟨n1, u1, xs, rfl, h10, h11, b1⟩ := frame_in o0 k0
  obtain ⟨n2, u2, ys, rfl, h20, h21, b2⟩ := frame_in o1 k1
  obtain ⟨a1, cap1, rfl⟩ := b1.slice
  obtain ⟨a2, cap2, rfl⟩ := b2.slice
  clear o0 o1 k0 k1
  by_cases hl : xs.length ≤ 2000 ∧ ys.length ≤ 2000
  · exact apart_few n1 n2 a1 a2 cap1 cap2 xs ys W h10 h11 h20 h21 b1 b2 hl.1 hl.2
  · exact apart_many n1 n2 a1 a2 cap1 cap2 xs.length ys.length W (by omega)

set_option maxRecDepth 100000 in
theorem lifted (os : Os) (started : os.Started) (H : Type) (enc : TypeId × Value → H) :
    ReturnsInHanded {} Try.checked os 8 .any (Rows.frameApartSpec.pre6 enc Try.prog Try.f8 Rows.frameApartRow.domain false) (Rows.frameApartSpec.post enc Try.prog Try.f8 false true false false) := by
  refine returnsInHanded_of_change (C := Try.checked) own started (by kernel_rfl) Try.func8
    (ChangeSpec.witness6 (enc := enc) (C := Try.checked) false ⟨#[], #[.agg #[.int .u8 0, .slice none 0 0], .agg #[.int .u8 0, .slice none 0 0]], []⟩ 8 (by kernel_rfl) (by kernel_rfl) (by kernel_rfl) (by kernel_rfl)) ?_
  intro W base args ds gs before hval0 hW hcnd _
  have hval : ∀ (j : Nat) t v, Try.f8.params[j]? = some t → args[j]? = some v → Value.okWide Try.prog W .any base t v := hval0
  have hW' := hW
  obtain ⟨p, q, hA0, hV, rfl, hfz, hnd⟩ := hW
  have hA : DataW.TrodAll enc Try.prog W 0 (fun _ => true) true Try.f8.params.toList args.toList ds p := hA0
  rw [Try.params8] at hA hval
  obtain ⟨v0, vs0, d0, ds0, p0, q0, hargs, rfl, rfl, h0, r0⟩ := trodAll_cons hA
  obtain ⟨v1, vs1, d1, ds1, p1, q1, rfl, rfl, rfl, h1, r1⟩ := trodAll_cons r0
  obtain ⟨rfl, rfl, rfl⟩ := trodAll_nil r1
  obtain rfl : args = #[v0, v1] := by cases args; simp_all
  obtain ⟨rfl, rfl⟩ := trodVars_none hV
  have lt0 : ∀ x ∈ p0, x.block < W.heap.size := by obtain ⟨m, hm⟩ := h0; exact DataW.trod_lt m _ _ _ hm
  have lt1 : ∀ x ∈ p1, x.block < W.heap.size := by obtain ⟨m, hm⟩ := h1; exact DataW.trod_lt m _ _ _ hm
  refine (walk W base v0 v1 (hval 0 38 v0 rfl rfl) h0 (hval 1 38 v1 rfl rfl) h1).mono fun e W' ⟨he, bel⟩ => ?_
  subst he
  exact ⟨_, rfl, _, _, _, [], _, [], hW', trodAll_mk1 (shut_bool Try.underlying4 _), (trodAll_cons_mk (Below.trod laidOut (by kernel_rfl) (of_decide_eq_true (by kernel_rfl)) h0 bel lt0) (trodAll_cons_mk (Below.trod laidOut (by kernel_rfl) (of_decide_eq_true (by kernel_rfl)) h1 bel lt1) trodAll_mk0)), rfl, bel.frame _, fun h => by cases h⟩

theorem over : Rows.frameApartRow.holds Try.pinned (OpenSpec.ofChange Rows.frameApartSpec) :=
  OpenClaim.holds_of_wide 8 Try.f8 rfl rfl rfl rfl rfl rfl rfl ⟨rfl, rfl, rfl, rfl, rfl⟩ rfl rfl rfl rfl rfl (by kernel_rfl) Try.func8 (by kernel_rfl)
    (of_decide_eq_true (by kernel_rfl)) (by unfold Func.isWrapper; first | (rw [if_pos (by decide +kernel)]; kernel_rfl) | (rw [if_neg (by decide +kernel)]; exact ⟨rfl, rfl⟩))
    (fun os started H enc _ => lifted os started H enc)

end Go.Proofs.Ytlonniegaaocoaa.frameApart
namespace Go.Proofs.Ytlonniegaaocoaa
theorem frameApart_holds : Rows.FrameApartSaid := frameApart.over
#print axioms frameApart_holds
end Go.Proofs.Ytlonniegaaocoaa
