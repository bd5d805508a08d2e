/- Proved: for all bytes the law CrcLinear returns true and leaves its arguments as they were: of three lists of one length the sum of their bits' sums is the sum of their sums; no conditions. -/
import Derived.Test.YthpajmpooekebaaRows
import Derived.WalkKit
import Derived.ProofKit
import Derived.OpenShut
import Derived.ShutString
import Derived.ChangeOld
import Derived.Below
import Derived.Test.YthpajmpooekebaaAwake
import Derived.Test.YthpajmpooekebaaMore
import Derived.Test.YthpajmpooekebaaOps
namespace Go.Proofs.Ythpajmpooekebaa.crcLinear
open Go.ChangeShapes Go.WideShapes Go.ChangeAt Go.RowKit
open Go.ChangeMaps (open_string shut_string)
set_option linter.unusedVariables false

theorem own : ownKnob Try.prog.godebug = none := by kernel_rfl
theorem laidOut : laidOutB Try.prog = true := by kernel_rfl

/-- The byte at place j of the three, all their bits summed. -/
def mix (xs ys zs : List Int) (j : Nat) : Int := bits .xor .u8 (bits .xor .u8 (xs.getD j 0) (ys.getD j 0)) (zs.getD j 0)

theorem getD_byte {xs : List Int} (h : ∀ x ∈ xs, 0 ≤ x ∧ x < 256) (j : Nat) (hj : j < xs.length) : ∃ a : Nat, a < 256 ∧ xs.getD j 0 = (a : Int) ∧ (nats xs).getD j 0 = a := by
  have := h (xs.getD j 0) (by simp [List.getElem?_eq_getElem hj])
  obtain ⟨a, ha⟩ := Int.eq_ofNat_of_zero_le this.1
  refine ⟨a, by omega, ha, ?_⟩
  simp [nats, List.getElem?_eq_getElem hj] at ha ⊢
  rw [ha]
  rfl

theorem mix_nat {xs ys zs : List Int} (hx : ∀ x ∈ xs, 0 ≤ x ∧ x < 256) (hy : ∀ x ∈ ys, 0 ≤ x ∧ x < 256) (hz : ∀ x ∈ zs, 0 ≤ x ∧ x < 256) (j : Nat) (h0 : j < xs.length) (h1 : j < ys.length) (h2 : j < zs.length) :
    mix xs ys zs j = (((nats xs).getD j 0 ^^^ (nats ys).getD j 0 ^^^ (nats zs).getD j 0 : Nat) : Int) ∧ (nats xs).getD j 0 ^^^ (nats ys).getD j 0 ^^^ (nats zs).getD j 0 < 256 := by
  obtain ⟨a, la, ea, fa⟩ := getD_byte hx j h0
  obtain ⟨b, lb, eb, fb⟩ := getD_byte hy j h1
  obtain ⟨c, lc, ec, fc⟩ := getD_byte hz j h2
  have hab : a ^^^ b < 256 := Nat.xor_lt_two_pow (n := 8) la lb
  unfold mix
  rw [ea, eb, ec, fa, fb, fc, u8_xor_nat _ _ la lb, u8_xor_nat _ _ hab lc]
  exact ⟨rfl, Nat.xor_lt_two_pow (n := 8) hab lc⟩

theorem mix_bytes {xs ys zs X : List Int} {n : Nat} (hx : ∀ x ∈ xs, 0 ≤ x ∧ x < 256) (hy : ∀ x ∈ ys, 0 ≤ x ∧ x < 256) (hz : ∀ x ∈ zs, 0 ≤ x ∧ x < 256) (hl : X.length = n) (hX : ∀ j, j < n → X.getD j 0 = mix xs ys zs j)
    (h0 : n ≤ xs.length) (h1 : n ≤ ys.length) (h2 : n ≤ zs.length) : ∀ x ∈ X, 0 ≤ x ∧ x < 256 := by
  intro x hxm
  obtain ⟨j, hj, rfl⟩ := List.mem_iff_getElem.1 hxm
  have e := hX j (by omega)
  have m := mix_nat hx hy hz j (by omega) (by omega) (by omega)
  simp [List.getElem?_eq_getElem hj] at e
  rw [e, m.1]
  have := m.2
  omega

theorem xor_three (f a b c : Nat) : (a ^^^ b ^^^ c) ^^^ f = (a ^^^ f) ^^^ (b ^^^ f) ^^^ (c ^^^ f) := by
  apply Nat.eq_of_testBit_eq
  intro i
  simp only [Nat.testBit_xor]
  cases a.testBit i <;> cases b.testBit i <;> cases c.testBit i <;> cases f.testBit i <;> rfl

theorem sum_mix {xs ys zs X : List Int} {n : Nat} (hx : ∀ x ∈ xs, 0 ≤ x ∧ x < 256) (hy : ∀ x ∈ ys, 0 ≤ x ∧ x < 256) (hz : ∀ x ∈ zs, 0 ≤ x ∧ x < 256) (hl : X.length = n) (hX : ∀ j, j < n → X.getD j 0 = mix xs ys zs j)
    (h0 : n ≤ xs.length) (h1 : n ≤ ys.length) (h2 : n ≤ zs.length) : sumOf X = sumOf (xs.take n) ^^^ sumOf (ys.take n) ^^^ sumOf (zs.take n) := by
  have e : nats X = ((nats (xs.take n)).zipWith (· ^^^ ·) (nats (ys.take n))).zipWith (· ^^^ ·) (nats (zs.take n)) := by
    apply List.ext_getElem
    · simp [nats]; omega
    · intro j g1 g2
      have hj : j < n := by simp [nats] at g1; omega
      have m := (mix_nat hx hy hz j (by omega) (by omega) (by omega)).1
      rw [← hX j hj] at m
      have hjX : j < X.length := by omega
      simp [nats, List.getElem?_eq_getElem hjX, List.getElem?_eq_getElem (show j < xs.length by omega), List.getElem?_eq_getElem (show j < ys.length by omega), List.getElem?_eq_getElem (show j < zs.length by omega)] at m ⊢
      rw [m]
      rfl
  have l1 : (nats (xs.take n)).length = (nats (ys.take n)).length := by simp [nats]; omega
  have l2 : ((nats (xs.take n)).zipWith (· ^^^ ·) (nats (ys.take n))).length = (nats (zs.take n)).length := by simp [nats]; omega
  unfold sumOf Crc.sum
  rw [e]
  have r := Crc.reg_lin _ _ (4294967295 ^^^ 4294967295) 4294967295 l2
  rw [Crc.reg_lin _ _ _ _ l1, show (4294967295 ^^^ 4294967295 ^^^ 4294967295 : Nat) = 4294967295 from by decide] at r
  rw [r, xor_three]

/-- What stands while the last statement is reckoned. -/
structure Keep (W w : World) (vx va vb vc : Value) (X A B C : List Int) : Prop where
  x : Byt W vx X
  a : Byt W va A
  b : Byt W vb B
  c : Byt W vc C
  bel : Below w.heap.size w W
theorem Keep.below {W W' w : World} {vx va vb vc : Value} {X A B C : List Int} (h : Keep W w vx va vb vc X A B C) (hb : Below W.heap.size W W') : Keep W' w vx va vb vc X A B C :=
  ⟨h.x.below hb, h.a.below hb, h.b.below hb, h.c.below hb, bel_of h.bel hb⟩
theorem Keep.drew {W w : World} {vx va vb vc : Value} {X A B C : List Int} (h : Keep W w vx va vb vc X A B C) : Keep W.drew w vx va vb vc X A B C := h.below (Below.refl _ _).drew
theorem Keep.alloc {W w : World} {vx va vb vc : Value} {X A B C : List Int} (h : Keep W w vx va vb vc X A B C) (o : Obj) : Keep (W.alloc o) w vx va vb vc X A B C := h.below ((Below.refl _ _).alloc (Nat.le_refl _) o)

/-- What is known of each temporary that the last statement writes, once it is written. -/
def Gs (v0 v1 v2 : Value) (k : Nat) (vx va vb vc : Value) (sx sa sb sc : Nat) : Tmp → Value → World → Prop
  | 46, v, _ => v = vx
  | 47, v, w => ∃ g, v = .slice (some ⟨g, 0, none⟩) 1 1 ∧ w.cell? ⟨g, 0, none⟩ = some vx
  | 48, v, _ => v = .int .u32 sx
  | 49, v, _ => v = v0
  | 50, v, _ => v = .int .i64 k
  | 51, v, _ => v = va
  | 52, v, w => ∃ g, v = .slice (some ⟨g, 0, none⟩) 1 1 ∧ w.cell? ⟨g, 0, none⟩ = some va
  | 53, v, _ => v = .int .u32 sa
  | 54, v, _ => v = v1
  | 55, v, _ => v = .int .i64 k
  | 56, v, _ => v = vb
  | 57, v, w => ∃ g, v = .slice (some ⟨g, 0, none⟩) 1 1 ∧ w.cell? ⟨g, 0, none⟩ = some vb
  | 58, v, _ => v = .int .u32 sb
  | 59, v, _ => v = .int .u32 (bits .xor .u32 sa sb)
  | 60, v, _ => v = v2
  | 61, v, _ => v = .int .i64 k
  | 62, v, _ => v = vc
  | 63, v, w => ∃ g, v = .slice (some ⟨g, 0, none⟩) 1 1 ∧ w.cell? ⟨g, 0, none⟩ = some vc
  | 64, v, _ => v = .int .u32 sc
  | 65, v, _ => v = .int .u32 (bits .xor .u32 (bits .xor .u32 sa sb) sc)
  | 66, v, _ => v = .bool true
  | 6, v, _ => v = .bool true
  | _, _, _ => True

theorem cell_top {W : World} {g : Nat} {u : Value} (h : g = W.heap.size) : (W.alloc (.cells #[u] 22)).cell? ⟨g, 0, none⟩ = some u := by
  subst h
  rw [World.cell?_alloc_new]
  rfl
theorem cell_under {W : World} {g : Nat} {u : Value} {o : Obj} (h : g < W.heap.size) (hc : W.cell? ⟨g, 0, none⟩ = some u) : (W.alloc o).cell? ⟨g, 0, none⟩ = some u :=
  (((Below.refl W.heap.size W).alloc (Nat.le_refl _) o).cell (p := ⟨g, 0, none⟩) h).trans hc

theorem Gs_alloc {v0 v1 v2 : Value} {k : Nat} {vx va vb vc : Value} {sx sa sb sc : Nat} {d : Tmp} {u : Value} {W : World} (h : Gs v0 v1 v2 k vx va vb vc sx sa sb sc d u W) (o : Obj) :
    Gs v0 v1 v2 k vx va vb vc sx sa sb sc d u (W.alloc o) := by
  unfold Gs at *
  split
  all_goals
    first
      | exact h
      | (obtain ⟨g, e, hc⟩ := h
         exact ⟨g, e, cell_under (World.block_lt_of_cell? W _ hc) hc⟩)
      | trivial

set_option maxHeartbeats 1000000 in
set_option maxRecDepth 100000 in
theorem walk_few (a0 : Option Addr) (cap0 : Nat) (xs : List Int) (a1 : Option Addr) (cap1 : Nat) (ys : List Int) (a2 : Option Addr) (cap2 : Nat) (zs : List Int) (w : World) (n : Nat)
    (h0 : Byt w (.slice a0 xs.length cap0) xs) (h1 : Byt w (.slice a1 ys.length cap1) ys) (h2 : Byt w (.slice a2 zs.length cap2) zs) (hm : n = min xs.length (min ys.length zs.length)) (hn : n ≤ 3000) :
    Calls Try.prog 6 #[.slice a0 xs.length cap0, .slice a1 ys.length cap1, .slice a2 zs.length cap2] w fun e w' => e = .returned (.bool true) ∧ Below w.heap.size w w' := by
  obtain ⟨i0, hi, hz0, hz1, hz2⟩ := info_parts info5
  have n0 : n ≤ xs.length := by omega
  have n1 : n ≤ ys.length := by omega
  have n2 : n ≤ zs.length := by omega
  have hmin : ∀ ts t W, (Builtin.min_ ts t #[.int .i64 xs.length, .int .i64 ys.length, .int .i64 zs.length]).run Try.prog W = .ok (.int .i64 n) W := by
    intro ts t W
    simp only [Builtin.min_, Builtin.min2, List.foldlM]
    simp
    split <;> split <;> omega
  clear hm
  go_enter Try.func6, Try.ntmps6
  go_wp2_with fail
  refine (awake_any _).mono ?_
  rintro e w1 ⟨rfl, hB1⟩
  have p0 := hide (h0.below hB1)
  have p1 := hide (h1.below hB1)
  have p2 := hide (h2.below hB1)
  clear h0 h1 h2
  go_wp2_with (at_make; go_must (refine wpList_make_lc _ rfl (.tmp 21) (.tmp 21) 22 rfl 5 i0 Try.underlying22 hi hz0 hz1 .i64 .i64 _ _ n n rfl rfl (by simp) (by simp) (by omega) (by rw [hz2]; omega) (by unfold maxLen; omega) ?_))
  intro w2 HG hB hz
  have hown0 := owns_made HG.out (Nat.le_refl _) (by unfold maxLen; omega)
  generalize hgz : w1.heap.size = g at *
  have HGZ := hide hgz
  clear hgz
  clear HG hi hz0 hz1 hz2 hmin
  go_wp2_with fail
  go_loopw [9, 25] (fun _ iv wr => ∃ (k : Nat) (X : List Int), k ≤ n ∧ iv = .int .i64 k ∧ Hid (X.length = n) ∧ Hid (∀ j, j < k → X.getD j 0 = mix xs ys zs j) ∧ wr.ownsRow g 5 1 (.slice (some ⟨g, 0, none⟩) n n) n (X.map (Value.int .u8)) ∧ Below g w1 wr)
    (fun _ iv _ => n - (intOf iv).toNat)
  case atStart => exact ⟨0, List.replicate n 0, by omega, rfl, by show _ = _; simp, fun j hj => by omega, hown0, hB⟩
  case round =>
    obtain ⟨k, X, hk, rfl, HXl, HX, hown, hBr⟩ := hrel
    by_cases hlt : k < n
    · obtain ⟨b0, o0, rfl, l0, c0⟩ := p0.out.at k (by omega)
      obtain ⟨b1, o1, rfl, l1, c1⟩ := p1.out.at k (by omega)
      obtain ⟨b2, o2, rfl, l2, c2⟩ := p2.out.at k (by omega)
      have d0 := (hBr.cell (p := ⟨b0, o0 + k, none⟩) (by rw [← HGZ.out]; exact l0)).trans c0
      have d1 := (hBr.cell (p := ⟨b1, o1 + k, none⟩) (by rw [← HGZ.out]; exact l1)).trans c1
      have d2 := (hBr.cell (p := ⟨b2, o2 + k, none⟩) (by rw [← HGZ.out]; exact l2)).trans c2
      have hc := hown.cellAt k (by omega)
      rw [List.getElem?_map, List.getElem?_eq_getElem (by rw [HXl.out]; omega), Option.map_some] at hc
      have hf := hown.frozenAt k
      have hst := hown.stored k (.int .u8 (mix xs ys zs k))
      have hst1 := hst.1.drew
      rw [← List.map_set] at hst1
      have hB3 := (hBr.setCell (p := ⟨g, k, none⟩) (Nat.le_refl _) (.int .u8 (mix xs ys zs k))).drew
      have HXl' : Hid ((X.set k (mix xs ys zs k)).length = n) := by show _ = _; rw [List.length_set]; exact HXl.out
      have HX' : Hid (∀ j, j < k + 1 → (X.set k (mix xs ys zs k)).getD j 0 = mix xs ys zs j) := by
        intro j hj
        by_cases e : j = k
        · subst e
          simp [List.getD_eq_getElem?_getD, HXl.out, hlt]
        · have := HX.out j (by omega)
          simp only [List.getD_eq_getElem?_getD, List.getElem?_set] at this ⊢
          rw [if_neg (by omega)]
          exact this
      have hmx : Hid (mix xs ys zs k = bits .xor .u8 (bits .xor .u8 (xs.getD k 0) (ys.getD k 0)) (zs.getD k 0)) := rfl
      generalize mix xs ys zs k = m at hst1 hB3 HXl' HX' hmx
      generalize xs.getD k 0 = x at *
      generalize ys.getD k 0 = y at *
      generalize zs.getD k 0 = z at *
      generalize X[k]'(by rw [HXl.out]; exact hlt) = xk at *
      clear hst hown hBr hown0 hB c0 c1 c2 l0 l1 l2
      go_wp2_with fail
      go_region
      rw [← hmx.out]
      go_wp2_with fail
      go_roundw
      case rel => exact ⟨k + 1, _, by omega, by go_num, HXl', HX', hst1, hB3⟩
      case measure => simp [intOf]; omega
    · obtain rfl : k = n := by omega
      have hK : Keep wr w (.slice (some ⟨g, 0, none⟩) k k) (.slice a0 k cap0) (.slice a1 k cap1) (.slice a2 k cap2) X (xs.take k) (ys.take k) (zs.take k) :=
        ⟨Byt.of_owns hown (mix_bytes p0.out.bytes p1.out.bytes p2.out.bytes HXl.out HX.out n0 n1 n2), (p0.out.take k n0).below (HGZ.out ▸ hBr), (p1.out.take k n1).below (HGZ.out ▸ hBr), (p2.out.take k n2).below (HGZ.out ▸ hBr), bel_of hB1 (HGZ.out ▸ hBr)⟩
      have hs := sum_mix p0.out.bytes p1.out.bytes p2.out.bytes HXl.out HX.out n0 n1 n2
      have q0 := p0.out.cap
      have q1 := p1.out.cap
      have q2 := p2.out.cap
      have ba := sumOf_lt _ hK.a.bytes
      have bb := sumOf_lt _ hK.b.bytes
      have bc := sumOf_lt _ hK.c.bytes
      have HE : Hid (bits .xor .u32 (bits .xor .u32 (sumOf (xs.take k) : Nat) (sumOf (ys.take k) : Nat)) (sumOf (zs.take k) : Nat) = ((sumOf X : Nat) : Int)) := by
        show _ = _
        rw [u32_xor_nat _ _ ba bb, u32_xor_nat _ _ (Nat.xor_lt_two_pow (n := 32) ba bb) bc, hs]
      clear hs ba bb bc hown hBr hown0 hB p0 p1 p2 HXl HX hB1 hz
      generalize xs.take k = A at *
      generalize ys.take k = B at *
      generalize zs.take k = C at *
      have s0 : (k : Int) ≤ (cap0 : Int) := by omega
      have s1 : (k : Int) ≤ (cap1 : Int) := by omega
      have s2 : (k : Int) ≤ (cap2 : Int) := by omega
      have s3 : (0 : Int) ≤ (k : Int) := by omega
      clear q0 q1 q2
      have hKd := hK.drew
      clear hK
      go_wp2_with fail
      refine wp_region_each (by kernel_rfl) (Gs (.slice a0 xs.length cap0) (.slice a1 ys.length cap1) (.slice a2 zs.length cap2) k (.slice (some ⟨g, 0, none⟩) k k) (.slice a0 k cap0) (.slice a1 k cap1) (.slice a2 k cap2) (sumOf X) (sumOf A) (sumOf B) (sumOf C))
        (fun W => Keep W w (.slice (some ⟨g, 0, none⟩) k k) (.slice a0 k cap0) (.slice a1 k cap1) (.slice a2 k cap2) X A B C) (by kernel_rfl) hKd ?_ ?_
      · refine And.intro ?_ (And.intro ?_ (And.intro ?_ (And.intro ?_ (And.intro ?_ (And.intro ?_ (And.intro ?_ (And.intro ?_ (And.intro ?_ (And.intro ?_ (And.intro ?_ (And.intro ?_ (And.intro ?_ (And.intro ?_ (And.intro ?_ (And.intro ?_ (And.intro ?_ (And.intro ?_ (And.intro ?_ (And.intro ?_ (And.intro ?_ (And.intro ?_ trivial)))))))))))))))))))))
        · exact asked_pure rfl (fun _ _ => rfl) (fun a w _ hb _ => run_move rfl (hb 8 rfl))
        · exact asked_grow rfl (fun a w hS _ hd => ⟨_, _, run_build1 rfl (hd 46 rfl), ⟨_, rfl, cell_top rfl⟩, hS.alloc _, fun _ _ h => Gs_alloc h _⟩)
        · refine asked_call1 Try.func8 (by kernel_rfl) (by kernel_rfl) rfl rfl (fun a w hS _ hd => ?_)
          obtain ⟨g1, e1, c1⟩ := hd 47 rfl
          refine ⟨_, e1, (sum_cell c1 hS.x).mono ?_⟩
          rintro e w' ⟨rfl, rfl⟩
          exact ⟨_, rfl, rfl, hS, fun _ _ h => h⟩
        · exact asked_pure rfl (fun _ _ => rfl) (fun a w _ hb _ => run_move rfl (hb 0 rfl))
        · exact asked_pure rfl (fun _ _ => rfl) (fun a w _ hb _ => run_move rfl (hb 7 rfl))
        · exact asked_pure rfl (fun _ _ => rfl) (fun a w _ _ hd => run_cut rfl (hd 49 rfl) (hd 50 rfl) (by omega))
        · exact asked_grow rfl (fun a w hS _ hd => ⟨_, _, run_build1 rfl (hd 51 rfl), ⟨_, rfl, cell_top rfl⟩, hS.alloc _, fun _ _ h => Gs_alloc h _⟩)
        · refine asked_call1 Try.func8 (by kernel_rfl) (by kernel_rfl) rfl rfl (fun a w hS _ hd => ?_)
          obtain ⟨g1, e1, c1⟩ := hd 52 rfl
          refine ⟨_, e1, (sum_cell c1 hS.a).mono ?_⟩
          rintro e w' ⟨rfl, rfl⟩
          exact ⟨_, rfl, rfl, hS, fun _ _ h => h⟩
        · exact asked_pure rfl (fun _ _ => rfl) (fun a w _ hb _ => run_move rfl (hb 1 rfl))
        · exact asked_pure rfl (fun _ _ => rfl) (fun a w _ hb _ => run_move rfl (hb 7 rfl))
        · exact asked_pure rfl (fun _ _ => rfl) (fun a w _ _ hd => run_cut rfl (hd 54 rfl) (hd 55 rfl) (by omega))
        · exact asked_grow rfl (fun a w hS _ hd => ⟨_, _, run_build1 rfl (hd 56 rfl), ⟨_, rfl, cell_top rfl⟩, hS.alloc _, fun _ _ h => Gs_alloc h _⟩)
        · refine asked_call1 Try.func8 (by kernel_rfl) (by kernel_rfl) rfl rfl (fun a w hS _ hd => ?_)
          obtain ⟨g1, e1, c1⟩ := hd 57 rfl
          refine ⟨_, e1, (sum_cell c1 hS.b).mono ?_⟩
          rintro e w' ⟨rfl, rfl⟩
          exact ⟨_, rfl, rfl, hS, fun _ _ h => h⟩
        · exact asked_pure rfl (fun _ _ => rfl) (fun a w _ _ hd => run_xor32 rfl (hd 53 rfl) (hd 58 rfl))
        · exact asked_pure rfl (fun _ _ => rfl) (fun a w _ hb _ => run_move rfl (hb 2 rfl))
        · exact asked_pure rfl (fun _ _ => rfl) (fun a w _ hb _ => run_move rfl (hb 7 rfl))
        · exact asked_pure rfl (fun _ _ => rfl) (fun a w _ _ hd => run_cut rfl (hd 60 rfl) (hd 61 rfl) (by omega))
        · exact asked_grow rfl (fun a w hS _ hd => ⟨_, _, run_build1 rfl (hd 62 rfl), ⟨_, rfl, cell_top rfl⟩, hS.alloc _, fun _ _ h => Gs_alloc h _⟩)
        · refine asked_call1 Try.func8 (by kernel_rfl) (by kernel_rfl) rfl rfl (fun a w hS _ hd => ?_)
          obtain ⟨g1, e1, c1⟩ := hd 63 rfl
          refine ⟨_, e1, (sum_cell c1 hS.c).mono ?_⟩
          rintro e w' ⟨rfl, rfl⟩
          exact ⟨_, rfl, rfl, hS, fun _ _ h => h⟩
        · exact asked_pure rfl (fun _ _ => rfl) (fun a w _ _ hd => run_xor32 rfl (hd 59 rfl) (hd 64 rfl))
        · exact asked_pure rfl (fun _ _ => rfl) (fun a w _ _ hd => run_eql32 rfl (hd 48 rfl) (hd 65 rfl) HE.out.symm)
        · exact asked_pure rfl (fun _ _ => rfl) (fun a w _ _ hd => run_assign rfl (hd 66 rfl))
      · intro s W hW hs
        have h6 : s 6 = .bool true := hs 6 rfl
        have hbel := hW.bel
        clear hs hW
        simp [overlay, dstsOf]
        go_wp2
        go_ret
        rw [h6]
        exact ⟨rfl, hbel⟩

theorem min_run (x y z n : Nat) (hm : n = min x (min y z)) (ts : Array TypeId) (t : TypeId) (W : World) : (Builtin.min_ ts t #[.int .i64 x, .int .i64 y, .int .i64 z]).run Try.prog W = .ok (.int .i64 n) W := by
  simp only [Builtin.min_, Builtin.min2, List.foldlM]
  simp
  split <;> split <;> omega

set_option maxHeartbeats 400000 in
set_option maxRecDepth 100000 in
theorem walk_many (a0 : Option Addr) (len0 cap0 : Nat) (a1 : Option Addr) (len1 cap1 : Nat) (a2 : Option Addr) (len2 cap2 n : Nat) (w : World) (hm : n = min len0 (min len1 len2)) (h : 3000 < n) :
    Calls Try.prog 6 #[.slice a0 len0 cap0, .slice a1 len1 cap1, .slice a2 len2 cap2] w fun e w' => e = .returned (.bool true) ∧ Below w.heap.size w w' := by
  have hmin := min_run len0 len1 len2 n hm
  clear hm
  go_enter Try.func6, Try.ntmps6
  go_wp2_with fail
  refine (awake_any _).mono ?_
  rintro e w1 ⟨rfl, hB1⟩
  go_wp2_with fail
  go_ret
  exact ⟨rfl, hB1⟩

theorem walk (a0 : Option Addr) (len0 cap0 : Nat) (z0 : List Int) (a1 : Option Addr) (len1 cap1 : Nat) (z1 : List Int) (a2 : Option Addr) (len2 cap2 : Nat) (z2 : List Int) (w : World) (w0 : IsRow .u8 w a0 len0 cap0 z0) (w1 : IsRow .u8 w a1 len1 cap1 z1) (w2 : IsRow .u8 w a2 len2 cap2 z2) :
    Calls Try.prog 6 #[.slice a0 len0 cap0, .slice a1 len1 cap1, .slice a2 len2 cap2] w fun e w' => e = .returned (.bool true) ∧ Below w.heap.size w w' := by
  obtain ⟨e0, v0⟩ := Byt.of_row w0
  obtain ⟨e1, v1⟩ := Byt.of_row w1
  obtain ⟨e2, v2⟩ := Byt.of_row w2
  clear w0 w1 w2
  generalize z0.take len0 = xs at *
  generalize z1.take len1 = ys at *
  generalize z2.take len2 = zs at *
  subst e0
  subst e1
  subst e2
  by_cases h : 3000 < min xs.length (min ys.length zs.length)
  · exact walk_many _ _ _ _ _ _ _ _ _ _ _ rfl h
  · exact walk_few a0 cap0 xs a1 cap1 ys a2 cap2 zs w _ v0 v1 v2 rfl (by omega)

/-! ### THE ROW's STEP: WRITTEN OUT: LEAVE IT -/
set_option maxRecDepth 100000 in
theorem lifted (os : Os) (started : os.Started) (H : Type) (enc : TypeId × Value → H) :
    ReturnsInHanded {} Try.checked os 6 .any (Rows.crcLinearSpec.pre6 enc Try.prog Try.f6 Rows.crcLinearRow.domain false) (Rows.crcLinearSpec.post enc Try.prog Try.f6 false true false false) := by
  refine returnsInHanded_of_change (C := Try.checked) own started (by kernel_rfl) Try.func6
    (ChangeSpec.witness6 (enc := enc) (C := Try.checked) false ⟨#[], #[.slice none 0 0, .slice none 0 0, .slice none 0 0], []⟩ 8 (by kernel_rfl) (by kernel_rfl) (by kernel_rfl) (by kernel_rfl)) ?_
  intro W base args ds gs before hval0 hW hcnd _
  have hval : ∀ (j : Nat) t v, Try.f6.params[j]? = some t → args[j]? = some v → Value.okWide Try.prog W .any base t v := hval0
  have hW' := hW
  obtain ⟨p, q, hA0, hV, rfl, hfz, hnd⟩ := hW
  have hA : DataW.TrodAll enc Try.prog W 0 (fun _ => true) true Try.f6.params.toList args.toList ds p := hA0
  rw [Try.params6] at hA hval
  obtain ⟨v0, vs0, d0, ds0, p0, q0, hargs, rfl, rfl, h0, r0⟩ := trodAll_cons hA
  obtain ⟨v1, vs1, d1, ds1, p1, q1, rfl, rfl, rfl, h1, r1⟩ := trodAll_cons r0
  obtain ⟨v2, vs2, d2, ds2, p2, q2, rfl, rfl, rfl, h2, r2⟩ := trodAll_cons r1
  obtain ⟨rfl, rfl, rfl⟩ := trodAll_nil r2
  obtain rfl : args = #[v0, v1, v2] := by cases args; simp_all
  obtain ⟨rfl, rfl⟩ := trodVars_none hV
  obtain ⟨a0, len0, cap0, rfl⟩ := okWide_slice Try.underlying22 (hval 0 22 v0 rfl rfl)
  have k0 := h0
  have lt0 : ∀ x ∈ p0, x.block < W.heap.size := by obtain ⟨m, hm⟩ := k0; exact DataW.trod_lt m _ _ _ hm
  obtain ⟨z0, w0⟩ : ∃ zs, IsRow .u8 W a0 len0 cap0 zs := by
    obtain ⟨fuel, hf⟩ := h0
    rcases open_ints Try.underlying22 Try.underlying5 (by kernel_rfl) hf with ⟨hcs, _⟩ | ⟨x, l, c, zs, hcs, _, hl, hm, hz, _, hcell, hwz⟩
    · simp [Value.cells] at hcs
      obtain ⟨rfl, rfl, rfl⟩ := hcs
      exact ⟨[], .inl ⟨rfl, rfl, rfl, rfl⟩⟩
    · simp [Value.cells] at hcs
      obtain ⟨rfl, rfl, rfl⟩ := hcs
      exact ⟨zs, .inr ⟨_, rfl, hl, hm, by simpa using hz, hcell, hwz⟩⟩
  obtain ⟨a1, len1, cap1, rfl⟩ := okWide_slice Try.underlying22 (hval 1 22 v1 rfl rfl)
  have k1 := h1
  have lt1 : ∀ x ∈ p1, x.block < W.heap.size := by obtain ⟨m, hm⟩ := k1; exact DataW.trod_lt m _ _ _ hm
  obtain ⟨z1, w1⟩ : ∃ zs, IsRow .u8 W a1 len1 cap1 zs := by
    obtain ⟨fuel, hf⟩ := h1
    rcases open_ints Try.underlying22 Try.underlying5 (by kernel_rfl) hf with ⟨hcs, _⟩ | ⟨x, l, c, zs, hcs, _, hl, hm, hz, _, hcell, hwz⟩
    · simp [Value.cells] at hcs
      obtain ⟨rfl, rfl, rfl⟩ := hcs
      exact ⟨[], .inl ⟨rfl, rfl, rfl, rfl⟩⟩
    · simp [Value.cells] at hcs
      obtain ⟨rfl, rfl, rfl⟩ := hcs
      exact ⟨zs, .inr ⟨_, rfl, hl, hm, by simpa using hz, hcell, hwz⟩⟩
  obtain ⟨a2, len2, cap2, rfl⟩ := okWide_slice Try.underlying22 (hval 2 22 v2 rfl rfl)
  have k2 := h2
  have lt2 : ∀ x ∈ p2, x.block < W.heap.size := by obtain ⟨m, hm⟩ := k2; exact DataW.trod_lt m _ _ _ hm
  obtain ⟨z2, w2⟩ : ∃ zs, IsRow .u8 W a2 len2 cap2 zs := by
    obtain ⟨fuel, hf⟩ := h2
    rcases open_ints Try.underlying22 Try.underlying5 (by kernel_rfl) hf with ⟨hcs, _⟩ | ⟨x, l, c, zs, hcs, _, hl, hm, hz, _, hcell, hwz⟩
    · simp [Value.cells] at hcs
      obtain ⟨rfl, rfl, rfl⟩ := hcs
      exact ⟨[], .inl ⟨rfl, rfl, rfl, rfl⟩⟩
    · simp [Value.cells] at hcs
      obtain ⟨rfl, rfl, rfl⟩ := hcs
      exact ⟨zs, .inr ⟨_, rfl, hl, hm, by simpa using hz, hcell, hwz⟩⟩
  clear hA0 hval0
  refine (walk a0 len0 cap0 z0 a1 len1 cap1 z1 a2 len2 cap2 z2 W w0 w1 w2).mono fun e W' ⟨he, bel⟩ => ?_
  subst he
  exact ⟨_, rfl, _, _, _, [], _, [], hW', trodAll_mk1 (shut_bool Try.underlying4 _), (trodAll_cons_mk (Below.trod laidOut (by kernel_rfl) (of_decide_eq_true (by kernel_rfl)) k0 bel lt0) (trodAll_cons_mk (Below.trod laidOut (by kernel_rfl) (of_decide_eq_true (by kernel_rfl)) k1 bel lt1) (trodAll_cons_mk (Below.trod laidOut (by kernel_rfl) (of_decide_eq_true (by kernel_rfl)) k2 bel lt2) trodAll_mk0))), rfl, bel.frame _, fun h => by cases h⟩

theorem over : Rows.crcLinearRow.holds Try.pinned (OpenSpec.ofChange Rows.crcLinearSpec) :=
  OpenClaim.holds_of_wide 6 Try.f6 rfl rfl rfl rfl rfl rfl rfl ⟨rfl, rfl, rfl, rfl, rfl⟩ rfl rfl rfl rfl rfl (by kernel_rfl) Try.func6 (by kernel_rfl)
    (of_decide_eq_true (by kernel_rfl)) (by unfold Func.isWrapper; first | (rw [if_pos (by decide +kernel)]; kernel_rfl) | (rw [if_neg (by decide +kernel)]; exact ⟨rfl, rfl⟩))
    (fun os started H enc _ => lifted os started H enc)

end Go.Proofs.Ythpajmpooekebaa.crcLinear
namespace Go.Proofs.Ythpajmpooekebaa
theorem crcLinear_holds : Rows.CrcLinearSaid := crcLinear.over
#print axioms crcLinear_holds
end Go.Proofs.Ythpajmpooekebaa
