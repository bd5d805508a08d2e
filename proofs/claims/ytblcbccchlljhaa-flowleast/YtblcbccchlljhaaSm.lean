/- OnesCount64 counts the bits. -/
import Derived.Test.YtblcbccchlljhaaPt
import Derived.Lib.TrailingZeros
import Derived.Laws.StructEq
namespace Go.Proofs.Ytblcbccchlljhaa.Bg
open Go.RowKit Bag
theorem and_i64 (a b : Nat) (ha : a < 9223372036854775808) (hb : b < 9223372036854775808) : bits .and .i64 (a : Int) (b : Int) = ((a &&& b : Nat) : Int) := by
  have hx : a &&& b < 2 ^ 63 := Nat.and_lt_two_pow _ (by omega)
  have h1 : (BitVec.ofInt 64 (a : Int)).toNat = a := by
    rw [BitVec.ofInt_natCast, BitVec.toNat_ofNat]; exact Nat.mod_eq_of_lt (by omega)
  have h2 : (BitVec.ofInt 64 (b : Int)).toNat = b := by
    rw [BitVec.ofInt_natCast, BitVec.toNat_ofNat]; exact Nat.mod_eq_of_lt (by omega)
  show IntKind.i64.wrap ((BitVec.ofInt 64 (a : Int) &&& BitVec.ofInt 64 (b : Int)).toNat : Int) = _
  rw [BitVec.toNat_and, h1, h2, IntKind.wrap_i64]
  omega
theorem wrap_u (n : Nat) (h : n < 18446744073709551616) : IntKind.u64.wrap (n : Int) = (n : Int) := by
  rw [IntKind.wrap_u64]; omega
theorem m55 : mask 2 1 32 = 6148914691236517205 := by decide +kernel
theorem m33 : mask 4 3 16 = 3689348814741910323 := by decide +kernel
theorem m0f : mask 8 15 8 = 1085102592571150095 := by decide +kernel
end Go.Proofs.Ytblcbccchlljhaa.Bg
namespace Go.Proofs.Ytblcbccchlljhaa.Bg
open Go.RowKit Bag
/-- The library's table in its variable. -/
def Tab (w : World) : Prop := ∀ j, j < 64 → w.cell? ⟨0, j, none⟩ = some (.int .u8 (Lib.deBruijn64tab.getD j 0))
theorem Tab.below {B : Nat} {w w' : World} (h : Tab w) (hB : Below B w w') (h0 : 0 < B) : Tab w' := fun j hj => (hB.cell (p := ⟨0, j, none⟩) h0).trans (h j hj)
theorem tz_key (x a : Nat) (hx : x < 18446744073709551616) (hx0 : x ≠ 0) (hlow : x &&& (18446744073709551616 - x) = a) :
    IntKind.u64.wrap (bits BinOp.and IntKind.u64 (x : Int) (IntKind.u64.wrap (-(x : Int))) * 285870213051353865) / 288230376151711744 = ((a * 285870213051353865 % 18446744073709551616 / 288230376151711744 : Nat) : Int) := by
  have e1 : IntKind.u64.wrap (-(x : Int)) = ((18446744073709551616 - x : Nat) : Int) := by rw [IntKind.wrap_u64]; omega
  rw [e1, bits_and_u64_nat x _ hx (by omega), hlow, IntKind.wrap_u64]
  omega
end Go.Proofs.Ytblcbccchlljhaa.Bg
namespace Go.Proofs.Ytblcbccchlljhaa.Bg
open Go.RowKit Bag
theorem info25 : (Try.prog.info? 38).map (·.size) = some 64 := by kernel_rfl
theorem info27 : (Try.prog.info? 40).map (·.size) = some 64 := by kernel_rfl
theorem plain24 : Try.prog.plainKey 37 = true := by kernel_rfl
theorem info24 : ∃ i, Try.prog.info? 37 = some i := info_of_underlying Try.underlying37
theorem cells24 : Try.prog.cellsOf 37 = 1 := by kernel_rfl
theorem run_index25 {cs : Array Value} {i : Nat} {x : Value} (h : cs[i]? = some x) (hi : i < 64) (W : World) : (Instr.index 38 (.agg cs) (.int .i64 (i : Int))).run Try.prog W = .ok x W := by
  obtain ⟨inf, hinf⟩ := info24
  have hi' : (0 : Int) ≤ (i : Int) ∧ (i : Int) < ((64 : Nat) : Int) := by omega
  have hp := run_part_plain (P := Try.prog) W plain24 (xs := cs) (off := i) h
  simp only [Instr.index, asIntOf, Sem.run_bind, Sem.run_pure, Result.andThen_ok, run_underlying Try.underlying38, if_pos hi', run_sizeOf W hinf, cells24, Int.toNat_natCast, Nat.mul_one, hp]
theorem gb_at {w w1 : World} {g : Nat} {p : Prop} (h : g = w.heap.size ∧ p ∧ Below g w w1) : w.grownBy w1 none := by
  obtain ⟨rfl, _, h⟩ := h
  exact gb_of h
theorem mem_zero (f : Nat → Bool) : mem f 0 = [] := rfl
theorem mem_step (f : Nat → Bool) (i x : Nat) (h : Word f i x) : (mem f (64 * (i + 1))).length = (mem f (64 * i)).length + pop 64 x := by
  rw [mem_next f i x h, List.length_append, List.length_map, bl_pop]
end Go.Proofs.Ytblcbccchlljhaa.Bg
namespace Go.Proofs.Ytblcbccchlljhaa.Bg
open Go.RowKit Bag
theorem plain4 : Try.prog.plainKey 4 = true := by kernel_rfl
theorem cells4 : Try.prog.cellsOf 4 = 1 := by kernel_rfl
theorem info4 : ∃ i, Try.prog.info? 4 = some i := info_of_underlying Try.underlying4
theorem eqItems_int (d : Nat) (xs ys : Array Value) (X Y : Nat → Nat) (w : World) : ∀ is : List Nat, (∀ i ∈ is, xs[i]? = some (.int .u64 (X i : Nat)) ∧ ys[i]? = some (.int .u64 (Y i : Nat))) → (Op.eqItems (d + 1) 37 1 xs ys is).run Try.prog w = .ok (is.all fun i => X i == Y i) w
  | [], _ => rfl
  | i :: is, h => by
    obtain ⟨hx, hy⟩ := h i (by simp)
    have hp := run_part_plain (P := Try.prog) w plain24 (xs := xs) (off := i * 1) (by rw [Nat.mul_one]; exact hx)
    have hq := run_part_plain (P := Try.prog) w plain24 (xs := ys) (off := i * 1) (by rw [Nat.mul_one]; exact hy)
    have hi := run_equalIn_int (P := Try.prog) w d 37 .u64 .u64 (X i : Int) (Y i : Int) Try.underlying37
    have hb : (((X i : Nat) : Int) == ((Y i : Nat) : Int)) = (X i == Y i) := by
      by_cases e : X i = Y i
      · rw [e, beq_self_eq_true, beq_self_eq_true]
      · have h1 : (X i == Y i) = false := by simp [e]
        have h2 : (((X i : Nat) : Int) == ((Y i : Nat) : Int)) = false := by rw [beq_eq_false_iff_ne]; omega
        rw [h1, h2]
    rw [hb] at hi
    unfold Op.eqItems
    simp only [Sem.run_bind, hp, hq, Result.andThen_ok, hi]
    cases hxy : X i == Y i
    · simp [hxy]
    · simp only [Bool.not_true, Bool.false_eq_true, if_false, List.all_cons, hxy, Bool.true_and]
      exact eqItems_int d xs ys X Y w is fun j hj => h j (by simp [hj])
theorem eqItems_bool (d : Nat) (xs ys : Array Value) (X Y : Nat → Bool) (w : World) : ∀ is : List Nat, (∀ i ∈ is, xs[i]? = some (.bool (X i)) ∧ ys[i]? = some (.bool (Y i))) → (Op.eqItems (d + 1) 4 1 xs ys is).run Try.prog w = .ok (is.all fun i => X i == Y i) w
  | [], _ => rfl
  | i :: is, h => by
    obtain ⟨hx, hy⟩ := h i (by simp)
    have hp := run_part_plain (P := Try.prog) w plain4 (xs := xs) (off := i * 1) (by rw [Nat.mul_one]; exact hx)
    have hq := run_part_plain (P := Try.prog) w plain4 (xs := ys) (off := i * 1) (by rw [Nat.mul_one]; exact hy)
    have hi : (Op.equalIn (d + 1) 4 (.bool (X i)) (.bool (Y i))).run Try.prog w = .ok (X i == Y i) w := by
      rw [Op.equalIn]
      simp only [Sem.run_bind, run_underlying Try.underlying4, Result.andThen_ok, Sem.run_pure]
    unfold Op.eqItems
    simp only [Sem.run_bind, hp, hq, Result.andThen_ok, hi]
    cases hxy : X i == Y i
    · simp [hxy]
    · simp only [Bool.not_true, Bool.false_eq_true, if_false, List.all_cons, hxy, Bool.true_and]
      exact eqItems_bool d xs ys X Y w is fun j hj => h j (by simp [hj])
/-- Do f and g have the same below n? -/
def same (f g : Nat → Bool) (n : Nat) : Bool := (List.range n).all fun x => f x == g x
theorem same_yes {f g : Nat → Bool} {n : Nat} : same f g n = true ↔ ∀ x, x < n → f x = g x := by simp [same]
theorem same_words (f g : Nat → Bool) (X Y : Nat → Nat) (hX : ∀ i, i < 64 → Word f i (X i)) (hY : ∀ i, i < 64 → Word g i (Y i)) : ((List.range 64).all fun i => X i == Y i) = same f g 4096 := by
  have h : ((List.range 64).all fun i => X i == Y i) = true ↔ same f g 4096 = true := by
    rw [same_yes]
    constructor
    · intro e x hx
      have e1 : X (x / 64) = Y (x / 64) := by
        have := List.all_eq_true.1 e (x / 64) (List.mem_range.2 (by omega))
        simpa using this
      have := (word_eq (hX (x / 64) (by omega)) (hY (x / 64) (by omega))).1 e1 (x % 64) (by omega)
      rwa [show 64 * (x / 64) + x % 64 = x by omega] at this
    · intro e
      rw [List.all_eq_true]
      intro i hi
      have hi := List.mem_range.1 hi
      have := (word_eq (hX i hi) (hY i hi)).2 fun j hj => e _ (by omega)
      simp [this]
  cases h1 : ((List.range 64).all fun i => X i == Y i) <;> cases h2 : same f g 4096 <;> simp_all
theorem SetC.words {cs : Array Value} {f : Nat → Bool} (h : SetC cs f) : ∃ X : Nat → Nat, ∀ i, i < 64 → cs[i]? = some (.int .u64 (X i : Nat)) ∧ Word f i (X i) := by
  have : ∀ i, ∃ x : Nat, i < 64 → cs[i]? = some (.int .u64 x) ∧ Word f i x := fun i => by
    by_cases hi : i < 64
    · obtain ⟨x, hx⟩ := h.2 i hi
      exact ⟨x, fun _ => hx⟩
    · exact ⟨0, fun hh => absurd hh hi⟩
  exact ⟨fun i => (this i).choose, fun i hi => (this i).choose_spec hi⟩
theorem eq25 (d : Nat) (cs ds : Array Value) (f g : Nat → Bool) (h : SetC cs f) (k : SetC ds g) (w : World) : (Op.equalIn (d + 2) 38 (.agg cs) (.agg ds)).run Try.prog w = .ok (same f g 4096) w := by
  obtain ⟨X, hX⟩ := h.words
  obtain ⟨Y, hY⟩ := k.words
  obtain ⟨i, hi⟩ := info24
  rw [run_equalIn_array w (d + 1) _ _ Try.underlying38 hi, cells24, eqItems_int d cs ds X Y w _ (fun i hi => ⟨(hX i (List.mem_range.1 hi)).1, (hY i (List.mem_range.1 hi)).1⟩), same_words f g X Y (fun i hi => (hX i hi).2) (fun i hi => (hY i hi).2)]
theorem run_part25 {cs : Array Value} (hs : cs.size = 64) (w : World) : (part 38 cs 0).run Try.prog w = .ok (.agg cs) w := by
  have ha : (isAgg 38).run Try.prog w = .ok true w := by
    unfold isAgg
    simp only [Sem.run_bind, run_underlying Try.underlying38, Result.andThen_ok, Sem.run_pure]
  obtain ⟨inf, hinf⟩ := info_of_underlying Try.underlying38
  have hc : Try.prog.cellsOf 38 = 64 := by kernel_rfl
  unfold part
  simp only [Sem.run_bind, ha, Result.andThen_ok, if_true, run_sizeOf w hinf, hc, Sem.run_pure, Nat.zero_add]
  rw [← hs, Array.extract_size]
theorem fields27 : Try.prog.fieldsOf 40 = #[{ name := "words", type := 38, offset := 0, embedded := false, tag := "", pkgPath := "outworker/bag", byteOffset := 0 }] := by kernel_rfl
theorem under27 : Try.prog.underlying 40 = some (.struct (Try.prog.fieldsOf 40)) := by rw [fields27]; exact Try.underlying40
theorem eqFields_one {P : Program} (d : Nat) (xs ys : Array Value) (F : Field) (hn : F.name ≠ "_") (a b : Value) (r : Bool) (w : World) (h1 : (part F.type xs F.offset).run P w = .ok a w) (h2 : (part F.type ys F.offset).run P w = .ok b w) (h3 : (Op.equalIn d F.type a b).run P w = .ok r w) : (Op.eqFields d xs ys [F]).run P w = .ok r w := by
  simp only [Op.eqFields, ne_eq, hn, not_false_eq_true, if_true, Sem.run_bind, h1, h2, h3, Result.andThen_ok]
  cases r <;> simp
theorem eq27d (d : Nat) (cs ds : Array Value) (f g : Nat → Bool) (h : SetC cs f) (k : SetC ds g) (w : World) : (Op.equalIn (d + 3) 40 (.agg cs) (.agg ds)).run Try.prog w = .ok (same f g 4096) w := by
  rw [run_equalIn_struct w (d + 2) 40 cs ds under27 Try.stoodInHeld40, fields27]
  exact eqFields_one (d + 2) cs ds _ (by decide) (.agg cs) (.agg ds) _ w (run_part25 h.1 w) (run_part25 k.1 w) (eq25 d cs ds f g h k w)
theorem eq27 (cs ds : Array Value) (f g : Nat → Bool) (h : SetC cs f) (k : SetC ds g) (w : World) : (Op.equalIn 10000 40 (.agg cs) (.agg ds)).run Try.prog w = .ok (same f g 4096) w := eq27d 9997 cs ds f g h k w
end Go.Proofs.Ytblcbccchlljhaa.Bg
namespace Go.Proofs.Ytblcbccchlljhaa.Bg
open Go.RowKit Bag
def z64 : Array Value := Array.replicate 64 (.int .u64 0)
theorem z27 (W : World) : (zeroValue 40).run Try.prog W = .ok (.agg z64) W := by kernel_rfl
theorem z64_set : SetC z64 (fun _ => false) := SetV.zero
set_option maxHeartbeats 4000000 in
set_option maxRecDepth 100000 in
theorem has_mid (cs : Array Value) (at0 : Nat) (x bit y : Int) (w : World) (hs : ∀ W : World, Calls Try.prog 46 #[.int .i64 x] W fun e w' => e = .returned (.tuple #[.int .i64 (at0 : Int), .int .u64 bit]) ∧ W.grownBy w' none) (h64 : (at0 : Int) < 64)
    (hc : cs[at0]? = some (.int .u64 y)) :
    Calls Try.prog 19 #[.agg cs, .int .i64 x] w fun e w' => e = .returned (.bool (bits BinOp.and IntKind.u64 bit y != 0)) ∧ w.grownBy w' none := by
  have HC := hide hc
  clear hc
  have HS := hide hs
  clear hs
  go_enter Try.func19, Try.ntmps19
  go_wp2_with (first | (refine wpList_box' rfl 40 (.tmp 0) rfl cs rfl ?_; intro g w1 h1) | (go_at_call 46; refine (HS.out _).mono ?_; rintro e w2 ⟨rfl, hg⟩; have hc2 : w2.cell? ⟨g, at0, none⟩ = some (.int .u64 y) := hg.cell ((cell_of_row w1 g at0 cs 40 _ h1.out.2.1).trans HC.out) (by simp)))
  go_ret
  exact ⟨rfl, (gb_at h1.out).trans hg⟩
theorem has_any (v : Value) (x : Int) (f : Nat → Bool) (w : World) (h : SetV v f) : Calls Try.prog 19 #[v, .int .i64 x] w fun e w' => e = .returned (.bool (isIn f x)) ∧ w.grownBy w' none := by
  obtain ⟨cs, rfl, hs, hc⟩ := h
  by_cases hx : 0 ≤ x ∧ x < 4096
  · obtain ⟨n, rfl⟩ : ∃ n : Nat, x = n := ⟨x.toNat, by omega⟩
    have hn : n < 4096 := by omega
    obtain ⟨y, hy, hw⟩ := hc (n / 64) (by omega)
    have hbw := word_bit n (n / 64)
    rw [if_pos rfl] at hbw
    refine (has_mid cs (n / 64) n ((2 ^ (n % 64) : Nat) : Int) y w (fun W => by rw [← spotV_yes hn]; exact spot_any _ _) (by omega) hy).mono ?_
    rintro e w' ⟨rfl, hg⟩
    refine ⟨?_, hg⟩
    rw [u64_and_nat _ _ hbw.1 hw.1]
    have := bit_and n y f hw
    rw [ne0_cast, isIn, inS_nat hn, Int.toNat_natCast, Bool.true_and, ← this]
  · have hx' : x < 0 ∨ 4096 ≤ x := by omega
    obtain ⟨y, hy, hw⟩ := hc 0 (by omega)
    refine (has_mid cs 0 x 0 y w (fun W => by have := spot_any x W; rw [spotV_no hx'] at this; exact this) (by omega) hy).mono ?_
    rintro e w' ⟨rfl, hg⟩
    refine ⟨?_, hg⟩
    have := u64_and_nat 0 y (by decide) hw.1
    simp only [Int.ofNat_zero, Nat.zero_and] at this
    simp [this, isIn, inS_no hx']
set_option maxHeartbeats 4000000 in
set_option maxRecDepth 100000 in
theorem copy_any (v : Value) (f : Nat → Bool) (w : World) (h : SetV v f) : Calls Try.prog 15 #[v] w fun e w' => ∃ u, e = .returned u ∧ SetV u f ∧ w.grownBy w' none := by
  obtain ⟨cs, rfl, hs⟩ := h
  go_enter Try.func15, Try.ntmps15
  go_wp2_with (first | (refine wpList_box' rfl 40 (.tmp 0) rfl cs rfl ?_; intro g w1 h1) | (refine wpList_alloc' rfl 40 rfl z64 z27 ?_; intro g2 w2 h2) | (refine wpList_load_row rfl 40 (.tmp 1) rfl g rfl 40 cs _ ((h2.out.2.2.block g (by have := (Array.getElem?_eq_some_iff.1 h1.out.2.1).1; rw [h2.out.1]; exact this)).trans h1.out.2.1) Try.underlying40 rfl (by rw [hs.1]; exact info27) ?_) | (refine wpList_store_whole rfl 40 (.tmp 2) (.tmp 3) rfl g2 40 z64 cs rfl rfl h2.out.2.1 (by rw [hs.1]; exact info27) (by rw [hs.1]; rfl) hs.cells ?_; intro w3 h3 h4 h5))
  refine bodyPost_ret (v := .agg cs) (results_cell_row Try.results15 _ w3 g2 40 cs (0, 0) _ rfl h3.out Try.underlying40 rfl (by rw [hs.1]; exact info27)) rfl ?_
  exact ⟨_, rfl, ⟨cs, rfl, hs⟩, (gb_at h1.out).andThen ((gb_at h2.out).andThen h4.out (fun j e => by cases e; exact .inl (by rw [h2.out.1]; exact Nat.le_refl _))) (fun j e => by cases e)⟩
end Go.Proofs.Ytblcbccchlljhaa.Bg
