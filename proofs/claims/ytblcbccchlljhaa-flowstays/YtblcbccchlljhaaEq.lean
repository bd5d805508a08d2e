/- Sets compared, models compared. -/
import Derived.Test.YtblcbccchlljhaaLn
import Derived.Laws.StructEq
namespace Go.Proofs.Ytblcbccchlljhaa.Bg
open Go.RowKit Bag
theorem plain4 : Try.prog.plainKey 4 = true := by kernel_rfl
theorem cells4 : Try.prog.cellsOf 4 = 1 := by kernel_rfl
theorem info4 : ∃ i, Try.prog.info? 4 = some i := info_of_underlying Try.underlying4
theorem eqItems_int (d : Nat) (xs ys : Array Value) (X Y : Nat → Nat) (w : World) : ∀ is : List Nat, (∀ i ∈ is, xs[i]? = some (.int .u64 (X i : Nat)) ∧ ys[i]? = some (.int .u64 (Y i : Nat))) → (Op.eqItems (d + 1) 37 1 xs ys is).run Try.prog w = .ok (is.all fun i => X i == Y i) w
  | [], _ => rfl
  | i :: is, h => by
    obtain ⟨hx, hy⟩ := h i (by simp)
    have hp := run_part_plain (P := Try.prog) w plain24 (xs := xs) (off := i * 1) (by rw [Nat.mul_one]; exact hx)
    have hq := run_part_plain (P := Try.prog) w plain24 (xs := ys) (off := i * 1) (by rw [Nat.mul_one]; exact hy)
    have hi := run_equalIn_int (P := Try.prog) w d 37 .u64 .u64 (X i : Int) (Y i : Int) Try.underlying37
    have hb : (((X i : Nat) : Int) == ((Y i : Nat) : Int)) = (X i == Y i) := by
      by_cases e : X i = Y i
      · rw [e, beq_self_eq_true, beq_self_eq_true]
      · have h1 : (X i == Y i) = false := by simp [e]
        have h2 : (((X i : Nat) : Int) == ((Y i : Nat) : Int)) = false := by rw [beq_eq_false_iff_ne]; omega
        rw [h1, h2]
    rw [hb] at hi
    unfold Op.eqItems
    simp only [Sem.run_bind, hp, hq, Result.andThen_ok, hi]
    cases hxy : X i == Y i
    · simp [hxy]
    · simp only [Bool.not_true, Bool.false_eq_true, if_false, List.all_cons, hxy, Bool.true_and]
      exact eqItems_int d xs ys X Y w is fun j hj => h j (by simp [hj])
theorem eqItems_bool (d : Nat) (xs ys : Array Value) (X Y : Nat → Bool) (w : World) : ∀ is : List Nat, (∀ i ∈ is, xs[i]? = some (.bool (X i)) ∧ ys[i]? = some (.bool (Y i))) → (Op.eqItems (d + 1) 4 1 xs ys is).run Try.prog w = .ok (is.all fun i => X i == Y i) w
  | [], _ => rfl
  | i :: is, h => by
    obtain ⟨hx, hy⟩ := h i (by simp)
    have hp := run_part_plain (P := Try.prog) w plain4 (xs := xs) (off := i * 1) (by rw [Nat.mul_one]; exact hx)
    have hq := run_part_plain (P := Try.prog) w plain4 (xs := ys) (off := i * 1) (by rw [Nat.mul_one]; exact hy)
    have hi : (Op.equalIn (d + 1) 4 (.bool (X i)) (.bool (Y i))).run Try.prog w = .ok (X i == Y i) w := by
      rw [Op.equalIn]
      simp only [Sem.run_bind, run_underlying Try.underlying4, Result.andThen_ok, Sem.run_pure]
    unfold Op.eqItems
    simp only [Sem.run_bind, hp, hq, Result.andThen_ok, hi]
    cases hxy : X i == Y i
    · simp [hxy]
    · simp only [Bool.not_true, Bool.false_eq_true, if_false, List.all_cons, hxy, Bool.true_and]
      exact eqItems_bool d xs ys X Y w is fun j hj => h j (by simp [hj])
/-- Do f and g have the same below n? -/
def same (f g : Nat → Bool) (n : Nat) : Bool := (List.range n).all fun x => f x == g x
theorem same_yes {f g : Nat → Bool} {n : Nat} : same f g n = true ↔ ∀ x, x < n → f x = g x := by simp [same]
theorem same_words (f g : Nat → Bool) (X Y : Nat → Nat) (hX : ∀ i, i < 64 → Word f i (X i)) (hY : ∀ i, i < 64 → Word g i (Y i)) : ((List.range 64).all fun i => X i == Y i) = same f g 4096 := by
  have h : ((List.range 64).all fun i => X i == Y i) = true ↔ same f g 4096 = true := by
    rw [same_yes]
    constructor
    · intro e x hx
      have e1 : X (x / 64) = Y (x / 64) := by
        have := List.all_eq_true.1 e (x / 64) (List.mem_range.2 (by omega))
        simpa using this
      have := (word_eq (hX (x / 64) (by omega)) (hY (x / 64) (by omega))).1 e1 (x % 64) (by omega)
      rwa [show 64 * (x / 64) + x % 64 = x by omega] at this
    · intro e
      rw [List.all_eq_true]
      intro i hi
      have hi := List.mem_range.1 hi
      have := (word_eq (hX i hi) (hY i hi)).2 fun j hj => e _ (by omega)
      simp [this]
  cases h1 : ((List.range 64).all fun i => X i == Y i) <;> cases h2 : same f g 4096 <;> simp_all
theorem SetC.words {cs : Array Value} {f : Nat → Bool} (h : SetC cs f) : ∃ X : Nat → Nat, ∀ i, i < 64 → cs[i]? = some (.int .u64 (X i : Nat)) ∧ Word f i (X i) := by
  have : ∀ i, ∃ x : Nat, i < 64 → cs[i]? = some (.int .u64 x) ∧ Word f i x := fun i => by
    by_cases hi : i < 64
    · obtain ⟨x, hx⟩ := h.2 i hi
      exact ⟨x, fun _ => hx⟩
    · exact ⟨0, fun hh => absurd hh hi⟩
  exact ⟨fun i => (this i).choose, fun i hi => (this i).choose_spec hi⟩
theorem eq25 (d : Nat) (cs ds : Array Value) (f g : Nat → Bool) (h : SetC cs f) (k : SetC ds g) (w : World) : (Op.equalIn (d + 2) 38 (.agg cs) (.agg ds)).run Try.prog w = .ok (same f g 4096) w := by
  obtain ⟨X, hX⟩ := h.words
  obtain ⟨Y, hY⟩ := k.words
  obtain ⟨i, hi⟩ := info24
  rw [run_equalIn_array w (d + 1) _ _ Try.underlying38 hi, cells24, eqItems_int d cs ds X Y w _ (fun i hi => ⟨(hX i (List.mem_range.1 hi)).1, (hY i (List.mem_range.1 hi)).1⟩), same_words f g X Y (fun i hi => (hX i hi).2) (fun i hi => (hY i hi).2)]
theorem run_part25 {cs : Array Value} (hs : cs.size = 64) (w : World) : (part 38 cs 0).run Try.prog w = .ok (.agg cs) w := by
  have ha : (isAgg 38).run Try.prog w = .ok true w := by
    unfold isAgg
    simp only [Sem.run_bind, run_underlying Try.underlying38, Result.andThen_ok, Sem.run_pure]
  obtain ⟨inf, hinf⟩ := info_of_underlying Try.underlying38
  have hc : Try.prog.cellsOf 38 = 64 := by kernel_rfl
  unfold part
  simp only [Sem.run_bind, ha, Result.andThen_ok, if_true, run_sizeOf w hinf, hc, Sem.run_pure, Nat.zero_add]
  rw [← hs, Array.extract_size]
theorem fields27 : Try.prog.fieldsOf 40 = #[{ name := "words", type := 38, offset := 0, embedded := false, tag := "", pkgPath := "outworker/bag", byteOffset := 0 }] := by kernel_rfl
theorem under27 : Try.prog.underlying 40 = some (.struct (Try.prog.fieldsOf 40)) := by rw [fields27]; exact Try.underlying40
theorem eqFields_one {P : Program} (d : Nat) (xs ys : Array Value) (F : Field) (hn : F.name ≠ "_") (a b : Value) (r : Bool) (w : World) (h1 : (part F.type xs F.offset).run P w = .ok a w) (h2 : (part F.type ys F.offset).run P w = .ok b w) (h3 : (Op.equalIn d F.type a b).run P w = .ok r w) : (Op.eqFields d xs ys [F]).run P w = .ok r w := by
  simp only [Op.eqFields, ne_eq, hn, not_false_eq_true, if_true, Sem.run_bind, h1, h2, h3, Result.andThen_ok]
  cases r <;> simp
theorem eq27d (d : Nat) (cs ds : Array Value) (f g : Nat → Bool) (h : SetC cs f) (k : SetC ds g) (w : World) : (Op.equalIn (d + 3) 40 (.agg cs) (.agg ds)).run Try.prog w = .ok (same f g 4096) w := by
  rw [run_equalIn_struct w (d + 2) 40 cs ds under27 Try.stoodInHeld40, fields27]
  exact eqFields_one (d + 2) cs ds _ (by decide) (.agg cs) (.agg ds) _ w (run_part25 h.1 w) (run_part25 k.1 w) (eq25 d cs ds f g h k w)
theorem eq27 (cs ds : Array Value) (f g : Nat → Bool) (h : SetC cs f) (k : SetC ds g) (w : World) : (Op.equalIn 10000 40 (.agg cs) (.agg ds)).run Try.prog w = .ok (same f g 4096) w := eq27d 9997 cs ds f g h k w
end Go.Proofs.Ytblcbccchlljhaa.Bg
