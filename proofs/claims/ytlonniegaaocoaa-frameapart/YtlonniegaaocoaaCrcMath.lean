/- Plain facts on the sum of bytes (CRC-32): the register, bit by bit; that it is linear; that a burst is seen. Nothing of the program is named here. -/
import Derived.KernelRfl
namespace Go.Proofs.Ytlonniegaaocoaa
namespace Crc

/-- One move of the register. -/
def bit (x : Nat) : Nat := if x % 2 = 1 then x / 2 ^^^ 3988292384 else x / 2
/-- k moves. -/
def bits : Nat → Nat → Nat
  | 0, x => x
  | k + 1, x => bits k (bit x)
/-- A byte. -/
def byte (x b : Nat) : Nat := bits 8 (x ^^^ b)
/-- Bytes, one behind the other. -/
def reg (s : Nat) (l : List Nat) : Nat := l.foldl byte s
/-- The sum. -/
def sum (l : List Nat) : Nat := reg 4294967295 l ^^^ 4294967295

theorem xor_half (x y : Nat) : (x ^^^ y) / 2 = x / 2 ^^^ y / 2 := by
  have := Nat.shiftRight_xor_distrib (a := x) (b := y) (i := 1)
  simpa [Nat.shiftRight_succ] using this

theorem xor_odd (x y : Nat) : (x ^^^ y) % 2 = 1 ↔ ((x % 2 = 1 ∧ y % 2 = 0) ∨ (x % 2 = 0 ∧ y % 2 = 1)) := by
  have h : (x ^^^ y).testBit 0 = ((x.testBit 0) ^^ (y.testBit 0)) := Nat.testBit_xor x y 0
  simp only [Nat.testBit_zero] at h
  rcases Nat.mod_two_eq_zero_or_one x with hx | hx <;> rcases Nat.mod_two_eq_zero_or_one y with hy | hy <;> simp [hx, hy] at h ⊢ <;> omega

theorem bit_lin (x y : Nat) : bit (x ^^^ y) = bit x ^^^ bit y := by
  unfold bit
  have h := xor_odd x y
  rw [xor_half]
  rcases Nat.mod_two_eq_zero_or_one x with hx | hx <;> rcases Nat.mod_two_eq_zero_or_one y with hy | hy
  · rw [if_neg (by omega), if_neg (by omega), if_neg (by omega)]
  · rw [if_pos (by omega), if_neg (by omega), if_pos (by omega)]
    rw [Nat.xor_assoc]
  · rw [if_pos (by omega), if_pos (by omega), if_neg (by omega)]
    rw [Nat.xor_assoc, Nat.xor_comm (y / 2), ← Nat.xor_assoc]
  · rw [if_neg (by omega), if_pos (by omega), if_pos (by omega)]
    rw [Nat.xor_assoc, Nat.xor_comm 3988292384, Nat.xor_assoc, Nat.xor_self, Nat.xor_zero]

theorem bit_zero : bit 0 = 0 := by decide
theorem bit_even (y : Nat) : bit (2 * y) = y := by unfold bit; rw [if_neg (by omega)]; omega

theorem bits_lin (k x y : Nat) : bits k (x ^^^ y) = bits k x ^^^ bits k y := by
  induction k generalizing x y with
  | zero => rfl
  | succ k ih => rw [bits, bits, bits, bit_lin, ih]
theorem bits_zero (k : Nat) : bits k 0 = 0 := by
  induction k with
  | zero => rfl
  | succ k ih => rw [bits, bit_zero, ih]
theorem bits_add (j k x : Nat) : bits (j + k) x = bits k (bits j x) := by
  induction j generalizing x with
  | zero => rw [Nat.zero_add]; rfl
  | succ j ih => rw [Nat.add_right_comm, bits, bits, ih]

theorem byte_lin (x y b c : Nat) : byte (x ^^^ y) (b ^^^ c) = byte x b ^^^ byte y c := by
  unfold byte
  rw [← bits_lin]
  congr 1
  rw [Nat.xor_assoc, ← Nat.xor_assoc y b c, Nat.xor_comm y b, Nat.xor_assoc b y c, ← Nat.xor_assoc x b]

/-- Of two lists of one length. -/
theorem reg_lin : ∀ (l m : List Nat) (s t : Nat), l.length = m.length → reg (s ^^^ t) (l.zipWith (· ^^^ ·) m) = reg s l ^^^ reg t m
  | [], [], _, _, _ => rfl
  | a :: l, b :: m, s, t, h => by
    simp only [List.zipWith_cons_cons, reg, List.foldl_cons]
    rw [byte_lin]
    exact reg_lin l m _ _ (by simpa using h)

/-- It is no greater than 32 bits. -/
theorem bit_lt {x : Nat} (h : x < 4294967296) : bit x < 4294967296 := by
  unfold bit
  split
  · exact Nat.xor_lt_two_pow (n := 32) (by omega) (by omega)
  · omega
theorem bits_lt (k : Nat) {x : Nat} (h : x < 4294967296) : bits k x < 4294967296 := by
  induction k generalizing x with
  | zero => exact h
  | succ k ih => exact ih (bit_lt h)
theorem byte_lt {x b : Nat} (h : x < 4294967296) (hb : b < 256) : byte x b < 4294967296 :=
  bits_lt 8 (Nat.xor_lt_two_pow (n := 32) (by omega) (by omega))
theorem reg_lt : ∀ (l : List Nat) {s : Nat}, s < 4294967296 → (∀ b ∈ l, b < 256) → reg s l < 4294967296
  | [], _, h, _ => h
  | b :: l, _, h, hb => reg_lt l (byte_lt h (hb b (by simp))) (fun c hc => hb c (by simp [hc]))

/-- No move loses what was there. -/
theorem bit_ne {x : Nat} (h : x < 4294967296) (h0 : x ≠ 0) : bit x ≠ 0 := by
  unfold bit
  split
  · intro e
    have e1 : x / 2 = 3988292384 := by
      have : (x / 2 ^^^ 3988292384) ^^^ 3988292384 = 0 ^^^ 3988292384 := by rw [e]
      rwa [Nat.xor_assoc, Nat.xor_self, Nat.xor_zero, Nat.zero_xor] at this
    omega
  · omega
theorem bits_ne (k : Nat) {x : Nat} (h : x < 4294967296) (h0 : x ≠ 0) : bits k x ≠ 0 := by
  induction k generalizing x with
  | zero => exact h0
  | succ k ih => exact ih (bit_lt h) (bit_ne h h0)

/-- Bit by bit: each is put in ahead of its move. -/
def strm (s : Nat) (l : List Bool) : Nat := l.foldl (fun s b => bit (s ^^^ b.toNat)) s
/-- A word of bits, the lowest first. -/
def word : List Bool → Nat
  | [] => 0
  | b :: l => b.toNat + 2 * word l

theorem word_lt : ∀ (l : List Bool), word l < 2 ^ l.length
  | [] => by simp [word]
  | b :: l => by
    have := word_lt l
    rw [word, List.length_cons, Nat.pow_succ]
    cases b <;> simp <;> omega

theorem bool_add (b : Bool) (y : Nat) : b.toNat + 2 * y = b.toNat ^^^ 2 * y := by
  cases b
  · simp
  · have := Nat.two_pow_add_eq_or_of_lt (i := 1) (b := 1) (by omega) y
    apply Nat.eq_of_testBit_eq
    intro i
    rw [Nat.testBit_xor]
    rw [Nat.pow_one] at this
    rw [Bool.toNat_true, Nat.add_comm, this, Nat.testBit_or]
    cases i with
    | zero => simp
    | succ i => simp [Nat.testBit_succ]

/-- Up to 32 bits may be put in at once. -/
theorem strm_word : ∀ (l : List Bool) (s : Nat), strm s l = bits l.length (s ^^^ word l)
  | [], s => by simp [strm, bits, word]
  | b :: l, s => by
    rw [strm, List.foldl_cons, ← strm, strm_word l, List.length_cons, bits, word, bool_add, ← Nat.xor_assoc, bit_lin (s ^^^ b.toNat) (2 * word l), bit_even]

theorem strm_append (s : Nat) (l m : List Bool) : strm s (l ++ m) = strm (strm s l) m := by
  simp [strm, List.foldl_append]

theorem strm_falses (s : Nat) : ∀ (k : Nat), strm s (List.replicate k false) = bits k s
  | 0 => rfl
  | k + 1 => by
    rw [strm_word]
    have : ∀ n, word (List.replicate n false) = 0 := by
      intro n
      induction n with
      | zero => rfl
      | succ n ih => rw [List.replicate_succ, word, ih]; rfl
    rw [this, Nat.xor_zero, List.length_replicate]

theorem word_pos : ∀ (l : List Bool), true ∈ l → word l ≠ 0
  | [], h => by simp at h
  | b :: l, h => by
    rw [word]
    cases b with
    | true => simp
    | false =>
      have := word_pos l (by simpa using h)
      simp; omega

/-- A BURST IS SEEN: none of the bits is set but within 32 side by side, and one there is. -/
theorem burst (i j : Nat) (l : List Bool) (h : l.length ≤ 32) (hl : true ∈ l) : strm 0 (List.replicate i false ++ (l ++ List.replicate j false)) ≠ 0 := by
  rw [strm_append, strm_falses, bits_zero, strm_append, strm_falses, strm_word, Nat.zero_xor]
  have hw : word l < 4294967296 := Nat.lt_of_lt_of_le (word_lt l) (Nat.le_trans (Nat.pow_le_pow_right (n := 2) (by omega) h) (by decide))
  exact bits_ne j (bits_lt _ hw) (bits_ne _ hw (word_pos l hl))

/-- The bits of a byte, of bytes: the lowest first. -/
def bitsOf (b : Nat) : List Bool := (List.range 8).map fun i => b.testBit i
def allBits (l : List Nat) : List Bool := l.flatMap bitsOf

theorem word_bitsOf : ∀ b, b < 256 → word (bitsOf b) = b := by decide +kernel

theorem reg_strm : ∀ (l : List Nat) (s : Nat), (∀ b ∈ l, b < 256) → reg s l = strm s (allBits l)
  | [], s, _ => rfl
  | b :: l, s, h => by
    rw [allBits, List.flatMap_cons, strm_append, ← allBits, ← reg_strm l _ (fun c hc => h c (by simp [hc])), strm_word, word_bitsOf b (h b (by simp))]
    rfl

/-- The bits of a list, by their numbers. -/
theorem length_allBits (l : List Nat) : (allBits l).length = 8 * l.length := by
  induction l with
  | nil => rfl
  | cons b l ih => rw [allBits, List.flatMap_cons, List.length_append, ← allBits, ih]; simp [bitsOf]; omega

theorem get_allBits : ∀ (l : List Nat) (n : Nat), n < 8 * l.length → (allBits l).getD n false = (l.getD (n / 8) 0).testBit (n % 8)
  | [], n, h => by simp at h
  | b :: l, n, h => by
    rw [allBits, List.flatMap_cons, ← allBits]
    by_cases h8 : n < 8
    · rw [List.getD_eq_getElem?_getD, List.getElem?_append_left (by simpa [bitsOf] using h8)]
      rw [show n / 8 = 0 from by omega, show n % 8 = n from by omega]
      simp [bitsOf, h8]
    · rw [List.getD_eq_getElem?_getD, List.getElem?_append_right (by simp [bitsOf]; omega), ← List.getD_eq_getElem?_getD]
      rw [show (bitsOf b).length = 8 from by simp [bitsOf], get_allBits l (n - 8) (by simp at h; omega)]
      rw [show n / 8 = (n - 8) / 8 + 1 from by omega, show n % 8 = (n - 8) % 8 from by omega]
      simp

/-- A list whose bits are set just where the word's are, from k on: seen, if there is one. -/
theorem seen (d : List Nat) (k : Nat) (f : Nat → Bool) (hd : ∀ b ∈ d, b < 256) (hbit : ∀ n, n < 8 * d.length → (d.getD (n / 8) 0).testBit (n % 8) = (decide (k ≤ n) && decide (n < k + 32) && f (n - k)))
    (hf : ∃ i, i < 32 ∧ f i = true ∧ k + i < 8 * d.length) : reg 0 d ≠ 0 := by
  rw [reg_strm d 0 hd]
  obtain ⟨i, hi, hfi, hin⟩ := hf
  have hl := length_allBits d
  obtain ⟨m, hm⟩ : ∃ m, m = min 32 (8 * d.length - k) := ⟨_, rfl⟩
  have e : allBits d = List.replicate k false ++ ((List.range m).map f ++ List.replicate (8 * d.length - k - m) false) := by
    apply List.ext_getElem?
    intro n
    by_cases hn : n < 8 * d.length
    · have g := get_allBits d n hn
      rw [hbit n hn, List.getD_eq_getElem?_getD, List.getElem?_eq_getElem (by omega), Option.getD_some] at g
      rw [List.getElem?_eq_getElem (by omega), g]
      by_cases h1 : n < k
      · rw [List.getElem?_append_left (by simpa using h1)]
        simp [h1]
        omega
      · rw [List.getElem?_append_right (by simp; omega)]
        simp only [List.length_replicate]
        by_cases h2 : n - k < m
        · rw [List.getElem?_append_left (by simpa using h2)]
          simp [h2, show k ≤ n from by omega, show n < k + 32 from by omega]
        · have h32 : ¬ n < k + 32 := by omega
          have hlt : n - k - m < 8 * d.length - k - m := by omega
          rw [List.getElem?_append_right (by simpa using h2)]
          simp [h32, hlt]
    · rw [List.getElem?_eq_none (by omega), List.getElem?_eq_none]
      simp
      omega
  rw [e]
  refine burst k _ _ (by simp; omega) ?_
  simp only [List.mem_map, List.mem_range]
  exact ⟨i, by omega, hfi⟩

end Crc
end Go.Proofs.Ytlonniegaaocoaa
