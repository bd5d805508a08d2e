/- Plain facts on numbers as few bytes: the bytes of a number, and what is read from bytes; nothing of the program is named here. -/
import Derived.KernelRfl
namespace Go.Proofs.Ytocjongjgbccnaa
namespace Leb

/-- The bytes of a number: seven bits a byte, the lowest first, each but the last with its highest bit. -/
def enc (n : Nat) : List Int := if n < 128 then [(n : Int)] else ((n % 128 + 128 : Nat) : Int) :: enc (n / 128)
termination_by n
decreasing_by omega

theorem enc_lt {n : Nat} (h : n < 128) : enc n = [(n : Int)] := by rw [enc, if_pos h]
theorem enc_ge {n : Nat} (h : 128 ≤ n) : enc n = ((n % 128 + 128 : Nat) : Int) :: enc (n / 128) := by rw [enc, if_neg (by omega)]

theorem enc_ne (n : Nat) : enc n ≠ [] := by
  by_cases h : n < 128
  · rw [enc_lt h]; simp
  · rw [enc_ge (by omega)]; simp

theorem enc_pos (n : Nat) : 1 ≤ (enc n).length := by
  have := List.length_pos_iff.2 (enc_ne n); omega

/-- Each of them is a byte. -/
theorem enc_byte : ∀ (n : Nat), ∀ x ∈ enc n, 0 ≤ x ∧ x < 256 := by
  intro n
  induction n using Nat.strongRecOn with
  | _ n ih =>
    by_cases h : n < 128
    · rw [enc_lt h]; intro x hx; simp at hx; subst hx; omega
    · rw [enc_ge (by omega)]; intro x hx
      rcases List.mem_cons.1 hx with rfl | hx
      · omega
      · exact ih (n / 128) (by omega) x hx

/-- Below 128^(k+1): no more than k+1 bytes. -/
theorem enc_len : ∀ (k n : Nat), n < 128 ^ (k + 1) → (enc n).length ≤ k + 1 := by
  intro k
  induction k with
  | zero => intro n h; rw [enc_lt (by simpa using h)]; simp
  | succ k ih =>
    intro n h
    by_cases h1 : n < 128
    · rw [enc_lt h1]; simp
    · rw [enc_ge (by omega)]
      have := ih (n / 128) (by rw [Nat.div_lt_iff_lt_mul (by omega)]; rw [Nat.pow_succ] at h; exact h)
      simp; omega

theorem enc_len10 {n : Nat} (h : n < 18446744073709551616) : (enc n).length ≤ 10 :=
  enc_len 9 n (Nat.lt_of_lt_of_le h (by decide))

/-- It fits into 64 bits. (Behind a name, so that no walk meets the numeral.) -/
def Fits (n : Nat) : Prop := n < 18446744073709551616
theorem Fits.out {n : Nat} (h : Fits n) : n < 18446744073709551616 := h
theorem Fits.len {n : Nat} (h : Fits n) : (enc n).length ≤ 10 := enc_len10 h
theorem Fits.down {n : Nat} (h : Fits n) : Fits (n / 128) := by unfold Fits at *; omega

/-- A greater number has no fewer bytes. -/
theorem enc_mono : ∀ (b a : Nat), a ≤ b → (enc a).length ≤ (enc b).length := by
  intro b
  induction b using Nat.strongRecOn with
  | _ b ih =>
    intro a h
    by_cases ha : a < 128
    · rw [enc_lt ha]; exact enc_pos b
    · rw [enc_ge (n := a) (by omega), enc_ge (n := b) (by omega)]
      have := ih (b / 128) (by omega) (a / 128) (Nat.div_le_div_right h)
      simp; omega

/-- Unlike numbers have unlike bytes. -/
theorem enc_inj : ∀ (a b : Nat), enc a = enc b → a = b := by
  intro a
  induction a using Nat.strongRecOn with
  | _ a ih =>
    intro b h
    by_cases ha : a < 128
    · by_cases hb : b < 128
      · rw [enc_lt ha, enc_lt hb] at h; simp at h; omega
      · rw [enc_lt ha, enc_ge (n := b) (by omega)] at h
        simp only [List.cons.injEq] at h
        exact absurd h.2.symm (enc_ne _)
    · by_cases hb : b < 128
      · rw [enc_ge (n := a) (by omega), enc_lt hb] at h
        simp only [List.cons.injEq] at h
        exact absurd h.2 (enc_ne _)
      · rw [enc_ge (n := a) (by omega), enc_ge (n := b) (by omega)] at h
        simp only [List.cons.injEq] at h
        have := ih (a / 128) (by omega) (b / 128) h.2
        omega

/-- A number that may be below 0, as one that isn't. -/
def zig (i : Int) : Nat := if i < 0 then (-2 * i - 1).toNat else (2 * i).toNat

theorem zig_lt {i : Int} (h1 : -9223372036854775808 ≤ i) (h2 : i ≤ 9223372036854775807) : zig i < 18446744073709551616 := by
  unfold zig; split <;> omega
theorem zig_inj (a b : Int) (h : zig a = zig b) : a = b := by
  unfold zig at h; split at h <;> split at h <;> omega

/-- The number at the front of bytes, i of which were read and gave acc: the number, how many bytes it has, the fault (3: too few bytes; 8: no right form). -/
def num (i acc : Nat) : List Int → Nat × Nat × Int
  | [] => (0, 0, 3)
  | c :: cs => if (i = 9 ∧ 1 < c) ∨ (0 < i ∧ c = 0) then (0, 0, 8) else if c < 128 then (acc + c.toNat % 128 * 128 ^ i, i + 1, 0) else num (i + 1) (acc + c.toNat % 128 * 128 ^ i) cs

theorem num_form1 {acc : Nat} {c : Int} {cs : List Int} (h : 1 < c) : num 9 acc (c :: cs) = (0, 0, 8) := by
  rw [num, if_pos (Or.inl ⟨rfl, h⟩)]
theorem num_form2 {i acc : Nat} {c : Int} {cs : List Int} (hi : 0 < i) (h : c = 0) : num i acc (c :: cs) = (0, 0, 8) := by
  rw [num, if_pos (Or.inr ⟨hi, h⟩)]
theorem num_last {i acc : Nat} {c : Int} {cs : List Int} (h1 : ¬ ((i = 9 ∧ 1 < c) ∨ (0 < i ∧ c = 0))) (h2 : c < 128) : num i acc (c :: cs) = (acc + c.toNat % 128 * 128 ^ i, i + 1, 0) := by
  rw [num, if_neg h1, if_pos h2]
theorem num_more {i acc : Nat} {c : Int} {cs : List Int} (h1 : ¬ ((i = 9 ∧ 1 < c) ∨ (0 < i ∧ c = 0))) (h2 : ¬ c < 128) : num i acc (c :: cs) = num (i + 1) (acc + c.toNat % 128 * 128 ^ i) cs := by
  rw [num, if_neg h1, if_neg h2]

/-- A fault, if there was none. -/
def failed (code c : Int) : Int := if code = 0 then c else code
/-- The fault at the end. -/
def ended (xs : List Int) (code : Int) : Int := if 0 < xs.length then failed code 5 else code
theorem failed_zero (c : Int) : failed 0 c = c := by simp [failed]
theorem failed_ne {code : Int} (h : code ≠ 0) (c : Int) : failed code c = code := by simp [failed, h]

/-- What Num answers, what is left, the fault. -/
def numA (xs : List Int) (code : Int) : Nat := if code = 0 then (num 0 0 xs).1 else 0
def numL (xs : List Int) (code : Int) : List Int := if code = 0 then xs.drop (num 0 0 xs).2.1 else xs
def numC (xs : List Int) (code : Int) : Int := if code = 0 then (num 0 0 xs).2.2 else code

theorem num_fault : ∀ (xs : List Int) (i acc : Nat), (num i acc xs).2.2 ≠ 0 → (num i acc xs).1 = 0 ∧ (num i acc xs).2.1 = 0
  | [], _, _, _ => by simp [num]
  | c :: cs, i, acc, h => by
    by_cases h1 : (i = 9 ∧ 1 < c) ∨ (0 < i ∧ c = 0)
    · rw [num, if_pos h1]; simp
    · by_cases h2 : c < 128
      · rw [num, if_neg h1, if_pos h2] at h; simp at h
      · rw [num, if_neg h1, if_neg h2] at h ⊢; exact num_fault cs _ _ h
theorem num_size : ∀ (xs : List Int) (i acc : Nat), (num i acc xs).2.2 = 0 → i < (num i acc xs).2.1 ∧ (num i acc xs).2.1 ≤ i + xs.length
  | [], _, _, h => by simp [num] at h
  | c :: cs, i, acc, h => by
    by_cases h1 : (i = 9 ∧ 1 < c) ∨ (0 < i ∧ c = 0)
    · rw [num, if_pos h1] at h; simp at h
    · by_cases h2 : c < 128
      · rw [num, if_neg h1, if_pos h2]; simp
      · rw [num, if_neg h1, if_neg h2] at h ⊢
        have := num_size cs _ _ h
        simp; omega

end Leb
end Go.Proofs.Ytocjongjgbccnaa
