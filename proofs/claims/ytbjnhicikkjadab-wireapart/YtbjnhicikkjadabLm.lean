/- Plain facts on numbers as few bytes: the bytes of a number, and what is read from bytes; nothing of the program is named here. -/
import Derived.KernelRfl
namespace Go.Proofs.Ytbjnhicikkjadab
namespace Leb

/-- The bytes of a number: seven bits a byte, the lowest first, each but the last with its highest bit. -/
def encF : Nat → Nat → List Int
  | 0, n => [(n : Int)]
  | f + 1, n => if n < 128 then [(n : Int)] else ((n % 128 + 128 : Nat) : Int) :: encF f (n / 128)
def enc (n : Nat) : List Int := encF n n

theorem encF_more : ∀ (f g n : Nat), n ≤ f → n ≤ g → encF f n = encF g n
  | 0, 0, _, _, _ => rfl
  | 0, g + 1, n, h, _ => by
    have e : n = 0 := by omega
    subst e
    rfl
  | f + 1, 0, n, _, h => by
    have e : n = 0 := by omega
    subst e
    rfl
  | f + 1, g + 1, n, hf, hg => by
    unfold encF
    by_cases h : n < 128
    · rw [if_pos h, if_pos h]
    · rw [if_neg h, if_neg h, encF_more f g (n / 128) (by omega) (by omega)]
theorem enc_lt {n : Nat} (h : n < 128) : enc n = [(n : Int)] := by
  unfold enc
  cases n with
  | zero => rfl
  | succ m => unfold encF; rw [if_pos h]
theorem enc_ge {n : Nat} (h : 128 ≤ n) : enc n = ((n % 128 + 128 : Nat) : Int) :: enc (n / 128) := by
  unfold enc
  cases n with
  | zero => omega
  | succ m =>
    conv => lhs; unfold encF
    rw [if_neg (by omega), encF_more m ((m + 1) / 128) _ (by omega) (Nat.le_refl _)]

theorem enc_ne (n : Nat) : enc n ≠ [] := by
  by_cases h : n < 128
  · rw [enc_lt h]; simp
  · rw [enc_ge (by omega)]; simp

theorem enc_pos (n : Nat) : 1 ≤ (enc n).length := by
  have := List.length_pos_iff.2 (enc_ne n); omega

/-- Each of them is a byte. -/
theorem enc_byte : ∀ (n : Nat), ∀ x ∈ enc n, 0 ≤ x ∧ x < 256 := by
  intro n
  induction n using Nat.strongRecOn with
  | _ n ih =>
    by_cases h : n < 128
    · rw [enc_lt h]; intro x hx; simp at hx; subst hx; omega
    · rw [enc_ge (by omega)]; intro x hx
      rcases List.mem_cons.1 hx with rfl | hx
      · omega
      · exact ih (n / 128) (by omega) x hx

/-- Below 128^(k+1): no more than k+1 bytes. -/
theorem enc_len : ∀ (k n : Nat), n < 128 ^ (k + 1) → (enc n).length ≤ k + 1 := by
  intro k
  induction k with
  | zero => intro n h; rw [enc_lt (by simpa using h)]; simp
  | succ k ih =>
    intro n h
    by_cases h1 : n < 128
    · rw [enc_lt h1]; simp
    · rw [enc_ge (by omega)]
      have := ih (n / 128) (by rw [Nat.div_lt_iff_lt_mul (by omega)]; rw [Nat.pow_succ] at h; exact h)
      simp; omega

theorem enc_len10 {n : Nat} (h : n < 18446744073709551616) : (enc n).length ≤ 10 :=
  enc_len 9 n (Nat.lt_of_lt_of_le h (by decide))

/-- It fits into 64 bits. (Behind a name, so that no walk meets the numeral.) -/
def Fits (n : Nat) : Prop := n < 18446744073709551616
theorem Fits.out {n : Nat} (h : Fits n) : n < 18446744073709551616 := h
theorem Fits.len {n : Nat} (h : Fits n) : (enc n).length ≤ 10 := enc_len10 h
theorem Fits.down {n : Nat} (h : Fits n) : Fits (n / 128) := by unfold Fits at *; omega

/-- A greater number has no fewer bytes. -/
theorem enc_mono : ∀ (b a : Nat), a ≤ b → (enc a).length ≤ (enc b).length := by
  intro b
  induction b using Nat.strongRecOn with
  | _ b ih =>
    intro a h
    by_cases ha : a < 128
    · rw [enc_lt ha]; exact enc_pos b
    · rw [enc_ge (n := a) (by omega), enc_ge (n := b) (by omega)]
      have := ih (b / 128) (by omega) (a / 128) (Nat.div_le_div_right h)
      simp; omega

/-- Unlike numbers have unlike bytes. -/
theorem enc_inj : ∀ (a b : Nat), enc a = enc b → a = b := by
  intro a
  induction a using Nat.strongRecOn with
  | _ a ih =>
    intro b h
    by_cases ha : a < 128
    · by_cases hb : b < 128
      · rw [enc_lt ha, enc_lt hb] at h; simp at h; omega
      · rw [enc_lt ha, enc_ge (n := b) (by omega)] at h
        simp only [List.cons.injEq] at h
        exact absurd h.2.symm (enc_ne _)
    · by_cases hb : b < 128
      · rw [enc_ge (n := a) (by omega), enc_lt hb] at h
        simp only [List.cons.injEq] at h
        exact absurd h.2 (enc_ne _)
      · rw [enc_ge (n := a) (by omega), enc_ge (n := b) (by omega)] at h
        simp only [List.cons.injEq] at h
        have := ih (a / 128) (by omega) (b / 128) h.2
        omega

/-- A number that may be below 0, as one that isn't. -/
def zig (i : Int) : Nat := if i < 0 then (-2 * i - 1).toNat else (2 * i).toNat

theorem zig_lt {i : Int} (h1 : -9223372036854775808 ≤ i) (h2 : i ≤ 9223372036854775807) : zig i < 18446744073709551616 := by
  unfold zig; split <;> omega
theorem zig_inj (a b : Int) (h : zig a = zig b) : a = b := by
  unfold zig at h; split at h <;> split at h <;> omega

/-- An even number and the next one have as many bytes. -/
theorem enc_pair : ∀ (k : Nat), (enc (2 * k)).length = (enc (2 * k + 1)).length := by
  intro k
  by_cases h : 2 * k < 128
  · rw [enc_lt h, enc_lt (n := 2 * k + 1) (by omega)]
    rfl
  · rw [enc_ge (n := 2 * k) (by omega), enc_ge (n := 2 * k + 1) (by omega), show (2 * k + 1) / 128 = 2 * k / 128 from by omega]
    simp
theorem zig_not (i : Int) : (enc (zig i)).length = (enc (zig (-1 - i))).length := by
  by_cases h : i < 0
  · have e1 : zig i = 2 * (-1 - i).toNat + 1 := by unfold zig; rw [if_pos h]; omega
    have e2 : zig (-1 - i) = 2 * (-1 - i).toNat := by unfold zig; rw [if_neg (by omega)]; omega
    rw [e1, e2, enc_pair]
  · have e1 : zig i = 2 * i.toNat := by unfold zig; rw [if_neg h]; omega
    have e2 : zig (-1 - i) = 2 * i.toNat + 1 := by unfold zig; rw [if_pos (by omega)]; omega
    rw [e1, e2, enc_pair]

/-- The number at the front of bytes, i of which were read and gave acc: the number, how many bytes it has, the fault (3: too few bytes; 8: no right form). -/
def num (i acc : Nat) : List Int → Nat × Nat × Int
  | [] => (0, 0, 3)
  | c :: cs => if (i = 9 ∧ 1 < c) ∨ (0 < i ∧ c = 0) then (0, 0, 8) else if c < 128 then (acc + c.toNat % 128 * 128 ^ i, i + 1, 0) else num (i + 1) (acc + c.toNat % 128 * 128 ^ i) cs

theorem num_form1 {acc : Nat} {c : Int} {cs : List Int} (h : 1 < c) : num 9 acc (c :: cs) = (0, 0, 8) := by
  rw [num, if_pos (Or.inl ⟨rfl, h⟩)]
theorem num_form2 {i acc : Nat} {c : Int} {cs : List Int} (hi : 0 < i) (h : c = 0) : num i acc (c :: cs) = (0, 0, 8) := by
  rw [num, if_pos (Or.inr ⟨hi, h⟩)]
theorem num_last {i acc : Nat} {c : Int} {cs : List Int} (h1 : ¬ ((i = 9 ∧ 1 < c) ∨ (0 < i ∧ c = 0))) (h2 : c < 128) : num i acc (c :: cs) = (acc + c.toNat % 128 * 128 ^ i, i + 1, 0) := by
  rw [num, if_neg h1, if_pos h2]
theorem num_more {i acc : Nat} {c : Int} {cs : List Int} (h1 : ¬ ((i = 9 ∧ 1 < c) ∨ (0 < i ∧ c = 0))) (h2 : ¬ c < 128) : num i acc (c :: cs) = num (i + 1) (acc + c.toNat % 128 * 128 ^ i) cs := by
  rw [num, if_neg h1, if_neg h2]

/-- A fault, if there was none. -/
def failed (code c : Int) : Int := if code = 0 then c else code
/-- The fault at the end. -/
def ended (xs : List Int) (code : Int) : Int := if 0 < xs.length then failed code 5 else code
theorem failed_zero (c : Int) : failed 0 c = c := by simp [failed]
theorem failed_ne {code : Int} (h : code ≠ 0) (c : Int) : failed code c = code := by simp [failed, h]

/-- What Num answers, what is left, the fault. -/
def numA (xs : List Int) (code : Int) : Nat := if code = 0 then (num 0 0 xs).1 else 0
def numL (xs : List Int) (code : Int) : List Int := if code = 0 then xs.drop (num 0 0 xs).2.1 else xs
def numC (xs : List Int) (code : Int) : Int := if code = 0 then (num 0 0 xs).2.2 else code

theorem num_fault : ∀ (xs : List Int) (i acc : Nat), (num i acc xs).2.2 ≠ 0 → (num i acc xs).1 = 0 ∧ (num i acc xs).2.1 = 0
  | [], _, _, _ => by simp [num]
  | c :: cs, i, acc, h => by
    by_cases h1 : (i = 9 ∧ 1 < c) ∨ (0 < i ∧ c = 0)
    · rw [num, if_pos h1]; simp
    · by_cases h2 : c < 128
      · rw [num, if_neg h1, if_pos h2] at h; simp at h
      · rw [num, if_neg h1, if_neg h2] at h ⊢; exact num_fault cs _ _ h
theorem num_size : ∀ (xs : List Int) (i acc : Nat), (num i acc xs).2.2 = 0 → i < (num i acc xs).2.1 ∧ (num i acc xs).2.1 ≤ i + xs.length
  | [], _, _, h => by simp [num] at h
  | c :: cs, i, acc, h => by
    by_cases h1 : (i = 9 ∧ 1 < c) ∨ (0 < i ∧ c = 0)
    · rw [num, if_pos h1] at h; simp at h
    · by_cases h2 : c < 128
      · rw [num, if_neg h1, if_pos h2]; simp
      · rw [num, if_neg h1, if_neg h2] at h ⊢
        have := num_size cs _ _ h
        simp; omega

theorem pow9 : (128 : Nat) ^ 9 = 9223372036854775808 := by decide +kernel
theorem pow_le9 {i : Nat} (h : i ≤ 9) : 128 ^ i ≤ 9223372036854775808 := by
  rw [← pow9]; exact Nat.pow_le_pow_right (by omega) h

/-- Whatever is taken fits into 64 bits. -/
theorem num_fits : ∀ (xs : List Int) (i acc : Nat), (∀ x ∈ xs, 0 ≤ x ∧ x < 256) → i ≤ 9 → acc < 128 ^ i → (num i acc xs).1 < 18446744073709551616
  | [], _, _, _, _, _ => by simp [num]
  | c :: cs, i, acc, hx, hi, ha => by
    have hc := hx c (by simp)
    have h128 : c.toNat % 128 * 128 ^ i ≤ 127 * 128 ^ i := Nat.mul_le_mul_right _ (by omega)
    by_cases h1 : (i = 9 ∧ 1 < c) ∨ (0 < i ∧ c = 0)
    · rw [num, if_pos h1]; simp
    · by_cases h2 : c < 128
      · rw [num, if_neg h1, if_pos h2]
        show acc + c.toNat % 128 * 128 ^ i < _
        by_cases h9 : i = 9
        · subst h9
          rw [pow9] at ha ⊢
          omega
        · have h3 := pow_le9 (i := i + 1) (by omega)
          rw [Nat.pow_succ] at h3
          omega
      · rw [num, if_neg h1, if_neg h2]
        exact num_fits cs (i + 1) _ (fun x h => hx x (by simp [h])) (by omega) (by rw [Nat.pow_succ]; omega)

/-- What is taken is the one way to put it. -/
theorem num_enc : ∀ (xs : List Int) (i acc : Nat), (∀ x ∈ xs, 0 ≤ x ∧ x < 256) → (num i acc xs).2.2 = 0 →
    ∃ k, (num i acc xs).1 = acc + k * 128 ^ i ∧ enc k = xs.take ((num i acc xs).2.1 - i) ∧ (0 < i → 0 < k)
  | [], _, _, _, h => by simp [num] at h
  | c :: cs, i, acc, hx, h => by
    have hc := hx c (by simp)
    by_cases h1 : (i = 9 ∧ 1 < c) ∨ (0 < i ∧ c = 0)
    · rw [num, if_pos h1] at h; simp at h
    · by_cases h2 : c < 128
      · rw [num, if_neg h1, if_pos h2]
        refine ⟨c.toNat, ?_, ?_, by omega⟩
        · show acc + c.toNat % 128 * 128 ^ i = _
          rw [Nat.mod_eq_of_lt (by omega)]
        · show enc c.toNat = List.take (i + 1 - i) (c :: cs)
          rw [enc_lt (by omega), show i + 1 - i = 1 from by omega]
          simp
          omega
      · rw [num, if_neg h1, if_neg h2] at h ⊢
        obtain ⟨k, e1, e2, e3⟩ := num_enc cs (i + 1) _ (fun x h => hx x (by simp [h])) h
        have hs := num_size cs (i + 1) _ h
        have hk := e3 (by omega)
        refine ⟨c.toNat % 128 + 128 * k, ?_, ?_, by omega⟩
        · rw [e1, Nat.pow_succ, Nat.add_mul, Nat.add_assoc, Nat.mul_comm (128 ^ i) 128, ← Nat.mul_assoc, Nat.mul_comm k 128]
        · rw [enc_ge (by omega), show (c.toNat % 128 + 128 * k) / 128 = k from by omega, e2]
          have e4 : ∀ m, i + 1 < m → List.take (m - i) (c :: cs) = c :: List.take (m - (i + 1)) cs := by
            intro m hm
            rw [show m - i = (m - (i + 1)) + 1 from by omega]
            rfl
          rw [e4 _ hs.1]
          congr 1
          omega

/-- What was put is taken as it was. -/
theorem num_back : ∀ (k i acc : Nat) (rest : List Int), i ≤ 9 → k * 128 ^ i < 18446744073709551616 → (0 < i → 0 < k) → num i acc (enc k ++ rest) = (acc + k * 128 ^ i, i + (enc k).length, 0) := by
  intro k
  induction k using Nat.strongRecOn with
  | _ k ih =>
    intro i acc rest hi hk h0
    have h9 : i = 9 → k ≤ 1 := by
      intro h
      subst h
      rw [pow9] at hk
      omega
    by_cases h : k < 128
    · rw [enc_lt h, List.singleton_append, num_last (by omega) (by omega), Int.toNat_natCast, Nat.mod_eq_of_lt h]
      rfl
    · rw [enc_ge (by omega), List.cons_append, num_more (by omega) (by omega), Int.toNat_natCast]
      have e1 : (k % 128 + 128) % 128 = k % 128 := by omega
      have e2 : k % 128 * 128 ^ i + k / 128 * 128 ^ (i + 1) = k * 128 ^ i := by
        rw [Nat.pow_succ, Nat.mul_comm (128 ^ i) 128, ← Nat.mul_assoc, ← Nat.add_mul]
        congr 1
        omega
      rw [e1, ih (k / 128) (by omega) (i + 1) _ rest (by omega) (by omega) (by omega), Nat.add_assoc, e2]
      simp
      omega

theorem numA_fits {xs : List Int} (code : Int) (hx : ∀ x ∈ xs, 0 ≤ x ∧ x < 256) : Fits (numA xs code) := by
  unfold numA Fits
  split
  · exact num_fits xs 0 0 hx (by omega) (by simp)
  · omega

/-- Back from a number that isn't below 0. -/
def zag (n : Nat) : Int := if n % 2 = 1 then -1 - (n / 2 : Nat) else (n / 2 : Nat)
theorem zag_zig (i : Int) : zag (zig i) = i := by
  unfold zig zag; split <;> split <;> omega

/-- A number at the front, put as it is put: it is taken. -/
theorem front (n : Nat) (h : Fits n) (rest : List Int) : numA (enc n ++ rest) 0 = n ∧ numL (enc n ++ rest) 0 = rest ∧ numC (enc n ++ rest) 0 = 0 := by
  have e := num_back n 0 0 rest (by omega) (by have := h.out; omega) (by omega)
  unfold numA numL numC
  simp [e]

/-- The bytes of numbers, one behind the other. -/
def encs (l : List Int) : List Int := l.flatMap fun n => enc n.toNat
def encI (l : List Int) : List Int := l.flatMap fun n => enc (zig n)
theorem encs_nil : encs [] = [] := rfl
theorem encI_nil : encI [] = [] := rfl
theorem encs_cons (n : Int) (l : List Int) : encs (n :: l) = enc n.toNat ++ encs l := by simp [encs]
theorem encI_cons (n : Int) (l : List Int) : encI (n :: l) = enc (zig n) ++ encI l := by simp [encI]
theorem encs_snoc (l : List Int) (n : Int) : encs (l ++ [n]) = encs l ++ enc n.toNat := by simp [encs]
theorem encI_snoc (l : List Int) (n : Int) : encI (l ++ [n]) = encI l ++ enc (zig n) := by simp [encI]
theorem encs_len : ∀ (l : List Int), (∀ n ∈ l, 0 ≤ n ∧ n ≤ 18446744073709551615) → (encs l).length ≤ 10 * l.length
  | [], _ => by simp [encs]
  | n :: l, h => by
    have h1 := encs_len l (fun x hx => h x (by simp [hx]))
    have h2 := h n (by simp)
    have h3 := enc_len10 (n := n.toNat) (by omega)
    rw [encs_cons]; simp; omega
theorem encI_len : ∀ (l : List Int), (∀ n ∈ l, -9223372036854775808 ≤ n ∧ n ≤ 9223372036854775807) → (encI l).length ≤ 10 * l.length
  | [], _ => by simp [encI]
  | n :: l, h => by
    have h1 := encI_len l (fun x hx => h x (by simp [hx]))
    have h2 := h n (by simp)
    have h3 := enc_len10 (zig_lt h2.1 h2.2)
    rw [encI_cons]; simp; omega

end Leb
end Go.Proofs.Ytbjnhicikkjadab
