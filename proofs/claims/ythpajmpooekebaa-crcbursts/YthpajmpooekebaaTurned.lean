/- Plain facts on bits that are turned one by one within bytes, and on what the sum makes of them. -/
import Derived.Test.YthpajmpooekebaaMore
namespace Go.Proofs.Ythpajmpooekebaa
open Go.RowKit

/-- What is held of the bytes C while bits are turned: which bits part from those of xs, and whether there are any. -/
def Turned (xs C : List Int) (k W i : Nat) (t : Bool) : Prop :=
  C.length = xs.length ∧ (∀ x ∈ C, 0 ≤ x ∧ x < 256) ∧
  (∀ m, m < 8 * xs.length → ((nats C).getD (m / 8) 0).testBit (m % 8) = (((nats xs).getD (m / 8) 0).testBit (m % 8) ^^ (decide (k ≤ m) && decide (m < k + i) && W.testBit (m - k)))) ∧
  (t = true ↔ ∃ j, j < i ∧ W.testBit j = true ∧ k + j < 8 * xs.length)

theorem Turned.start {xs : List Int} (k W : Nat) (h : ∀ x ∈ xs, 0 ≤ x ∧ x < 256) : Turned xs xs k W 0 false := by
  refine ⟨rfl, h, fun m hm => ?_, by simp⟩
  by_cases h1 : k ≤ m
  · have : ¬ m < k := by omega
    simp [this]
  · simp [h1]

theorem Turned.stay {xs C : List Int} {k W i : Nat} {t : Bool} (h : Turned xs C k W i t) (hs : W.testBit i = false ∨ 8 * xs.length ≤ k + i) : Turned xs C k W (i + 1) t := by
  obtain ⟨h1, h2, h3, h4⟩ := h
  refine ⟨h1, h2, fun m hm => ?_, ?_⟩
  · rw [h3 m hm]
    congr 1
    by_cases e : m = k + i
    · subst e
      rcases hs with hs | hs
      · simp [hs]
      · omega
    · have : decide (m < k + i) = decide (m < k + (i + 1)) := by
        by_cases g : m < k + i
        · simp [g]; omega
        · simp [g]; omega
      rw [this]
  · rw [h4]
    constructor
    · rintro ⟨j, a, b, c⟩
      exact ⟨j, by omega, b, c⟩
    · rintro ⟨j, a, b, c⟩
      refine ⟨j, ?_, b, c⟩
      by_cases e : j = i
      · subst e
        rcases hs with hs | hs
        · rw [hs] at b; simp at b
        · omega
      · omega

theorem nats_length (xs : List Int) : (nats xs).length = xs.length := by simp [nats]
theorem nats_get {xs : List Int} (h : ∀ x ∈ xs, 0 ≤ x ∧ x < 256) (q : Nat) (hq : q < xs.length) : ∃ c : Nat, c < 256 ∧ xs[q] = (c : Int) ∧ (nats xs).getD q 0 = c := by
  have := h xs[q] (List.getElem_mem hq)
  obtain ⟨c, hc⟩ := Int.eq_ofNat_of_zero_le this.1
  refine ⟨c, by omega, hc, ?_⟩
  simp [nats, List.getElem?_eq_getElem hq, hc]

theorem Turned.flip {xs C : List Int} {k W i : Nat} {t : Bool} (h : Turned xs C k W i t) (hb : W.testBit i = true) (hin : k + i < 8 * xs.length) (hq : (k + i) / 8 < C.length) :
    Turned xs (C.set ((k + i) / 8) (bits .xor .u8 C[(k + i) / 8] (2 ^ ((k + i) % 8) % 256))) k W (i + 1) true := by
  obtain ⟨h1, h2, h3, h4⟩ := h
  obtain ⟨c, hc, e1, e2⟩ := nats_get h2 _ hq
  have hr : (k + i) % 8 < 8 := by omega
  have hp : 2 ^ ((k + i) % 8) < 256 := Nat.lt_of_lt_of_le (Nat.pow_lt_pow_right (by omega) hr) (by decide)
  have ev : bits .xor .u8 C[(k + i) / 8] (2 ^ ((k + i) % 8) % 256) = ((c ^^^ 2 ^ ((k + i) % 8) : Nat) : Int) := by
    have : ((2 : Int) ^ ((k + i) % 8) % 256) = ((2 ^ ((k + i) % 8) : Nat) : Int) := by
      have e3 : (2 : Int) ^ ((k + i) % 8) = ((2 ^ ((k + i) % 8) : Nat) : Int) := by rw [Int.natCast_pow]; rfl
      rw [e3]
      generalize 2 ^ ((k + i) % 8) = u at *
      omega
    rw [e1, this, u8_xor_nat _ _ hc hp]
  have hx : c ^^^ 2 ^ ((k + i) % 8) < 256 := Nat.xor_lt_two_pow (n := 8) hc hp
  rw [ev]
  have en : nats (C.set ((k + i) / 8) ((c ^^^ 2 ^ ((k + i) % 8) : Nat) : Int)) = (nats C).set ((k + i) / 8) (c ^^^ 2 ^ ((k + i) % 8)) := by
    simp [nats, List.map_set]
  refine ⟨by simp [h1], ?_, ?_, ?_⟩
  · intro x hx'
    rcases List.mem_or_eq_of_mem_set hx' with g | g
    · exact h2 x g
    · subst g; omega
  · intro m hm
    rw [en]
    have h3m := h3 m hm
    have key : (((nats C).set ((k + i) / 8) (c ^^^ 2 ^ ((k + i) % 8))).getD (m / 8) 0).testBit (m % 8) = (((nats C).getD (m / 8) 0).testBit (m % 8) ^^ decide (m = k + i)) := by
      by_cases g : m / 8 = (k + i) / 8
      · rw [g, e2, List.getD_eq_getElem?_getD, List.getElem?_set_self (by rw [nats_length]; exact hq), Option.getD_some, Nat.testBit_xor, Nat.testBit_two_pow]
        congr 1
        by_cases e : m = k + i
        · subst e; simp
        · have : ¬ (k + i) % 8 = m % 8 := by omega
          simp [e, this]
      · have : m ≠ k + i := fun e => g (by rw [e])
        rw [List.getD_eq_getElem?_getD, List.getElem?_set_ne (fun e => g e.symm), ← List.getD_eq_getElem?_getD]
        simp [this]
    rw [key, h3m, Bool.xor_assoc]
    congr 1
    by_cases e : m = k + i
    · subst e
      have a : ¬ k + i < k + i := by omega
      simp [hb]
    · have : decide (m < k + i) = decide (m < k + (i + 1)) := by
        by_cases g : m < k + i
        · simp [g]; omega
        · simp [g]; omega
      simp [e, this]
  · constructor
    · intro _
      exact ⟨i, by omega, hb, hin⟩
    · intro _
      rfl

theorem nats_lt {xs : List Int} (h : ∀ x ∈ xs, 0 ≤ x ∧ x < 256) : ∀ b ∈ nats xs, b < 256 := by
  intro b hb
  obtain ⟨x, hx, rfl⟩ := List.mem_map.1 hb
  have := h x hx
  omega

theorem nats_getD_lt {xs : List Int} (h : ∀ x ∈ xs, 0 ≤ x ∧ x < 256) (q : Nat) : (nats xs).getD q 0 < 256 := by
  by_cases hq : q < xs.length
  · obtain ⟨c, hc, _, e⟩ := nats_get h q hq
    omega
  · rw [List.getD_eq_getElem?_getD, List.getElem?_eq_none (by rw [nats_length]; omega)]
    simp

theorem Turned.end {xs C : List Int} {k W : Nat} {t : Bool} (h : Turned xs C k W 32 t) (hx : ∀ x ∈ xs, 0 ≤ x ∧ x < 256) : (sumOf C ≠ sumOf xs) ↔ t = true := by
  obtain ⟨h1, h2, h3, h4⟩ := h
  have hl : (nats C).length = (nats xs).length := by rw [nats_length, nats_length, h1]
  have r := Crc.reg_lin (nats C) (nats xs) 4294967295 4294967295 hl
  rw [Nat.xor_self] at r
  constructor
  · intro hne
    apply Classical.byContradiction
    intro ht
    apply hne
    have hno : ∀ j, j < 32 → k + j < 8 * xs.length → W.testBit j = false := by
      intro j hj hk
      rcases Bool.eq_false_or_eq_true (W.testBit j) with g | g
      · exact absurd (h4.2 ⟨j, hj, g, hk⟩) ht
      · exact g
    have e : nats C = nats xs := by
      apply List.ext_getElem
      · exact hl
      · intro q g1 g2
        have hq : q < xs.length := by rw [nats_length] at g2; exact g2
        have b1 := nats_getD_lt h2 q
        have b2 := nats_getD_lt hx q
        have ee : (nats C).getD q 0 = (nats xs).getD q 0 := by
          apply Nat.eq_of_testBit_eq
          intro r
          by_cases hr : r < 8
          · have := h3 (8 * q + r) (by omega)
            rw [show (8 * q + r) / 8 = q from by omega, show (8 * q + r) % 8 = r from by omega] at this
            rw [this]
            by_cases gk : k ≤ 8 * q + r
            · by_cases g32 : 8 * q + r < k + 32
              · have := hno (8 * q + r - k) (by omega) (by omega)
                simp [this]
              · simp [g32]
            · simp [gk]
          · have p8 : 256 ≤ 2 ^ r := by
              have := Nat.pow_le_pow_right (n := 2) (by omega) (show 8 ≤ r by omega)
              omega
            rw [Nat.testBit_lt_two_pow (by omega), Nat.testBit_lt_two_pow (by omega)]
        simpa [List.getD_eq_getElem?_getD, List.getElem?_eq_getElem g1, List.getElem?_eq_getElem g2] using ee
    unfold sumOf
    rw [e]
  · intro ht heq
    obtain ⟨j, hj, hWj, hkj⟩ := h4.1 ht
    have hd : ∀ b ∈ (nats C).zipWith (· ^^^ ·) (nats xs), b < 256 := by
      intro b hb
      obtain ⟨q, hq, rfl⟩ := List.mem_iff_getElem.1 hb
      simp only [List.length_zipWith] at hq
      rw [List.getElem_zipWith]
      exact Nat.xor_lt_two_pow (n := 8) (nats_lt h2 _ (List.getElem_mem _)) (nats_lt hx _ (List.getElem_mem _))
    have hlen : ((nats C).zipWith (· ^^^ ·) (nats xs)).length = xs.length := by
      rw [List.length_zipWith, nats_length, nats_length]; omega
    refine Crc.seen ((nats C).zipWith (· ^^^ ·) (nats xs)) k (fun j => W.testBit j) hd ?_ ⟨j, hj, hWj, by rw [hlen]; exact hkj⟩ ?_
    · intro m hm
      rw [hlen] at hm
      have q1 : m / 8 < (nats C).length := by rw [nats_length]; omega
      have q2 : m / 8 < (nats xs).length := by rw [nats_length]; omega
      have := h3 m hm
      simp only [List.getD_eq_getElem?_getD, List.getElem?_zipWith, List.getElem?_eq_getElem q1, List.getElem?_eq_getElem q2, Option.getD_some] at this ⊢
      rw [Nat.testBit_xor, this]
      generalize ((nats xs)[m / 8]).testBit (m % 8) = u
      generalize (decide (k ≤ m) && decide (m < k + 32) && W.testBit (m - k)) = v
      cases u <;> cases v <;> rfl
    · rw [r]
      unfold sumOf Crc.sum at heq
      have : Crc.reg 4294967295 (nats C) = Crc.reg 4294967295 (nats xs) := by
        have := congrArg (fun n => n ^^^ 4294967295) heq
        simpa [Nat.xor_assoc] using this
      rw [this, Nat.xor_self]
end Go.Proofs.Ythpajmpooekebaa
