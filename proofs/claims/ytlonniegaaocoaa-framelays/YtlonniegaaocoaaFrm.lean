/- Plain facts on frames: how bytes are laid, what is taken, all that is taken; nothing of the program is named here. -/
import Derived.Test.YtlonniegaaocoaaMath
import Derived.Test.YtlonniegaaocoaaCrcMath
namespace Go.Proofs.Ytlonniegaaocoaa

/-- Bytes as natural numbers. -/
def nats (xs : List Int) : List Nat := xs.map Int.toNat
/-- The sum of bytes. -/
def sumOf (xs : List Int) : Nat := Crc.sum (nats xs)
theorem sumOf_lt (xs : List Int) (h : ∀ x ∈ xs, 0 ≤ x ∧ x < 256) : sumOf xs < 4294967296 := by
  refine Nat.xor_lt_two_pow (n := 32) (Crc.reg_lt _ (by omega) ?_) (by omega)
  intro b hb
  obtain ⟨x, hx, rfl⟩ := List.mem_map.1 hb
  have := h x hx
  omega

namespace Frm
/-- All of them are bytes. -/
def Bts (xs : List Int) : Prop := ∀ x ∈ xs, 0 ≤ x ∧ x < 256
theorem Bts.app {xs ys : List Int} (h : Bts xs) (h' : Bts ys) : Bts (xs ++ ys) := fun x hx => by
  rcases List.mem_append.1 hx with h1 | h1
  · exact h x h1
  · exact h' x h1
theorem Bts.cons {x : Int} {xs : List Int} (h0 : 0 ≤ x) (h1 : x < 256) (h : Bts xs) : Bts (x :: xs) := fun y hy => by
  rcases List.mem_cons.1 hy with rfl | hy
  · exact ⟨h0, h1⟩
  · exact h y hy
theorem Bts.take {xs : List Int} (h : Bts xs) (n : Nat) : Bts (xs.take n) := fun x hx => h x (List.mem_of_mem_take hx)
theorem Bts.drop {xs : List Int} (h : Bts xs) (n : Nat) : Bts (xs.drop n) := fun x hx => h x (List.mem_of_mem_drop hx)

/-- A number as four bytes, the lowest first. -/
def le4 (n : Nat) : List Int := [((n % 256 : Nat) : Int), ((n / 256 % 256 : Nat) : Int), ((n / 65536 % 256 : Nat) : Int), ((n / 16777216 % 256 : Nat) : Int)]
theorem le4_len (n : Nat) : (le4 n).length = 4 := rfl
theorem le4_bts (n : Nat) : Bts (le4 n) := by
  intro x hx
  simp only [le4, List.mem_cons, List.not_mem_nil, or_false] at hx
  omega

/-- The sum of a kind and of bytes, as a frame has it. -/
def chk (k : Int) (xs : List Int) : List Int := le4 (sumOf (k :: xs))
theorem chk_len (k : Int) (xs : List Int) : (chk k xs).length = 4 := rfl
theorem chk_bts (k : Int) (xs : List Int) : Bts (chk k xs) := le4_bts _

/-- A frame. -/
def lay (k : Int) (xs : List Int) : List Int := 111 :: k :: (Leb.enc xs.length ++ (chk k xs ++ xs))
theorem lay_len (k : Int) (xs : List Int) : (lay k xs).length = 2 + (Leb.enc xs.length).length + 4 + xs.length := by
  simp [lay, chk_len]; omega
theorem lay_bts {k : Int} {xs : List Int} (h0 : 0 ≤ k) (h1 : k < 256) (h : Bts xs) : Bts (lay k xs) :=
  .cons (by omega) (by omega) (.cons h0 h1 (.app (Leb.enc_byte _) (.app (chk_bts _ _) h)))
theorem lay_more {k : Int} {xs : List Int} (h : xs.length ≤ 65536) : (lay k xs).length ≤ 20 + xs.length := by
  have := Leb.enc_len10 (n := xs.length) (by omega)
  rw [lay_len]; omega
theorem lay_pos (k : Int) (xs : List Int) : 7 ≤ (lay k xs).length := by
  have := Leb.enc_pos xs.length
  rw [lay_len]; omega

/-- The bytes in which the length is looked for; the length's number, how many bytes it has, its fault. -/
def front (xs : List Int) : List Int := (xs.drop 2).take 10
def ln (xs : List Int) : Nat := (Leb.num 0 0 (front xs)).1
def ls (xs : List Int) : Nat := (Leb.num 0 0 (front xs)).2.1
def lc (xs : List Int) : Int := (Leb.num 0 0 (front xs)).2.2
/-- What stands where the sum should; where the bytes should. -/
def sm (xs : List Int) : List Int := (xs.drop (2 + ls xs)).take 4
def bd (xs : List Int) : List Int := (xs.drop (2 + ls xs + 4)).take (ln xs)

/-- What is taken: the kind, the bytes, how long all is, the fault. -/
def tk (xs : List Int) : Int × List Int × Nat × Int :=
  if xs.length < 2 then (0, [], 0, 3)
  else if xs.getD 0 0 ≠ 111 then (0, [], 0, 7)
  else if lc xs ≠ 0 then (0, [], 0, lc xs)
  else if 65536 < ln xs then (0, [], 0, 4)
  else if xs.length < 2 + ls xs + 4 + ln xs then (0, [], 0, 3)
  else if sm xs ≠ chk (xs.getD 1 0) (bd xs) then (0, [], 0, 6)
  else (xs.getD 1 0, bd xs, 2 + ls xs + 4 + ln xs, 0)

theorem tk_short {xs : List Int} (h : xs.length < 2) : tk xs = (0, [], 0, 3) := by rw [tk, if_pos h]
theorem tk_magic {xs : List Int} (h : ¬ xs.length < 2) (h1 : xs.getD 0 0 ≠ 111) : tk xs = (0, [], 0, 7) := by rw [tk, if_neg h, if_pos h1]
theorem tk_num {xs : List Int} (h : ¬ xs.length < 2) (h1 : ¬ xs.getD 0 0 ≠ 111) (h2 : lc xs ≠ 0) : tk xs = (0, [], 0, lc xs) := by rw [tk, if_neg h, if_neg h1, if_pos h2]
theorem tk_long {xs : List Int} (h : ¬ xs.length < 2) (h1 : ¬ xs.getD 0 0 ≠ 111) (h2 : ¬ lc xs ≠ 0) (h3 : 65536 < ln xs) : tk xs = (0, [], 0, 4) := by rw [tk, if_neg h, if_neg h1, if_neg h2, if_pos h3]
theorem tk_cut {xs : List Int} (h : ¬ xs.length < 2) (h1 : ¬ xs.getD 0 0 ≠ 111) (h2 : ¬ lc xs ≠ 0) (h3 : ¬ 65536 < ln xs) (h4 : xs.length < 2 + ls xs + 4 + ln xs) : tk xs = (0, [], 0, 3) := by
  rw [tk, if_neg h, if_neg h1, if_neg h2, if_neg h3, if_pos h4]
theorem tk_sum {xs : List Int} (h : ¬ xs.length < 2) (h1 : ¬ xs.getD 0 0 ≠ 111) (h2 : ¬ lc xs ≠ 0) (h3 : ¬ 65536 < ln xs) (h4 : ¬ xs.length < 2 + ls xs + 4 + ln xs) (h5 : sm xs ≠ chk (xs.getD 1 0) (bd xs)) : tk xs = (0, [], 0, 6) := by
  rw [tk, if_neg h, if_neg h1, if_neg h2, if_neg h3, if_neg h4, if_pos h5]
theorem tk_take {xs : List Int} (h : ¬ xs.length < 2) (h1 : ¬ xs.getD 0 0 ≠ 111) (h2 : ¬ lc xs ≠ 0) (h3 : ¬ 65536 < ln xs) (h4 : ¬ xs.length < 2 + ls xs + 4 + ln xs) (h5 : ¬ sm xs ≠ chk (xs.getD 1 0) (bd xs)) :
    tk xs = (xs.getD 1 0, bd xs, 2 + ls xs + 4 + ln xs, 0) := by
  rw [tk, if_neg h, if_neg h1, if_neg h2, if_neg h3, if_neg h4, if_neg h5]

theorem front_len (xs : List Int) : (front xs).length = min 10 (xs.length - 2) := by simp [front]
theorem bd_len {xs : List Int} (h : ¬ xs.length < 2 + ls xs + 4 + ln xs) : (bd xs).length = ln xs := by simp [bd]; omega
theorem sm_len {xs : List Int} (h : ¬ xs.length < 2 + ls xs + 4 + ln xs) : (sm xs).length = 4 := by simp [sm]; omega
theorem ls_le {xs : List Int} (h : lc xs = 0) : 0 < ls xs ∧ ls xs ≤ (front xs).length := by
  have := Leb.num_size (front xs) 0 0 h
  exact ⟨this.1, by have := this.2; unfold ls; omega⟩

/-- Whatever is taken was laid so. -/
theorem tk_laid {xs : List Int} (hb : Bts xs) (h : (tk xs).2.2.2 = 0) :
    xs.take (tk xs).2.2.1 = lay (tk xs).1 (tk xs).2.1 ∧ (tk xs).2.2.1 ≤ xs.length ∧ (tk xs).2.1.length ≤ 65536 ∧ 0 ≤ (tk xs).1 ∧ (tk xs).1 < 256 ∧ Bts (tk xs).2.1 := by
  by_cases h0 : xs.length < 2
  · rw [tk_short h0] at h; simp at h
  by_cases h1 : xs.getD 0 0 ≠ 111
  · rw [tk_magic h0 h1] at h; simp at h
  by_cases h2 : lc xs ≠ 0
  · rw [tk_num h0 h1 h2] at h; exact absurd h h2
  by_cases h3 : 65536 < ln xs
  · rw [tk_long h0 h1 h2 h3] at h; simp at h
  by_cases h4 : xs.length < 2 + ls xs + 4 + ln xs
  · rw [tk_cut h0 h1 h2 h3 h4] at h; simp at h
  by_cases h5 : sm xs ≠ chk (xs.getD 1 0) (bd xs)
  · rw [tk_sum h0 h1 h2 h3 h4 h5] at h; simp at h
  rw [tk_take h0 h1 h2 h3 h4 h5]
  have h2' : lc xs = 0 := by simpa using h2
  have h1' : xs.getD 0 0 = 111 := by simpa using h1
  have h5' : sm xs = chk (xs.getD 1 0) (bd xs) := by simpa using h5
  have hl := ls_le h2'
  have hfl := front_len xs
  have hbl := bd_len h4
  have hk : 0 ≤ xs.getD 1 0 ∧ xs.getD 1 0 < 256 := hb _ (by
    have : 1 < xs.length := by omega
    simp [List.getElem?_eq_getElem this])
  refine ⟨?_, by show 2 + ls xs + 4 + ln xs ≤ _; omega, by show (bd xs).length ≤ _; omega, hk.1, hk.2, (hb.drop _).take _⟩
  show xs.take (2 + ls xs + 4 + ln xs) = lay (xs.getD 1 0) (bd xs)
  obtain ⟨k, e1, e2, _⟩ := Leb.num_enc (front xs) 0 0 ((hb.drop _).take _) h2'
  have ek : k = ln xs := by unfold ln; rw [e1]; simp
  have e3 : Leb.enc (ln xs) = (xs.drop 2).take (ls xs) := by
    rw [← ek, e2]
    show (front xs).take (ls xs) = _
    unfold front
    rw [List.take_take, Nat.min_eq_left (by omega)]
  unfold lay
  rw [hbl, ← h5', e3]
  match xs, h0, h1', h5', hl, hfl, h4 with
  | a :: b :: ys, _, h1', _, hl, hfl, h4 =>
    simp at h1'
    subst h1'
    generalize hn : ln (111 :: b :: ys) = n at *
    generalize hs : ls (111 :: b :: ys) = s at *
    unfold sm bd
    rw [hn, hs]
    rw [show 2 + s + 4 + n = ((s + 4) + n) + 2 from by omega, show 2 + s + 4 = (s + 4) + 2 from by omega, show 2 + s = s + 2 from by omega]
    simp only [List.take_succ_cons, List.drop_succ_cons, List.drop_zero, List.getD_cons_succ, List.getD_cons_zero]
    rw [List.take_add, List.take_add, List.append_assoc]

/-- What was laid is taken as it was, whatever stands behind. -/
theorem tk_lay {k : Int} {xs : List Int} (hl : xs.length ≤ 65536) (rest : List Int) : tk (lay k xs ++ rest) = (k, xs, (lay k xs).length, 0) := by
  have h10 := Leb.enc_len10 (n := xs.length) (by omega)
  have hb := Leb.num_back xs.length 0 0 ((chk k xs ++ (xs ++ rest)).take (10 - (Leb.enc xs.length).length)) (by omega) (by omega) (by omega)
  have ef : front (lay k xs ++ rest) = Leb.enc xs.length ++ (chk k xs ++ (xs ++ rest)).take (10 - (Leb.enc xs.length).length) := by
    simp only [front, lay, List.cons_append, List.drop_succ_cons, List.drop_zero, List.append_assoc]
    rw [List.take_append, List.take_of_length_le h10]
  have en : ln (lay k xs ++ rest) = xs.length := by unfold ln; rw [ef, hb]; simp
  have es : ls (lay k xs ++ rest) = (Leb.enc xs.length).length := by unfold ls; rw [ef, hb]; simp
  have ec : lc (lay k xs ++ rest) = 0 := by unfold lc; rw [ef, hb]
  have e0 : (lay k xs ++ rest).getD 0 0 = 111 := rfl
  have e1 : (lay k xs ++ rest).getD 1 0 = k := rfl
  have hlen : (lay k xs ++ rest).length = 2 + (Leb.enc xs.length).length + 4 + xs.length + rest.length := by rw [List.length_append, lay_len]
  have esm : sm (lay k xs ++ rest) = chk k xs := by
    unfold sm
    rw [es]
    simp only [lay, List.cons_append, show 2 + (Leb.enc xs.length).length = (Leb.enc xs.length).length + 2 from by omega, List.drop_succ_cons, List.append_assoc]
    rw [List.drop_left]
    exact List.take_left' (chk_len k xs)
  have ebd : bd (lay k xs ++ rest) = xs := by
    unfold bd
    rw [es, en]
    simp only [lay, List.cons_append, show 2 + (Leb.enc xs.length).length + 4 = ((Leb.enc xs.length).length + 4) + 2 from by omega, List.drop_succ_cons, List.append_assoc]
    rw [← List.drop_drop, List.drop_left, List.drop_left' (chk_len k xs)]
    exact List.take_left' rfl
  rw [tk_take (by omega) (by rw [e0]; simp) (by rw [ec]; simp) (by omega) (by rw [hlen, es, en]; omega) (by rw [esm, e1, ebd]; simp), e1, ebd, es, en, lay_len]

/-- Bytes of a number that are cut. -/
theorem num_cut : ∀ (k i acc m : Nat), i ≤ 9 → k * 128 ^ i < 18446744073709551616 → (0 < i → 0 < k) → m < (Leb.enc k).length → Leb.num i acc ((Leb.enc k).take m) = (0, 0, 3) := by
  intro k
  induction k using Nat.strongRecOn with
  | _ k ih =>
    intro i acc m hi hk h0 hm
    have h9 : i = 9 → k ≤ 1 := by
      intro h
      subst h
      rw [Leb.pow9] at hk
      omega
    match m with
    | 0 => rfl
    | m + 1 =>
      by_cases h : k < 128
      · rw [Leb.enc_lt h] at hm; simp at hm
      · rw [Leb.enc_ge (by omega)] at hm ⊢
        simp only [List.length_cons] at hm
        rw [List.take_succ_cons, Leb.num_more (by omega) (by omega)]
        refine ih (k / 128) (by omega) (i + 1) _ m (by omega) ?_ (by omega) (by omega)
        have e2 : k / 128 * 128 ^ (i + 1) ≤ k * 128 ^ i := by
          rw [Nat.pow_succ, Nat.mul_comm (128 ^ i) 128, ← Nat.mul_assoc]
          exact Nat.mul_le_mul_right _ (by omega)
        omega

/-- Cut anywhere a frame is short. -/
theorem tk_part {k : Int} {xs : List Int} (hl : xs.length ≤ 65536) (m : Nat) (hm : m < (lay k xs).length) : (tk ((lay k xs).take m)).2.2.2 = 3 := by
  have hlen : ((lay k xs).take m).length = m := by simp; omega
  rw [lay_len] at hm
  have h10 := Leb.enc_len10 (n := xs.length) (by omega)
  by_cases h2 : m < 2
  · rw [tk_short (by omega)]
  obtain ⟨m, rfl⟩ : ∃ j, m = j + 2 := ⟨m - 2, by omega⟩
  have e0 : ((lay k xs).take (m + 2)).getD 0 0 = 111 := rfl
  have ef : front ((lay k xs).take (m + 2)) = ((Leb.enc xs.length ++ (chk k xs ++ xs)).take m).take 10 := by
    simp only [front, lay, List.take_succ_cons, List.drop_succ_cons, List.drop_zero]
  by_cases h3 : m < (Leb.enc xs.length).length
  · have e : front ((lay k xs).take (m + 2)) = (Leb.enc xs.length).take m := by
      rw [ef, List.take_take, Nat.min_eq_right (by omega), List.take_append_of_le_length (by omega)]
    have ec : lc ((lay k xs).take (m + 2)) = 3 := by
      unfold lc; rw [e, num_cut _ 0 0 m (by omega) (by omega) (by omega) h3]
    rw [tk_num (by omega) (by rw [e0]; simp) (by rw [ec]; simp), ec]
  · obtain ⟨rest, hr⟩ : ∃ rest, front ((lay k xs).take (m + 2)) = Leb.enc xs.length ++ rest := by
      rw [ef, List.take_take, List.take_append, List.take_of_length_le (by omega)]
      exact ⟨_, rfl⟩
    have hb := Leb.num_back xs.length 0 0 rest (by omega) (by omega) (by omega)
    have en : ln ((lay k xs).take (m + 2)) = xs.length := by unfold ln; rw [hr, hb]; simp
    have es : ls ((lay k xs).take (m + 2)) = (Leb.enc xs.length).length := by unfold ls; rw [hr, hb]; simp
    have ec : lc ((lay k xs).take (m + 2)) = 0 := by unfold lc; rw [hr, hb]
    rw [tk_cut (by omega) (by rw [e0]; simp) (by rw [ec]; simp) (by omega) (by rw [hlen, es, en]; omega)]

/-- Frames one behind the other. -/
def lays (fs : List (Int × List Int)) : List Int := fs.flatMap fun f => lay f.1 f.2

theorem tk_pos {xs : List Int} (h : (tk xs).2.2.2 = 0) : 6 ≤ (tk xs).2.2.1 ∧ (tk xs).2.2.1 ≤ xs.length := by
  by_cases h0 : xs.length < 2
  · rw [tk_short h0] at h; simp at h
  by_cases h1 : xs.getD 0 0 ≠ 111
  · rw [tk_magic h0 h1] at h; simp at h
  by_cases h2 : lc xs ≠ 0
  · rw [tk_num h0 h1 h2] at h; exact absurd h h2
  by_cases h3 : 65536 < ln xs
  · rw [tk_long h0 h1 h2 h3] at h; simp at h
  by_cases h4 : xs.length < 2 + ls xs + 4 + ln xs
  · rw [tk_cut h0 h1 h2 h3 h4] at h; simp at h
  by_cases h5 : sm xs ≠ chk (xs.getD 1 0) (bd xs)
  · rw [tk_sum h0 h1 h2 h3 h4 h5] at h; simp at h
  rw [tk_take h0 h1 h2 h3 h4 h5]
  simp
  omega

/-- All frames with which bytes begin; how long they are together. -/
def alF : Nat → List Int → List (Int × List Int)
  | 0, _ => []
  | n + 1, xs => if (tk xs).2.2.2 = 0 then ((tk xs).1, (tk xs).2.1) :: alF n (xs.drop (tk xs).2.2.1) else []
def anF : Nat → List Int → Nat
  | 0, _ => 0
  | n + 1, xs => if (tk xs).2.2.2 = 0 then (tk xs).2.2.1 + anF n (xs.drop (tk xs).2.2.1) else 0
def al (xs : List Int) : List (Int × List Int) := alF (xs.length + 1) xs
def an (xs : List Int) : Nat := anF (xs.length + 1) xs

theorem alF_more : ∀ (n m : Nat) (xs : List Int), xs.length < n → xs.length < m → alF n xs = alF m xs ∧ anF n xs = anF m xs
  | 0, _, _, h, _ => absurd h (Nat.not_lt_zero _)
  | _, 0, _, _, h => absurd h (Nat.not_lt_zero _)
  | n + 1, m + 1, xs, hn, hm => by
    unfold alF anF
    by_cases h : (tk xs).2.2.2 = 0
    · have hp := tk_pos h
      have hl : (xs.drop (tk xs).2.2.1).length = xs.length - (tk xs).2.2.1 := List.length_drop
      have ih := alF_more n m (xs.drop (tk xs).2.2.1) (by omega) (by omega)
      rw [if_pos h, if_pos h, if_pos h, if_pos h, ih.1, ih.2]
      exact ⟨rfl, rfl⟩
    · rw [if_neg h, if_neg h, if_neg h, if_neg h]
      exact ⟨rfl, rfl⟩
theorem al_end {xs : List Int} (h : (tk xs).2.2.2 ≠ 0) : al xs = [] ∧ an xs = 0 := by
  unfold al an alF anF
  rw [if_neg h, if_neg h]
  exact ⟨rfl, rfl⟩
theorem al_more {xs : List Int} (h : (tk xs).2.2.2 = 0) : al xs = ((tk xs).1, (tk xs).2.1) :: al (xs.drop (tk xs).2.2.1) ∧ an xs = (tk xs).2.2.1 + an (xs.drop (tk xs).2.2.1) := by
  have hp := tk_pos h
  have hl : (xs.drop (tk xs).2.2.1).length = xs.length - (tk xs).2.2.1 := List.length_drop
  have ih := alF_more xs.length ((xs.drop (tk xs).2.2.1).length + 1) (xs.drop (tk xs).2.2.1) (by omega) (by omega)
  unfold al an
  conv => lhs; lhs; unfold alF
  conv => rhs; lhs; unfold anF
  rw [if_pos h, if_pos h, ih.1, ih.2]
  exact ⟨rfl, rfl⟩

/-- The frames, laid again, are as many bytes, and those. -/
theorem al_laid : ∀ (xs : List Int), Bts xs → lays (al xs) = xs.take (an xs) ∧ an xs ≤ xs.length ∧ (lays (al xs)).length = an xs ∧ ∀ f ∈ al xs, f.2.length ≤ 65536 ∧ 0 ≤ f.1 ∧ f.1 < 256 ∧ Bts f.2 := by
  intro xs
  induction hn : xs.length using Nat.strongRecOn generalizing xs with
  | _ n ih =>
    intro hb
    by_cases h : (tk xs).2.2.2 = 0
    · have hp := tk_pos h
      obtain ⟨e1, e2⟩ := al_more h
      obtain ⟨l1, l2, l3, l4, l5, l6⟩ := tk_laid hb h
      obtain ⟨i1, i2, i3, i4⟩ := ih (xs.drop (tk xs).2.2.1).length (by simp; omega) _ rfl (hb.drop _)
      rw [e1, e2]
      simp at i2
      have hll := congrArg List.length l1
      simp at hll
      refine ⟨?_, by omega, ?_, ?_⟩
      · show lay _ _ ++ lays _ = _
        rw [i1, ← l1, List.take_add]
      · show (lay _ _ ++ lays _).length = _
        rw [List.length_append, i3]
        show (lay (tk xs).1 (tk xs).2.1).length + _ = _
        omega
      · intro f hf
        rcases List.mem_cons.1 hf with rfl | hf
        · exact ⟨l3, l4, l5, l6⟩
        · exact i4 f hf
    · obtain ⟨e1, e2⟩ := al_end h
      rw [e1, e2]
      exact ⟨by simp [lays], by omega, rfl, by simp⟩

/-- Frames that were laid are among them. -/
theorem al_lays (rest : List Int) : ∀ (fs : List (Int × List Int)), (∀ f ∈ fs, f.2.length ≤ 65536) → al (lays fs ++ rest) = fs ++ al rest
  | [], _ => by simp [lays]
  | f :: fs, h => by
    have e : lays (f :: fs) ++ rest = lay f.1 f.2 ++ (lays fs ++ rest) := by simp [lays]
    have ht := tk_lay (k := f.1) (h f (by simp)) (lays fs ++ rest)
    rw [e, (al_more (by rw [ht])).1, ht]
    simp only [List.drop_left]
    rw [al_lays rest fs (fun g hg => h g (by simp [hg]))]
    rfl

theorem lays_snoc (fs : List (Int × List Int)) (f : Int × List Int) : lays (fs ++ [f]) = lays fs ++ lay f.1 f.2 := by simp [lays]
theorem lays_nil : lays [] = [] := rfl
theorem lays_take {fs : List (Int × List Int)} {k : Nat} (h : k < fs.length) : lays (fs.take (k + 1)) = lays (fs.take k) ++ lay (fs.getD k (0, [])).1 (fs.getD k (0, [])).2 := by
  rw [List.take_succ_eq_append_getElem h, lays_snoc]; simp [List.getElem?_eq_getElem h]

/-- Unlike frames: neither begins with the other one. -/
theorem lay_apart {k k' : Int} {xs ys : List Int} (hx : xs.length ≤ 65536) (hy : ys.length ≤ 65536) :
    (lay k xs).take (min (lay k xs).length (lay k' ys).length) = (lay k' ys).take (min (lay k xs).length (lay k' ys).length) ↔ (k = k' ∧ xs = ys) := by
  constructor
  · intro h
    rcases Nat.le_total (lay k xs).length (lay k' ys).length with hle | hle
    · rw [Nat.min_eq_left hle, List.take_of_length_le (Nat.le_refl _)] at h
      have h1 := tk_lay (k := k) hx ((lay k' ys).drop (lay k xs).length)
      have h2 := tk_lay (k := k') hy []
      rw [List.append_nil] at h2
      have e : lay k xs ++ (lay k' ys).drop (lay k xs).length = lay k' ys := by
        conv => lhs; lhs; rw [h]
        exact List.take_append_drop _ _
      rw [e, h2] at h1
      simp only [Prod.mk.injEq] at h1
      exact ⟨h1.1.symm, h1.2.1.symm⟩
    · rw [Nat.min_eq_right hle, List.take_of_length_le (l := lay k' ys) (Nat.le_refl _)] at h
      have h1 := tk_lay (k := k') hy ((lay k xs).drop (lay k' ys).length)
      have h2 := tk_lay (k := k) hx []
      rw [List.append_nil] at h2
      have e : lay k' ys ++ (lay k xs).drop (lay k' ys).length = lay k xs := by
        conv => lhs; lhs; rw [← h]
        exact List.take_append_drop _ _
      rw [e, h2] at h1
      simp only [Prod.mk.injEq] at h1
      exact ⟨h1.1, h1.2.1⟩
  · rintro ⟨rfl, rfl⟩
    rfl

/-- Bytes as long as a frame that are taken as it was are that frame's. -/
theorem tk_same {k : Int} {xs ys : List Int} (hb : Bts ys) (hl : ys.length = (lay k xs).length) (h : tk ys = (k, xs, (lay k xs).length, 0)) : ys = lay k xs := by
  have := (tk_laid hb (by rw [h])).1
  rw [h] at this
  simp only at this
  rwa [List.take_of_length_le (by omega)] at this
/-- The same without a word on how long what is taken is. -/
theorem tk_same' {k : Int} {xs ys : List Int} (hb : Bts ys) (hl : ys.length = (lay k xs).length) (h : (tk ys).2.2.2 = 0) (h1 : (tk ys).1 = k) (h2 : (tk ys).2.1 = xs) : ys = lay k xs := by
  obtain ⟨e, e2, _⟩ := tk_laid hb h
  rw [h1, h2] at e
  have := congrArg List.length e
  simp at this
  rwa [List.take_of_length_le (by omega)] at e
end Frm
end Go.Proofs.Ytlonniegaaocoaa
