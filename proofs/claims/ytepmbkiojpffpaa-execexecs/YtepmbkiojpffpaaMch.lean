/- Code over registers and slots in plain mathematics: its faults, and what they say. -/
import Derived.Test.YtepmbkiojpffpaaIr
namespace Go.Proofs.Ytepmbkiojpffpaa.Ir

structure Cod where
  p : Int
  r : Int
  s : Int
  bs : List Blk
/-- An error over vregs, said of registers. -/
def ofR (x : Int) : Int := if x = 21 then 23 else x
/-- The fault of a spill or a fill, between a register and a slot. -/
def slF (i : Ins) (reg r slot s : Int) : Int := if i.op = 0 ∧ i.b = 0 ∧ i.n = 0 ∧ i.args.length = 0 then (if inr reg r = false then 23 else if inr slot s = false then 24 else 0) else 20
def mF (i : Ins) (r s : Int) : Int := if i.k = 7 then slF i i.a r i.d s else if i.k = 8 then slF i i.d r i.a s else ofR (inF i r)
def meF (e : En) (r nb : Int) : Int := ofR (endF e r nb)
def mFs (r s : Int) : List Ins → Nat → Int × Int
  | [], _ => (0, 0)
  | i :: l, n => if mF i r s = 0 then mFs r s l (n + 1) else (mF i r s, (n : Int))
def mbF (b : Blk) (r s nb : Int) : Int × Int :=
  if 400 < b.ins.length then (9, -1) else if (mFs r s b.ins 0).1 = 0 then (meF b.e r nb, (b.ins.length : Int)) else mFs r s b.ins 0
def mbs (r s nb : Int) : List Blk → Nat → Int × Int × Int
  | [], _ => (0, 0, 0)
  | b :: l, n => if (mbF b r s nb).1 = 0 then mbs r s nb l (n + 1) else ((mbF b r s nb).1, (n : Int), (mbF b r s nb).2)
def msz (C : Cod) : Bool := decide (0 ≤ C.p ∧ C.p ≤ 4 ∧ 3 ≤ C.r ∧ C.r ≤ 8 ∧ C.p ≤ C.s ∧ C.s ≤ 64 ∧ 1 ≤ C.bs.length ∧ C.bs.length ≤ 16)
def mchk (C : Cod) : Int × Int × Int := if msz C = false then (2, -1, -1) else mbs C.r C.s C.bs.length C.bs 0

theorem mFs_step {r s : Int} {l : List Ins} {i : Nat} (h : i < l.length) :
    mFs r s (l.drop i) i = if mF (l.getD i Ins.zero) r s = 0 then mFs r s (l.drop (i + 1)) (i + 1) else (mF (l.getD i Ins.zero) r s, (i : Int)) := by
  rw [List.drop_eq_getElem_cons h]
  simp [mFs, List.getElem?_eq_getElem h]
theorem mFs_end {r s : Int} {l : List Ins} : mFs r s (l.drop l.length) l.length = (0, 0) := by simp [mFs]
theorem mbs_step {r s nb : Int} {l : List Blk} {i : Nat} (h : i < l.length) :
    mbs r s nb (l.drop i) i = if (mbF (l.getD i Blk.zero) r s nb).1 = 0 then mbs r s nb (l.drop (i + 1)) (i + 1) else ((mbF (l.getD i Blk.zero) r s nb).1, (i : Int), (mbF (l.getD i Blk.zero) r s nb).2) := by
  rw [List.drop_eq_getElem_cons h]
  simp [mbs, List.getElem?_eq_getElem h]
theorem mbs_end {r s nb : Int} {l : List Blk} : mbs r s nb (l.drop l.length) l.length = (0, 0, 0) := by simp [mbs]

theorem mFs_zero {r s : Int} : ∀ {l : List Ins} {n : Nat}, (∀ i ∈ l, mF i r s = 0) → mFs r s l n = (0, 0)
  | [], _, _ => rfl
  | i :: l, n, h => by
    simp only [mFs, h i (by simp), if_true]
    exact mFs_zero fun j hj => h j (by simp [hj])
theorem mFs_all {r s : Int} : ∀ {l : List Ins} {n : Nat}, (mFs r s l n).1 = 0 → ∀ i ∈ l, mF i r s = 0
  | [], _, _, i, h => by simp at h
  | j :: l, n, h, i, hi => by
    simp only [mFs] at h
    by_cases e : mF j r s = 0
    · rw [if_pos e] at h
      rcases List.mem_cons.1 hi with rfl | hi
      · exact e
      · exact mFs_all h i hi
    · rw [if_neg e] at h
      exact absurd h e
theorem mbF_zero {b : Blk} {r s nb : Int} (h1 : b.ins.length ≤ 400) (h2 : ∀ i ∈ b.ins, mF i r s = 0) (h3 : meF b.e r nb = 0) : (mbF b r s nb).1 = 0 := by
  unfold mbF
  rw [if_neg (by omega), mFs_zero h2]
  simp [h3]
theorem mbF_all {b : Blk} {r s nb : Int} (h : (mbF b r s nb).1 = 0) : b.ins.length ≤ 400 ∧ (∀ i ∈ b.ins, mF i r s = 0) ∧ meF b.e r nb = 0 := by
  unfold mbF at h
  by_cases e : 400 < b.ins.length
  · rw [if_pos e] at h
    simp at h
  · rw [if_neg e] at h
    by_cases e2 : (mFs r s b.ins 0).1 = 0
    · rw [if_pos e2] at h
      exact ⟨by omega, mFs_all e2, h⟩
    · rw [if_neg e2] at h
      exact absurd h e2
theorem mbF_ins {b : Blk} {r s nb : Int} (h : ¬ 400 < b.ins.length) : mbF b r s nb = if (mFs r s b.ins 0).1 = 0 then (meF b.e r nb, (b.ins.length : Int)) else mFs r s b.ins 0 := by
  unfold mbF
  rw [if_neg h]
theorem mbs_zero {r s nb : Int} : ∀ {l : List Blk} {n : Nat}, (∀ b ∈ l, (mbF b r s nb).1 = 0) → mbs r s nb l n = (0, 0, 0)
  | [], _, _ => rfl
  | i :: l, n, h => by
    simp only [mbs, h i (by simp), if_true]
    exact mbs_zero fun j hj => h j (by simp [hj])
theorem mbs_all {r s nb : Int} : ∀ {l : List Blk} {n : Nat}, (mbs r s nb l n).1 = 0 → ∀ b ∈ l, (mbF b r s nb).1 = 0
  | [], _, _, i, h => by simp at h
  | j :: l, n, h, i, hi => by
    simp only [mbs] at h
    by_cases e : (mbF j r s nb).1 = 0
    · rw [if_pos e] at h
      rcases List.mem_cons.1 hi with rfl | hi
      · exact e
      · exact mbs_all h i hi
    · rw [if_neg e] at h
      exact absurd h e
theorem mchk_zero {C : Cod} (h : msz C = true) (hb : ∀ b ∈ C.bs, (mbF b C.r C.s C.bs.length).1 = 0) : mchk C = (0, 0, 0) := by
  unfold mchk
  rw [if_neg (by simp [h]), mbs_zero hb]
theorem mchk_all {C : Cod} (h : (mchk C).1 = 0) : msz C = true ∧ ∀ b ∈ C.bs, (mbF b C.r C.s C.bs.length).1 = 0 := by
  unfold mchk at h
  by_cases e : msz C = false
  · rw [if_pos e] at h
    simp at h
  · rw [if_neg e] at h
    exact ⟨by simpa using e, mbs_all h⟩

theorem ofR_zero {x : Int} : ofR x = 0 ↔ x = 0 := by
  unfold ofR
  split <;> omega
theorem slF_all {i : Ins} {reg r slot s : Int} (h : slF i reg r slot s = 0) : (i.op = 0 ∧ i.b = 0 ∧ i.n = 0 ∧ i.args.length = 0) ∧ (0 ≤ reg ∧ reg < r) ∧ (0 ≤ slot ∧ slot < s) := by
  unfold slF at h
  by_cases e : i.op = 0 ∧ i.b = 0 ∧ i.n = 0 ∧ i.args.length = 0
  · rw [if_pos e] at h
    by_cases e1 : inr reg r = false
    · rw [if_pos e1] at h
      omega
    · rw [if_neg e1] at h
      by_cases e2 : inr slot s = false
      · rw [if_pos e2] at h
        omega
      · exact ⟨e, by simpa [inr] using e1, by simpa [inr] using e2⟩
  · rw [if_neg e] at h
    omega
theorem slF_zero {i : Ins} {reg r slot s : Int} (h : i.op = 0 ∧ i.b = 0 ∧ i.n = 0 ∧ i.args.length = 0) (h1 : 0 ≤ reg ∧ reg < r) (h2 : 0 ≤ slot ∧ slot < s) : slF i reg r slot s = 0 := by
  unfold slF
  rw [if_pos h, if_neg (by simp [inr, h1]), if_neg (by simp [inr, h2])]
theorem mF_mono {i : Ins} {r s r' s' : Int} (h : mF i r s = 0) (hr : r ≤ r') (hs : s ≤ s') : mF i r' s' = 0 := by
  unfold mF at h ⊢
  by_cases k7 : i.k = 7
  · rw [if_pos k7] at h ⊢
    obtain ⟨h1, h2, h3⟩ := slF_all h
    exact slF_zero h1 (by omega) (by omega)
  · rw [if_neg k7] at h ⊢
    by_cases k8 : i.k = 8
    · rw [if_pos k8] at h ⊢
      obtain ⟨h1, h2, h3⟩ := slF_all h
      exact slF_zero h1 (by omega) (by omega)
    · rw [if_neg k8] at h ⊢
      exact ofR_zero.2 (inF_mono (ofR_zero.1 h) hr)
theorem meF_mono {e : En} {r r' nb : Int} (h : meF e r nb = 0) (hr : r ≤ r') : meF e r' nb = 0 :=
  ofR_zero.2 (endF_mono (ofR_zero.1 h) hr (Int.le_refl _))
theorem mbF_mono {b : Blk} {r s r' s' nb : Int} (h : (mbF b r s nb).1 = 0) (hr : r ≤ r') (hs : s ≤ s') : (mbF b r' s' nb).1 = 0 := by
  obtain ⟨h1, h2, h3⟩ := mbF_all h
  exact mbF_zero h1 (fun i hi => mF_mono (h2 i hi) hr hs) (meF_mono h3 hr)
/-- Code that is taken stays taken with more registers and slots. -/
theorem mchk_more {C : Cod} (h : (mchk C).1 = 0) : mchk ⟨C.p, min (C.r + 1) 8, min (C.s + 3) 64, C.bs⟩ = (0, 0, 0) := by
  obtain ⟨h1, h2⟩ := mchk_all h
  simp only [msz, decide_eq_true_eq] at h1
  refine mchk_zero ?_ fun b hb => ?_
  · simp only [msz, decide_eq_true_eq]
    omega
  · exact mbF_mono (h2 b hb) (by simp only; omega) (by simp only; omega)
/-- What a spill or a fill of such code names. -/
theorem mchk_slot {C : Cod} (h : (mchk C).1 = 0) {b : Blk} (hb : b ∈ C.bs) {i : Ins} (hi : i ∈ b.ins) : (i.k = 8 → (0 ≤ i.d ∧ i.d < C.r) ∧ (0 ≤ i.a ∧ i.a < C.s)) ∧ (i.k = 7 → (0 ≤ i.a ∧ i.a < C.r) ∧ (0 ≤ i.d ∧ i.d < C.s)) := by
  obtain ⟨_, h2⟩ := mchk_all h
  have h3 := (mbF_all (h2 b hb)).2.1 i hi
  unfold mF at h3
  refine ⟨fun k => ?_, fun k => ?_⟩
  · rw [if_neg (by omega), if_pos k] at h3
    exact (slF_all h3).2
  · rw [if_pos k] at h3
    exact (slF_all h3).2
theorem inF_kind {i : Ins} {v : Int} (h : inF i v = 0) : i.k ≠ 7 ∧ i.k ≠ 8 := by
  have := (inF_all h).1
  unfold formed at this
  constructor
  · intro e
    simp [e] at this
  · intro e
    simp [e] at this
theorem mF_plain {i : Ins} {r s : Int} (h : inF i r = 0) : mF i r s = 0 := by
  obtain ⟨h1, h2⟩ := inF_kind h
  unfold mF
  rw [if_neg h1, if_neg h2]
  exact ofR_zero.2 h
/-- An instruction alone in a function that has nothing else to be wrong. -/
theorem chk_one {i : Ins} {r : Int} (h0 : 0 ≤ r) (h1 : r ≤ 32) : (chk ⟨0, r, [⟨[i], ⟨1, 0, 0, 0⟩⟩]⟩).1 = inF i r := by
  have hs : sized ⟨0, r, [⟨[i], ⟨1, 0, 0, 0⟩⟩]⟩ = true := by
    simp only [sized, decide_eq_true_eq, List.length_cons, List.length_nil]
    omega
  have he : endF ⟨1, 0, 0, 0⟩ r 1 = 0 := by simp [endF, endFormed, takes, targets, inr]
  unfold chk
  rw [if_neg (by simp [hs])]
  by_cases hz : inF i r = 0
  · simp [blks, blkF, insFs, hz, he]
  · simp [blks, blkF, insFs, hz]
/-- A spill or a fill put first. -/
theorem mchk_first {C : Cod} {i : Ins} {is : List Ins} {e : En} {l : List Blk} (hb : C.bs = ⟨is, e⟩ :: l) (h : (mchk C).1 = 0) (hl : is.length < 400) :
    mchk ⟨C.p, C.r, C.s, ⟨i :: is, e⟩ :: l⟩ = (mF i C.r C.s, 0, 0) := by
  obtain ⟨h1, h2⟩ := mchk_all h
  obtain ⟨p, r, s, bs⟩ := C
  simp only at hb h1 h2 ⊢
  subst hb
  have hs : msz ⟨p, r, s, ⟨i :: is, e⟩ :: l⟩ = true := by
    simp only [msz, decide_eq_true_eq, List.length_cons] at h1 ⊢
    omega
  by_cases hz : mF i r s = 0
  · rw [hz]
    refine mchk_zero hs fun b hb => ?_
    simp only [List.length_cons] at h2 ⊢
    rcases List.mem_cons.1 hb with rfl | hb
    · obtain ⟨g1, g2, g3⟩ := mbF_all (h2 ⟨is, e⟩ (by simp))
      refine mbF_zero ?_ ?_ g3
      · simp only [List.length_cons]
        omega
      · intro j hj
        rcases List.mem_cons.1 hj with rfl | hj
        · exact hz
        · exact g2 j hj
    · exact h2 b (by simp [hb])
  · unfold mchk
    rw [if_neg (by simp [hs])]
    have hm : mFs r s (i :: is) 0 = (mF i r s, 0) := by simp [mFs, hz]
    have : mbF ⟨i :: is, e⟩ r s (l.length + 1 : Nat) = (mF i r s, 0) := by
      rw [mbF_ins (by simp only [List.length_cons]; omega), hm]
      rw [if_neg hz]
    simp only [List.length_cons, mbs]
    rw [this]
    rw [if_neg hz]
    rfl
end Go.Proofs.Ytepmbkiojpffpaa.Ir
