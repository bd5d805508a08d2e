/- Functions over vregs in plain mathematics: what instructions take and give, their faults, and functions that are made out of bytes: these are right. -/
import Derived.WalkKit
namespace Go.Proofs.Ytepmbkiojpffpaa.Ir

structure Ins where
  k : Int
  op : Int
  d : Int
  a : Int
  b : Int
  n : Int
  args : List Int
structure En where
  k : Int
  a : Int
  to : Int
  el : Int
structure Blk where
  ins : List Ins
  e : En
structure Fun where
  p : Int
  v : Int
  bs : List Blk
def Ins.zero : Ins := ⟨0, 0, 0, 0, 0, 0, []⟩
def En.zero : En := ⟨0, 0, 0, 0⟩
def Blk.zero : Blk := ⟨[], En.zero⟩

def inr (x m : Int) : Bool := decide (0 ≤ x) && decide (x < m)
def uses (i : Ins) : List Int := if i.k = 2 ∨ i.k = 4 ∨ i.k = 7 then [i.a] else if i.k = 3 ∨ i.k = 5 then [i.a, i.b] else if i.k = 6 then i.args else []
def gives (k : Int) : Bool := decide (k = 1 ∨ k = 2 ∨ k = 3 ∨ k = 4 ∨ k = 6 ∨ k = 8)
def takes (k : Int) : Bool := decide (k = 2 ∨ k = 3)
def formed (i : Ins) : Bool :=
  if i.k = 1 then decide (i.op = 0 ∧ i.args.length = 0 ∧ i.a = 0 ∧ i.b = 0)
  else if i.k = 2 ∨ i.k = 4 then decide (i.op = 0 ∧ i.args.length = 0 ∧ i.b = 0 ∧ i.n = 0)
  else if i.k = 3 then decide (1 ≤ i.op ∧ i.op ≤ 7 ∧ i.n = 0 ∧ i.args.length = 0)
  else if i.k = 5 then decide (i.op = 0 ∧ i.args.length = 0 ∧ i.d = 0 ∧ i.n = 0)
  else if i.k = 6 then decide (i.op = 0 ∧ i.a = 0 ∧ i.b = 0)
  else false
/-- All that an instruction takes and gives. -/
def named (i : Ins) : List Int := uses i ++ (if gives i.k then [i.d] else [])
def inF (i : Ins) (v : Int) : Int := if formed i = false then 20 else if 3 < i.args.length then 25 else if (named i).all (inr · v) then 0 else 21
def endFormed (e : En) : Bool := if e.k = 1 then decide (e.a = 0 ∧ e.el = 0) else if e.k = 2 then true else if e.k = 3 then decide (e.to = 0 ∧ e.el = 0) else false
def targets (e : En) : List Int := if e.k = 1 then [e.to] else if e.k = 2 then [e.to, e.el] else []
def endF (e : En) (v nb : Int) : Int :=
  if endFormed e = false then 20 else if takes e.k = true ∧ inr e.a v = false then 21 else if (targets e).all (inr · nb) then 0 else 22
def insFs (v : Int) : List Ins → Nat → Int × Int
  | [], _ => (0, 0)
  | i :: r, n => if inF i v = 0 then insFs v r (n + 1) else (inF i v, (n : Int))
def blkF (b : Blk) (v nb : Int) : Int × Int :=
  if 32 < b.ins.length then (9, -1) else if (insFs v b.ins 0).1 = 0 then (endF b.e v nb, (b.ins.length : Int)) else insFs v b.ins 0
def blks (v nb : Int) : List Blk → Nat → Int × Int × Int
  | [], _ => (0, 0, 0)
  | b :: r, n => if (blkF b v nb).1 = 0 then blks v nb r (n + 1) else ((blkF b v nb).1, (n : Int), (blkF b v nb).2)
def sized (F : Fun) : Bool := decide (0 ≤ F.p ∧ F.p ≤ 4 ∧ F.p ≤ F.v ∧ F.v ≤ 32 ∧ 1 ≤ F.bs.length ∧ F.bs.length ≤ 16)
def chk (F : Fun) : Int × Int × Int := if sized F = false then (2, -1, -1) else blks F.v F.bs.length F.bs 0

theorem insFs_step {v : Int} {l : List Ins} {i : Nat} (h : i < l.length) :
    insFs v (l.drop i) i = if inF (l.getD i Ins.zero) v = 0 then insFs v (l.drop (i + 1)) (i + 1) else (inF (l.getD i Ins.zero) v, (i : Int)) := by
  rw [List.drop_eq_getElem_cons h]
  simp [insFs, List.getElem?_eq_getElem h]
theorem insFs_end {v : Int} {l : List Ins} : insFs v (l.drop l.length) l.length = (0, 0) := by simp [insFs]
theorem blks_step {v nb : Int} {l : List Blk} {i : Nat} (h : i < l.length) :
    blks v nb (l.drop i) i = if (blkF (l.getD i Blk.zero) v nb).1 = 0 then blks v nb (l.drop (i + 1)) (i + 1) else ((blkF (l.getD i Blk.zero) v nb).1, (i : Int), (blkF (l.getD i Blk.zero) v nb).2) := by
  rw [List.drop_eq_getElem_cons h]
  simp [blks, List.getElem?_eq_getElem h]
theorem blks_end {v nb : Int} {l : List Blk} : blks v nb (l.drop l.length) l.length = (0, 0, 0) := by simp [blks]

theorem insFs_zero {v : Int} : ∀ {l : List Ins} {n : Nat}, (∀ i ∈ l, inF i v = 0) → insFs v l n = (0, 0)
  | [], _, _ => rfl
  | i :: r, n, h => by
    simp only [insFs, h i (by simp), if_true]
    exact insFs_zero fun j hj => h j (by simp [hj])
theorem insFs_all {v : Int} : ∀ {l : List Ins} {n : Nat}, (insFs v l n).1 = 0 → ∀ i ∈ l, inF i v = 0
  | [], _, _, i, h => by simp at h
  | j :: r, n, h, i, hi => by
    simp only [insFs] at h
    by_cases e : inF j v = 0
    · rw [if_pos e] at h
      rcases List.mem_cons.1 hi with rfl | hi
      · exact e
      · exact insFs_all h i hi
    · rw [if_neg e] at h
      exact absurd h e
theorem blkF_zero {b : Blk} {v nb : Int} (h1 : b.ins.length ≤ 32) (h2 : ∀ i ∈ b.ins, inF i v = 0) (h3 : endF b.e v nb = 0) : (blkF b v nb).1 = 0 := by
  unfold blkF
  rw [if_neg (by omega), insFs_zero h2]
  simp [h3]
theorem blkF_all {b : Blk} {v nb : Int} (h : (blkF b v nb).1 = 0) : b.ins.length ≤ 32 ∧ (∀ i ∈ b.ins, inF i v = 0) ∧ endF b.e v nb = 0 := by
  unfold blkF at h
  by_cases e : 32 < b.ins.length
  · rw [if_pos e] at h
    simp at h
  · rw [if_neg e] at h
    by_cases e2 : (insFs v b.ins 0).1 = 0
    · rw [if_pos e2] at h
      exact ⟨by omega, insFs_all e2, h⟩
    · rw [if_neg e2] at h
      exact absurd h e2
theorem blks_zero {v nb : Int} : ∀ {l : List Blk} {n : Nat}, (∀ b ∈ l, (blkF b v nb).1 = 0) → blks v nb l n = (0, 0, 0)
  | [], _, _ => rfl
  | i :: r, n, h => by
    simp only [blks, h i (by simp), if_true]
    exact blks_zero fun j hj => h j (by simp [hj])
theorem blks_all {v nb : Int} : ∀ {l : List Blk} {n : Nat}, (blks v nb l n).1 = 0 → ∀ b ∈ l, (blkF b v nb).1 = 0
  | [], _, _, i, h => by simp at h
  | j :: r, n, h, i, hi => by
    simp only [blks] at h
    by_cases e : (blkF j v nb).1 = 0
    · rw [if_pos e] at h
      rcases List.mem_cons.1 hi with rfl | hi
      · exact e
      · exact blks_all h i hi
    · rw [if_neg e] at h
      exact absurd h e
theorem chk_zero {F : Fun} (h : sized F = true) (hb : ∀ b ∈ F.bs, (blkF b F.v F.bs.length).1 = 0) : chk F = (0, 0, 0) := by
  unfold chk
  rw [if_neg (by simp [h]), blks_zero hb]
theorem chk_all {F : Fun} (h : (chk F).1 = 0) : sized F = true ∧ ∀ b ∈ F.bs, (blkF b F.v F.bs.length).1 = 0 := by
  unfold chk at h
  by_cases e : sized F = false
  · rw [if_pos e] at h
    simp at h
  · rw [if_neg e] at h
    exact ⟨by simpa using e, blks_all h⟩

theorem inF_all {i : Ins} {v : Int} (h : inF i v = 0) : formed i = true ∧ i.args.length ≤ 3 ∧ ∀ x ∈ named i, 0 ≤ x ∧ x < v := by
  unfold inF at h
  by_cases e : formed i = false
  · rw [if_pos e] at h
    simp at h
  · rw [if_neg e] at h
    by_cases e2 : 3 < i.args.length
    · rw [if_pos e2] at h
      simp at h
    · rw [if_neg e2] at h
      by_cases e3 : (named i).all (inr · v) = true
      · refine ⟨by simpa using e, by omega, fun x hx => ?_⟩
        have := List.all_eq_true.1 e3 x hx
        simpa [inr] using this
      · rw [if_neg e3] at h
        simp at h
theorem inF_zero {i : Ins} {v : Int} (h1 : formed i = true) (h2 : i.args.length ≤ 3) (h3 : ∀ x ∈ named i, 0 ≤ x ∧ x < v) : inF i v = 0 := by
  unfold inF
  rw [if_neg (by simp [h1]), if_neg (by omega), if_pos (List.all_eq_true.2 fun x hx => by simpa [inr] using h3 x hx)]
theorem inF_mono {i : Ins} {v v' : Int} (h : inF i v = 0) (hv : v ≤ v') : inF i v' = 0 := by
  obtain ⟨h1, h2, h3⟩ := inF_all h
  exact inF_zero h1 h2 fun x hx => by have := h3 x hx; omega
theorem endF_all {e : En} {v nb : Int} (h : endF e v nb = 0) : endFormed e = true ∧ (takes e.k = true → 0 ≤ e.a ∧ e.a < v) ∧ ∀ x ∈ targets e, 0 ≤ x ∧ x < nb := by
  unfold endF at h
  by_cases e1 : endFormed e = false
  · rw [if_pos e1] at h
    simp at h
  · rw [if_neg e1] at h
    by_cases e2 : takes e.k = true ∧ inr e.a v = false
    · rw [if_pos e2] at h
      simp at h
    · rw [if_neg e2] at h
      by_cases e3 : (targets e).all (inr · nb) = true
      · refine ⟨by simpa using e1, fun ht => ?_, fun x hx => ?_⟩
        · have : ¬ inr e.a v = false := fun h => e2 ⟨ht, h⟩
          simpa [inr] using this
        · have := List.all_eq_true.1 e3 x hx
          simpa [inr] using this
      · rw [if_neg e3] at h
        simp at h
theorem endF_zero {e : En} {v nb : Int} (h1 : endFormed e = true) (h2 : takes e.k = true → 0 ≤ e.a ∧ e.a < v) (h3 : ∀ x ∈ targets e, 0 ≤ x ∧ x < nb) : endF e v nb = 0 := by
  unfold endF
  rw [if_neg (by simp [h1]), if_neg (fun h => by have := h2 h.1; simp [inr, this] at h), if_pos (List.all_eq_true.2 fun x hx => by simpa [inr] using h3 x hx)]
theorem endF_mono {e : En} {v v' nb nb' : Int} (h : endF e v nb = 0) (hv : v ≤ v') (hn : nb ≤ nb') : endF e v' nb' = 0 := by
  obtain ⟨h1, h2, h3⟩ := endF_all h
  exact endF_zero h1 (fun ht => by have := h2 ht; omega) fun x hx => by have := h3 x hx; omega
theorem blkF_mono {b : Blk} {v v' nb nb' : Int} (h : (blkF b v nb).1 = 0) (hv : v ≤ v') (hn : nb ≤ nb') : (blkF b v' nb').1 = 0 := by
  obtain ⟨h1, h2, h3⟩ := blkF_all h
  exact blkF_zero h1 (fun i hi => inF_mono (h2 i hi) hv) (endF_mono h3 hv hn)
/-- A right end names blocks alone that there are. -/
theorem endF_to {e : En} {v nb : Int} (h : endF e v nb = 0) (hn : 1 ≤ nb) : 0 ≤ e.to ∧ e.to < nb ∧ 0 ≤ e.el ∧ e.el < nb := by
  obtain ⟨h1, _, h3⟩ := endF_all h
  unfold endFormed at h1
  unfold targets at h3
  by_cases e1 : e.k = 1
  · simp [e1] at h1 h3
    omega
  · by_cases e2 : e.k = 2
    · simp [e2] at h3
      omega
    · by_cases e3 : e.k = 3
      · simp [e3] at h1
        omega
      · simp [e1, e2, e3] at h1

/-! ### Functions made out of bytes -/
def nxt (bs : List Int) (n : Int) : Int × List Int := match bs with | [] => (0, []) | x :: r => (x % n, r)
def mkArgs (v : Int) : Nat → List Int → List Int × List Int
  | 0, bs => ([], bs)
  | c + 1, bs => ((nxt bs v).1 :: (mkArgs v c (nxt bs v).2).1, (mkArgs v c (nxt bs v).2).2)
def mkOf (k v : Int) (bs : List Int) : Ins × List Int :=
  if k = 1 then (⟨1, 0, (nxt bs v).1, 0, 0, (nxt (nxt bs v).2 256).1 - 3, []⟩, (nxt (nxt bs v).2 256).2)
  else if k = 4 then (⟨4, 0, (nxt bs v).1, (nxt (nxt bs v).2 v).1, 0, 0, []⟩, (nxt (nxt bs v).2 v).2)
  else if k = 5 then (⟨5, 0, 0, (nxt bs v).1, (nxt (nxt bs v).2 v).1, 0, []⟩, (nxt (nxt bs v).2 v).2)
  else if k = 6 then
    (⟨6, 0, (nxt bs v).1, 0, 0, (nxt (nxt bs v).2 5).1, (mkArgs v (nxt (nxt (nxt bs v).2 5).2 4).1.toNat (nxt (nxt (nxt bs v).2 5).2 4).2).1⟩, (mkArgs v (nxt (nxt (nxt bs v).2 5).2 4).1.toNat (nxt (nxt (nxt bs v).2 5).2 4).2).2)
  else if k = 2 ∨ k = 7 then (⟨2, 0, (nxt bs v).1, (nxt (nxt bs v).2 v).1, 0, 0, []⟩, (nxt (nxt bs v).2 v).2)
  else (⟨3, 1 + (nxt bs 7).1, (nxt (nxt bs 7).2 v).1, (nxt (nxt (nxt bs 7).2 v).2 v).1, (nxt (nxt (nxt (nxt bs 7).2 v).2 v).2 v).1, 0, []⟩, (nxt (nxt (nxt (nxt bs 7).2 v).2 v).2 v).2)
def mkIns (v : Int) (bs : List Int) : Ins × List Int := mkOf (1 + (nxt bs 9).1) v (nxt bs 9).2
def mkInss (v : Int) : Nat → List Int → List Ins × List Int
  | 0, bs => ([], bs)
  | c + 1, bs => ((mkIns v bs).1 :: (mkInss v c (mkIns v bs).2).1, (mkInss v c (mkIns v bs).2).2)
def endOf (k v n : Int) (bs : List Int) : En × List Int :=
  if k = 1 then (⟨1, 0, (nxt bs n).1, 0⟩, (nxt bs n).2)
  else if k = 2 ∨ k = 3 then (⟨2, (nxt bs v).1, (nxt (nxt bs v).2 n).1, (nxt (nxt (nxt bs v).2 n).2 n).1⟩, (nxt (nxt (nxt bs v).2 n).2 n).2)
  else (⟨3, (nxt bs v).1, 0, 0⟩, (nxt bs v).2)
def mkEnd (v n : Int) (bs : List Int) : En × List Int := endOf (nxt bs 4).1 v n (nxt bs 4).2
def mkBlk (v n : Int) (bs : List Int) : Blk × List Int :=
  (⟨(mkInss v (nxt bs 9).1.toNat (nxt bs 9).2).1, (mkEnd v n (mkInss v (nxt bs 9).1.toNat (nxt bs 9).2).2).1⟩, (mkEnd v n (mkInss v (nxt bs 9).1.toNat (nxt bs 9).2).2).2)
def mkBlks (v n : Int) : Nat → List Int → List Blk × List Int
  | 0, bs => ([], bs)
  | c + 1, bs => ((mkBlk v n bs).1 :: (mkBlks v n c (mkBlk v n bs).2).1, (mkBlks v n c (mkBlk v n bs).2).2)
def vOf (p v : Int) : Int := max (p % 5) 1 + v % 28
def made (p v b : Int) (bs : List Int) : Fun := ⟨p % 5, vOf p v, (mkBlks (vOf p v) (1 + b % 7) (1 + b % 7).toNat bs).1⟩

def Bts (bs : List Int) : Prop := ∀ x ∈ bs, 0 ≤ x ∧ x < 256
theorem nxt_in {bs : List Int} {n : Int} (hn : 0 < n) : 0 ≤ (nxt bs n).1 ∧ (nxt bs n).1 < n := by
  cases bs with
  | nil => exact ⟨Int.le_refl _, hn⟩
  | cons x r => exact ⟨Int.emod_nonneg _ (by omega), Int.emod_lt_of_pos _ hn⟩
theorem nxt_bts {bs : List Int} {n : Int} (h : Bts bs) : Bts (nxt bs n).2 := by
  cases bs with
  | nil => exact h
  | cons x r => exact fun y hy => h y (by simp [nxt] at hy; simp [hy])
theorem mkArgs_len (v : Int) : ∀ (c : Nat) (bs : List Int), (mkArgs v c bs).1.length = c
  | 0, _ => rfl
  | c + 1, bs => by simp [mkArgs, mkArgs_len v c]
theorem mkArgs_in {v : Int} (hv : 0 < v) : ∀ (c : Nat) (bs : List Int), ∀ x ∈ (mkArgs v c bs).1, 0 ≤ x ∧ x < v
  | 0, _, x, h => by simp [mkArgs] at h
  | c + 1, bs, x, h => by
    simp only [mkArgs, List.mem_cons] at h
    rcases h with rfl | h
    · exact nxt_in hv
    · exact mkArgs_in hv c _ x h
theorem mkArgs_bts {v : Int} : ∀ (c : Nat) (bs : List Int), Bts bs → Bts (mkArgs v c bs).2
  | 0, _, h => h
  | c + 1, _, h => mkArgs_bts c _ (nxt_bts h)
/-- One more argument, behind. -/
theorem mkArgs_snoc (v : Int) : ∀ (c : Nat) (bs : List Int), (mkArgs v (c + 1) bs).1 = (mkArgs v c bs).1 ++ [(nxt (mkArgs v c bs).2 v).1] ∧ (mkArgs v (c + 1) bs).2 = (nxt (mkArgs v c bs).2 v).2
  | 0, _ => ⟨rfl, rfl⟩
  | c + 1, bs => by
    obtain ⟨h1, h2⟩ := mkArgs_snoc v c (nxt bs v).2
    constructor
    · show (nxt bs v).1 :: (mkArgs v (c + 1) (nxt bs v).2).1 = ((nxt bs v).1 :: (mkArgs v c (nxt bs v).2).1) ++ _
      rw [h1]
      rfl
    · show (mkArgs v (c + 1) (nxt bs v).2).2 = _
      rw [h2]
      rfl
theorem mkOf_bts {k v : Int} {bs : List Int} (h : Bts bs) : Bts (mkOf k v bs).2 := by
  unfold mkOf
  repeat' split
  all_goals first | exact nxt_bts (nxt_bts h) | exact mkArgs_bts _ _ (nxt_bts (nxt_bts (nxt_bts h))) | exact nxt_bts (nxt_bts (nxt_bts (nxt_bts h)))
theorem mkIns_bts {v : Int} {bs : List Int} (h : Bts bs) : Bts (mkIns v bs).2 := mkOf_bts (nxt_bts h)
theorem mkOf_right {k v : Int} {bs : List Int} (hv : 0 < v) : inF (mkOf k v bs).1 v = 0 := by
  unfold mkOf
  repeat' split
  · refine inF_zero (by simp [formed]) (by simp) fun x hx => ?_
    simp [named, uses, gives] at hx
    subst hx
    exact nxt_in hv
  · refine inF_zero (by simp [formed]) (by simp) fun x hx => ?_
    simp [named, uses, gives] at hx
    rcases hx with rfl | rfl <;> exact nxt_in hv
  · refine inF_zero (by simp [formed]) (by simp) fun x hx => ?_
    simp [named, uses, gives] at hx
    rcases hx with rfl | rfl <;> exact nxt_in hv
  · refine inF_zero (by simp [formed]) ?_ fun x hx => ?_
    · show (mkArgs _ _ _).1.length ≤ 3
      rw [mkArgs_len]
      have := nxt_in (bs := (nxt (nxt bs v).2 5).2) (n := 4) (by omega)
      omega
    · simp [named, uses, gives] at hx
      rcases hx with hx | rfl
      · exact mkArgs_in hv _ _ x hx
      · exact nxt_in hv
  · refine inF_zero (by simp [formed]) (by simp) fun x hx => ?_
    simp [named, uses, gives] at hx
    rcases hx with rfl | rfl <;> exact nxt_in hv
  · have := nxt_in (bs := bs) (n := 7) (by omega)
    refine inF_zero (by simp [formed]; omega) (by simp) fun x hx => ?_
    simp [named, uses, gives] at hx
    rcases hx with rfl | rfl | rfl <;> exact nxt_in hv
theorem mkInss_len (v : Int) : ∀ (c : Nat) (bs : List Int), (mkInss v c bs).1.length = c
  | 0, _ => rfl
  | c + 1, bs => by simp [mkInss, mkInss_len v c]
theorem mkInss_right {v : Int} (hv : 0 < v) : ∀ (c : Nat) (bs : List Int), ∀ i ∈ (mkInss v c bs).1, inF i v = 0
  | 0, _, x, h => by simp [mkInss] at h
  | c + 1, bs, x, h => by
    simp only [mkInss, List.mem_cons] at h
    rcases h with rfl | h
    · exact mkOf_right hv
    · exact mkInss_right hv c _ x h
theorem mkInss_bts {v : Int} : ∀ (c : Nat) (bs : List Int), Bts bs → Bts (mkInss v c bs).2
  | 0, _, h => h
  | c + 1, _, h => mkInss_bts c _ (mkIns_bts h)
theorem mkInss_snoc (v : Int) : ∀ (c : Nat) (bs : List Int), (mkInss v (c + 1) bs).1 = (mkInss v c bs).1 ++ [(mkIns v (mkInss v c bs).2).1] ∧ (mkInss v (c + 1) bs).2 = (mkIns v (mkInss v c bs).2).2
  | 0, _ => ⟨rfl, rfl⟩
  | c + 1, bs => by
    obtain ⟨h1, h2⟩ := mkInss_snoc v c (mkIns v bs).2
    constructor
    · show (mkIns v bs).1 :: (mkInss v (c + 1) (mkIns v bs).2).1 = ((mkIns v bs).1 :: (mkInss v c (mkIns v bs).2).1) ++ _
      rw [h1]
      rfl
    · show (mkInss v (c + 1) (mkIns v bs).2).2 = _
      rw [h2]
      rfl
theorem endOf_bts {k v n : Int} {bs : List Int} (h : Bts bs) : Bts (endOf k v n bs).2 := by
  unfold endOf
  repeat' split
  all_goals first | exact nxt_bts h | exact nxt_bts (nxt_bts (nxt_bts h))
theorem endOf_right {k v n : Int} {bs : List Int} (hv : 0 < v) (hn : 0 < n) : endF (endOf k v n bs).1 v n = 0 := by
  unfold endOf
  repeat' split
  · refine endF_zero (by simp [endFormed]) (by simp [takes]) fun x hx => ?_
    simp [targets] at hx
    subst hx
    exact nxt_in hn
  · refine endF_zero (by simp [endFormed]) (fun _ => nxt_in hv) fun x hx => ?_
    simp [targets] at hx
    rcases hx with rfl | rfl <;> exact nxt_in hn
  · refine endF_zero (by simp [endFormed]) (fun _ => nxt_in hv) fun x hx => ?_
    simp [targets] at hx
theorem mkBlk_bts {v n : Int} {bs : List Int} (h : Bts bs) : Bts (mkBlk v n bs).2 := endOf_bts (nxt_bts (mkInss_bts _ _ (nxt_bts h)))
theorem mkBlk_right {v n : Int} {bs : List Int} (hv : 0 < v) (hn : 0 < n) : (blkF (mkBlk v n bs).1 v n).1 = 0 := by
  refine blkF_zero ?_ (mkInss_right hv _ _) (endOf_right hv hn)
  show (mkInss _ _ _).1.length ≤ 32
  rw [mkInss_len]
  have := nxt_in (bs := bs) (n := 9) (by omega)
  omega
theorem mkBlks_len (v n : Int) : ∀ (c : Nat) (bs : List Int), (mkBlks v n c bs).1.length = c
  | 0, _ => rfl
  | c + 1, bs => by simp [mkBlks, mkBlks_len v n c]
theorem mkBlks_right {v n : Int} (hv : 0 < v) (hn : 0 < n) : ∀ (c : Nat) (bs : List Int), ∀ b ∈ (mkBlks v n c bs).1, (blkF b v n).1 = 0
  | 0, _, x, h => by simp [mkBlks] at h
  | c + 1, bs, x, h => by
    simp only [mkBlks, List.mem_cons] at h
    rcases h with rfl | h
    · exact mkBlk_right hv hn
    · exact mkBlks_right hv hn c _ x h
theorem mkBlks_bts {v n : Int} : ∀ (c : Nat) (bs : List Int), Bts bs → Bts (mkBlks v n c bs).2
  | 0, _, h => h
  | c + 1, _, h => mkBlks_bts c _ (mkBlk_bts h)
theorem mkBlks_snoc (v n : Int) : ∀ (c : Nat) (bs : List Int), (mkBlks v n (c + 1) bs).1 = (mkBlks v n c bs).1 ++ [(mkBlk v n (mkBlks v n c bs).2).1] ∧ (mkBlks v n (c + 1) bs).2 = (mkBlk v n (mkBlks v n c bs).2).2
  | 0, _ => ⟨rfl, rfl⟩
  | c + 1, bs => by
    obtain ⟨h1, h2⟩ := mkBlks_snoc v n c (mkBlk v n bs).2
    constructor
    · show (mkBlk v n bs).1 :: (mkBlks v n (c + 1) (mkBlk v n bs).2).1 = ((mkBlk v n bs).1 :: (mkBlks v n c (mkBlk v n bs).2).1) ++ _
      rw [h1]
      rfl
    · show (mkBlks v n (c + 1) (mkBlk v n bs).2).2 = _
      rw [h2]
      rfl
theorem vOf_in (p v : Int) : 1 ≤ vOf p v ∧ vOf p v ≤ 31 ∧ p % 5 ≤ vOf p v := by
  unfold vOf
  omega
theorem made_len (p v b : Int) (bs : List Int) : ((made p v b bs).bs.length : Int) = 1 + b % 7 := by
  show (((mkBlks _ _ _ bs).1.length : Nat) : Int) = _
  rw [mkBlks_len]
  omega
theorem made_blocks (p v b : Int) (bs : List Int) : ∀ x ∈ (made p v b bs).bs, (blkF x (vOf p v) (1 + b % 7)).1 = 0 := by
  have h := vOf_in p v
  exact mkBlks_right (by omega) (by omega) _ _
theorem made_right (p v b : Int) (bs : List Int) : chk (made p v b bs) = (0, 0, 0) := by
  have h := vOf_in p v
  have hl := made_len p v b bs
  refine chk_zero ?_ ?_
  · simp only [sized, decide_eq_true_eq]
    simp only [made] at hl ⊢
    omega
  · intro x hx
    rw [hl]
    exact made_blocks p v b bs x hx
/-- With a vreg more, and a block more behind. -/
theorem made_twice (p v b : Int) (bs : List Int) (x : Blk) (hx : x ∈ (made p v b bs).bs) : chk ⟨p % 5, vOf p v + 1, (made p v b bs).bs ++ [x]⟩ = (0, 0, 0) := by
  have h := vOf_in p v
  have hl := made_len p v b bs
  refine chk_zero ?_ ?_
  · simp only [sized, decide_eq_true_eq, List.length_append, List.length_cons, List.length_nil]
    omega
  · intro y hy
    have hy' : y ∈ (made p v b bs).bs := by
      rcases List.mem_append.1 hy with h | h
      · exact h
      · simp at h
        rw [h]
        exact hx
    refine blkF_mono (made_blocks p v b bs y hy') (by simp only; omega) ?_
    simp only [List.length_append, List.length_cons, List.length_nil]
    omega
end Go.Proofs.Ytepmbkiojpffpaa.Ir
