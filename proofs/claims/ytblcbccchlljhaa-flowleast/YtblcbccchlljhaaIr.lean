/- Functions over vregs in plain mathematics: what instructions take and give, their faults, and functions that are made out of bytes: these are right. -/
import Derived.WalkKit
namespace Go.Proofs.Ytblcbccchlljhaa.Ir

structure Ins where
  k : Int
  op : Int
  d : Int
  a : Int
  b : Int
  n : Int
  args : List Int
structure En where
  k : Int
  a : Int
  to : Int
  el : Int
structure Blk where
  ins : List Ins
  e : En
structure Fun where
  p : Int
  v : Int
  bs : List Blk
def Ins.zero : Ins := ⟨0, 0, 0, 0, 0, 0, []⟩
def En.zero : En := ⟨0, 0, 0, 0⟩
def Blk.zero : Blk := ⟨[], En.zero⟩

def inr (x m : Int) : Bool := decide (0 ≤ x) && decide (x < m)
def uses (i : Ins) : List Int := if i.k = 2 ∨ i.k = 4 ∨ i.k = 7 then [i.a] else if i.k = 3 ∨ i.k = 5 then [i.a, i.b] else if i.k = 6 then i.args else []
def gives (k : Int) : Bool := decide (k = 1 ∨ k = 2 ∨ k = 3 ∨ k = 4 ∨ k = 6 ∨ k = 8)
def takes (k : Int) : Bool := decide (k = 2 ∨ k = 3)
def formed (i : Ins) : Bool :=
  if i.k = 1 then decide (i.op = 0 ∧ i.args.length = 0 ∧ i.a = 0 ∧ i.b = 0)
  else if i.k = 2 ∨ i.k = 4 then decide (i.op = 0 ∧ i.args.length = 0 ∧ i.b = 0 ∧ i.n = 0)
  else if i.k = 3 then decide (1 ≤ i.op ∧ i.op ≤ 7 ∧ i.n = 0 ∧ i.args.length = 0)
  else if i.k = 5 then decide (i.op = 0 ∧ i.args.length = 0 ∧ i.d = 0 ∧ i.n = 0)
  else if i.k = 6 then decide (i.op = 0 ∧ i.a = 0 ∧ i.b = 0)
  else false
/-- All that an instruction takes and gives. -/
def named (i : Ins) : List Int := uses i ++ (if gives i.k then [i.d] else [])
def inF (i : Ins) (v : Int) : Int := if formed i = false then 20 else if 3 < i.args.length then 25 else if (named i).all (inr · v) then 0 else 21
def endFormed (e : En) : Bool := if e.k = 1 then decide (e.a = 0 ∧ e.el = 0) else if e.k = 2 then true else if e.k = 3 then decide (e.to = 0 ∧ e.el = 0) else false
def targets (e : En) : List Int := if e.k = 1 then [e.to] else if e.k = 2 then [e.to, e.el] else []
def endF (e : En) (v nb : Int) : Int :=
  if endFormed e = false then 20 else if takes e.k = true ∧ inr e.a v = false then 21 else if (targets e).all (inr · nb) then 0 else 22
def insFs (v : Int) : List Ins → Nat → Int × Int
  | [], _ => (0, 0)
  | i :: r, n => if inF i v = 0 then insFs v r (n + 1) else (inF i v, (n : Int))
def blkF (b : Blk) (v nb : Int) : Int × Int :=
  if 32 < b.ins.length then (9, -1) else if (insFs v b.ins 0).1 = 0 then (endF b.e v nb, (b.ins.length : Int)) else insFs v b.ins 0
def blks (v nb : Int) : List Blk → Nat → Int × Int × Int
  | [], _ => (0, 0, 0)
  | b :: r, n => if (blkF b v nb).1 = 0 then blks v nb r (n + 1) else ((blkF b v nb).1, (n : Int), (blkF b v nb).2)
def sized (F : Fun) : Bool := decide (0 ≤ F.p ∧ F.p ≤ 4 ∧ F.p ≤ F.v ∧ F.v ≤ 32 ∧ 1 ≤ F.bs.length ∧ F.bs.length ≤ 16)
def chk (F : Fun) : Int × Int × Int := if sized F = false then (2, -1, -1) else blks F.v F.bs.length F.bs 0

theorem insFs_step {v : Int} {l : List Ins} {i : Nat} (h : i < l.length) :
    insFs v (l.drop i) i = if inF (l.getD i Ins.zero) v = 0 then insFs v (l.drop (i + 1)) (i + 1) else (inF (l.getD i Ins.zero) v, (i : Int)) := by
  rw [List.drop_eq_getElem_cons h]
  simp [insFs, List.getElem?_eq_getElem h]
theorem insFs_end {v : Int} {l : List Ins} : insFs v (l.drop l.length) l.length = (0, 0) := by simp [insFs]
theorem blks_step {v nb : Int} {l : List Blk} {i : Nat} (h : i < l.length) :
    blks v nb (l.drop i) i = if (blkF (l.getD i Blk.zero) v nb).1 = 0 then blks v nb (l.drop (i + 1)) (i + 1) else ((blkF (l.getD i Blk.zero) v nb).1, (i : Int), (blkF (l.getD i Blk.zero) v nb).2) := by
  rw [List.drop_eq_getElem_cons h]
  simp [blks, List.getElem?_eq_getElem h]
theorem blks_end {v nb : Int} {l : List Blk} : blks v nb (l.drop l.length) l.length = (0, 0, 0) := by simp [blks]

theorem insFs_zero {v : Int} : ∀ {l : List Ins} {n : Nat}, (∀ i ∈ l, inF i v = 0) → insFs v l n = (0, 0)
  | [], _, _ => rfl
  | i :: r, n, h => by
    simp only [insFs, h i (by simp), if_true]
    exact insFs_zero fun j hj => h j (by simp [hj])
theorem insFs_all {v : Int} : ∀ {l : List Ins} {n : Nat}, (insFs v l n).1 = 0 → ∀ i ∈ l, inF i v = 0
  | [], _, _, i, h => by simp at h
  | j :: r, n, h, i, hi => by
    simp only [insFs] at h
    by_cases e : inF j v = 0
    · rw [if_pos e] at h
      rcases List.mem_cons.1 hi with rfl | hi
      · exact e
      · exact insFs_all h i hi
    · rw [if_neg e] at h
      exact absurd h e
theorem blkF_zero {b : Blk} {v nb : Int} (h1 : b.ins.length ≤ 32) (h2 : ∀ i ∈ b.ins, inF i v = 0) (h3 : endF b.e v nb = 0) : (blkF b v nb).1 = 0 := by
  unfold blkF
  rw [if_neg (by omega), insFs_zero h2]
  simp [h3]
theorem blkF_all {b : Blk} {v nb : Int} (h : (blkF b v nb).1 = 0) : b.ins.length ≤ 32 ∧ (∀ i ∈ b.ins, inF i v = 0) ∧ endF b.e v nb = 0 := by
  unfold blkF at h
  by_cases e : 32 < b.ins.length
  · rw [if_pos e] at h
    simp at h
  · rw [if_neg e] at h
    by_cases e2 : (insFs v b.ins 0).1 = 0
    · rw [if_pos e2] at h
      exact ⟨by omega, insFs_all e2, h⟩
    · rw [if_neg e2] at h
      exact absurd h e2
theorem blks_zero {v nb : Int} : ∀ {l : List Blk} {n : Nat}, (∀ b ∈ l, (blkF b v nb).1 = 0) → blks v nb l n = (0, 0, 0)
  | [], _, _ => rfl
  | i :: r, n, h => by
    simp only [blks, h i (by simp), if_true]
    exact blks_zero fun j hj => h j (by simp [hj])
theorem blks_all {v nb : Int} : ∀ {l : List Blk} {n : Nat}, (blks v nb l n).1 = 0 → ∀ b ∈ l, (blkF b v nb).1 = 0
  | [], _, _, i, h => by simp at h
  | j :: r, n, h, i, hi => by
    simp only [blks] at h
    by_cases e : (blkF j v nb).1 = 0
    · rw [if_pos e] at h
      rcases List.mem_cons.1 hi with rfl | hi
      · exact e
      · exact blks_all h i hi
    · rw [if_neg e] at h
      exact absurd h e
theorem chk_zero {F : Fun} (h : sized F = true) (hb : ∀ b ∈ F.bs, (blkF b F.v F.bs.length).1 = 0) : chk F = (0, 0, 0) := by
  unfold chk
  rw [if_neg (by simp [h]), blks_zero hb]
theorem chk_all {F : Fun} (h : (chk F).1 = 0) : sized F = true ∧ ∀ b ∈ F.bs, (blkF b F.v F.bs.length).1 = 0 := by
  unfold chk at h
  by_cases e : sized F = false
  · rw [if_pos e] at h
    simp at h
  · rw [if_neg e] at h
    exact ⟨by simpa using e, blks_all h⟩

theorem inF_all {i : Ins} {v : Int} (h : inF i v = 0) : formed i = true ∧ i.args.length ≤ 3 ∧ ∀ x ∈ named i, 0 ≤ x ∧ x < v := by
  unfold inF at h
  by_cases e : formed i = false
  · rw [if_pos e] at h
    simp at h
  · rw [if_neg e] at h
    by_cases e2 : 3 < i.args.length
    · rw [if_pos e2] at h
      simp at h
    · rw [if_neg e2] at h
      by_cases e3 : (named i).all (inr · v) = true
      · refine ⟨by simpa using e, by omega, fun x hx => ?_⟩
        have := List.all_eq_true.1 e3 x hx
        simpa [inr] using this
      · rw [if_neg e3] at h
        simp at h
theorem inF_zero {i : Ins} {v : Int} (h1 : formed i = true) (h2 : i.args.length ≤ 3) (h3 : ∀ x ∈ named i, 0 ≤ x ∧ x < v) : inF i v = 0 := by
  unfold inF
  rw [if_neg (by simp [h1]), if_neg (by omega), if_pos (List.all_eq_true.2 fun x hx => by simpa [inr] using h3 x hx)]
theorem inF_mono {i : Ins} {v v' : Int} (h : inF i v = 0) (hv : v ≤ v') : inF i v' = 0 := by
  obtain ⟨h1, h2, h3⟩ := inF_all h
  exact inF_zero h1 h2 fun x hx => by have := h3 x hx; omega
theorem endF_all {e : En} {v nb : Int} (h : endF e v nb = 0) : endFormed e = true ∧ (takes e.k = true → 0 ≤ e.a ∧ e.a < v) ∧ ∀ x ∈ targets e, 0 ≤ x ∧ x < nb := by
  unfold endF at h
  by_cases e1 : endFormed e = false
  · rw [if_pos e1] at h
    simp at h
  · rw [if_neg e1] at h
    by_cases e2 : takes e.k = true ∧ inr e.a v = false
    · rw [if_pos e2] at h
      simp at h
    · rw [if_neg e2] at h
      by_cases e3 : (targets e).all (inr · nb) = true
      · refine ⟨by simpa using e1, fun ht => ?_, fun x hx => ?_⟩
        · have : ¬ inr e.a v = false := fun h => e2 ⟨ht, h⟩
          simpa [inr] using this
        · have := List.all_eq_true.1 e3 x hx
          simpa [inr] using this
      · rw [if_neg e3] at h
        simp at h
theorem endF_zero {e : En} {v nb : Int} (h1 : endFormed e = true) (h2 : takes e.k = true → 0 ≤ e.a ∧ e.a < v) (h3 : ∀ x ∈ targets e, 0 ≤ x ∧ x < nb) : endF e v nb = 0 := by
  unfold endF
  rw [if_neg (by simp [h1]), if_neg (fun h => by have := h2 h.1; simp [inr, this] at h), if_pos (List.all_eq_true.2 fun x hx => by simpa [inr] using h3 x hx)]
theorem endF_mono {e : En} {v v' nb nb' : Int} (h : endF e v nb = 0) (hv : v ≤ v') (hn : nb ≤ nb') : endF e v' nb' = 0 := by
  obtain ⟨h1, h2, h3⟩ := endF_all h
  exact endF_zero h1 (fun ht => by have := h2 ht; omega) fun x hx => by have := h3 x hx; omega
theorem blkF_mono {b : Blk} {v v' nb nb' : Int} (h : (blkF b v nb).1 = 0) (hv : v ≤ v') (hn : nb ≤ nb') : (blkF b v' nb').1 = 0 := by
  obtain ⟨h1, h2, h3⟩ := blkF_all h
  exact blkF_zero h1 (fun i hi => inF_mono (h2 i hi) hv) (endF_mono h3 hv hn)
/-- A right end names blocks alone that there are. -/
theorem endF_to {e : En} {v nb : Int} (h : endF e v nb = 0) (hn : 1 ≤ nb) : 0 ≤ e.to ∧ e.to < nb ∧ 0 ≤ e.el ∧ e.el < nb := by
  obtain ⟨h1, _, h3⟩ := endF_all h
  unfold endFormed at h1
  unfold targets at h3
  by_cases e1 : e.k = 1
  · simp [e1] at h1 h3
    omega
  · by_cases e2 : e.k = 2
    · simp [e2] at h3
      omega
    · by_cases e3 : e.k = 3
      · simp [e3] at h1
        omega
      · simp [e1, e2, e3] at h1

/-! ### Functions made out of bytes -/
def nxt (bs : List Int) (n : Int) : Int × List Int := match bs with | [] => (0, []) | x :: r => (x % n, r)
def mkArgs (v : Int) : Nat → List Int → List Int × List Int
  | 0, bs => ([], bs)
  | c + 1, bs => ((nxt bs v).1 :: (mkArgs v c (nxt bs v).2).1, (mkArgs v c (nxt bs v).2).2)
def mkOf (k v : Int) (bs : List Int) : Ins × List Int :=
  if k = 1 then (⟨1, 0, (nxt bs v).1, 0, 0, (nxt (nxt bs v).2 256).1 - 3, []⟩, (nxt (nxt bs v).2 256).2)
  else if k = 4 then (⟨4, 0, (nxt bs v).1, (nxt (nxt bs v).2 v).1, 0, 0, []⟩, (nxt (nxt bs v).2 v).2)
  else if k = 5 then (⟨5, 0, 0, (nxt bs v).1, (nxt (nxt bs v).2 v).1, 0, []⟩, (nxt (nxt bs v).2 v).2)
  else if k = 6 then
    (⟨6, 0, (nxt bs v).1, 0, 0, (nxt (nxt bs v).2 5).1, (mkArgs v (nxt (nxt (nxt bs v).2 5).2 4).1.toNat (nxt (nxt (nxt bs v).2 5).2 4).2).1⟩, (mkArgs v (nxt (nxt (nxt bs v).2 5).2 4).1.toNat (nxt (nxt (nxt bs v).2 5).2 4).2).2)
  else if k = 2 ∨ k = 7 then (⟨2, 0, (nxt bs v).1, (nxt (nxt bs v).2 v).1, 0, 0, []⟩, (nxt (nxt bs v).2 v).2)
  else (⟨3, 1 + (nxt bs 7).1, (nxt (nxt bs 7).2 v).1, (nxt (nxt (nxt bs 7).2 v).2 v).1, (nxt (nxt (nxt (nxt bs 7).2 v).2 v).2 v).1, 0, []⟩, (nxt (nxt (nxt (nxt bs 7).2 v).2 v).2 v).2)
def mkIns (v : Int) (bs : List Int) : Ins × List Int := mkOf (1 + (nxt bs 9).1) v (nxt bs 9).2
def mkInss (v : Int) : Nat → List Int → List Ins × List Int
  | 0, bs => ([], bs)
  | c + 1, bs => ((mkIns v bs).1 :: (mkInss v c (mkIns v bs).2).1, (mkInss v c (mkIns v bs).2).2)
def endOf (k v n : Int) (bs : List Int) : En × List Int :=
  if k = 1 then (⟨1, 0, (nxt bs n).1, 0⟩, (nxt bs n).2)
  else if k = 2 ∨ k = 3 then (⟨2, (nxt bs v).1, (nxt (nxt bs v).2 n).1, (nxt (nxt (nxt bs v).2 n).2 n).1⟩, (nxt (nxt (nxt bs v).2 n).2 n).2)
  else (⟨3, (nxt bs v).1, 0, 0⟩, (nxt bs v).2)
def mkEnd (v n : Int) (bs : List Int) : En × List Int := endOf (nxt bs 4).1 v n (nxt bs 4).2
def mkBlk (v n : Int) (bs : List Int) : Blk × List Int :=
  (⟨(mkInss v (nxt bs 9).1.toNat (nxt bs 9).2).1, (mkEnd v n (mkInss v (nxt bs 9).1.toNat (nxt bs 9).2).2).1⟩, (mkEnd v n (mkInss v (nxt bs 9).1.toNat (nxt bs 9).2).2).2)
def mkBlks (v n : Int) : Nat → List Int → List Blk × List Int
  | 0, bs => ([], bs)
  | c + 1, bs => ((mkBlk v n bs).1 :: (mkBlks v n c (mkBlk v n bs).2).1, (mkBlks v n c (mkBlk v n bs).2).2)
def vOf (p v : Int) : Int := max (p % 5) 1 + v % 28
def made (p v b : Int) (bs : List Int) : Fun := ⟨p % 5, vOf p v, (mkBlks (vOf p v) (1 + b % 7) (1 + b % 7).toNat bs).1⟩

def Bts (bs : List Int) : Prop := ∀ x ∈ bs, 0 ≤ x ∧ x < 256
theorem nxt_in {bs : List Int} {n : Int} (hn : 0 < n) : 0 ≤ (nxt bs n).1 ∧ (nxt bs n).1 < n := by
  cases bs with
  | nil => exact ⟨Int.le_refl _, hn⟩
  | cons x r => exact ⟨Int.emod_nonneg _ (by omega), Int.emod_lt_of_pos _ hn⟩
theorem nxt_bts {bs : List Int} {n : Int} (h : Bts bs) : Bts (nxt bs n).2 := by
  cases bs with
  | nil => exact h
  | cons x r => exact fun y hy => h y (by simp [nxt] at hy; simp [hy])
theorem mkArgs_len (v : Int) : ∀ (c : Nat) (bs : List Int), (mkArgs v c bs).1.length = c
  | 0, _ => rfl
  | c + 1, bs => by simp [mkArgs, mkArgs_len v c]
theorem mkArgs_in {v : Int} (hv : 0 < v) : ∀ (c : Nat) (bs : List Int), ∀ x ∈ (mkArgs v c bs).1, 0 ≤ x ∧ x < v
  | 0, _, x, h => by simp [mkArgs] at h
  | c + 1, bs, x, h => by
    simp only [mkArgs, List.mem_cons] at h
    rcases h with rfl | h
    · exact nxt_in hv
    · exact mkArgs_in hv c _ x h
theorem mkArgs_bts {v : Int} : ∀ (c : Nat) (bs : List Int), Bts bs → Bts (mkArgs v c bs).2
  | 0, _, h => h
  | c + 1, _, h => mkArgs_bts c _ (nxt_bts h)
/-- One more argument, behind. -/
theorem mkArgs_snoc (v : Int) : ∀ (c : Nat) (bs : List Int), (mkArgs v (c + 1) bs).1 = (mkArgs v c bs).1 ++ [(nxt (mkArgs v c bs).2 v).1] ∧ (mkArgs v (c + 1) bs).2 = (nxt (mkArgs v c bs).2 v).2
  | 0, _ => ⟨rfl, rfl⟩
  | c + 1, bs => by
    obtain ⟨h1, h2⟩ := mkArgs_snoc v c (nxt bs v).2
    constructor
    · show (nxt bs v).1 :: (mkArgs v (c + 1) (nxt bs v).2).1 = ((nxt bs v).1 :: (mkArgs v c (nxt bs v).2).1) ++ _
      rw [h1]
      rfl
    · show (mkArgs v (c + 1) (nxt bs v).2).2 = _
      rw [h2]
      rfl
theorem mkOf_bts {k v : Int} {bs : List Int} (h : Bts bs) : Bts (mkOf k v bs).2 := by
  unfold mkOf
  repeat' split
  all_goals first | exact nxt_bts (nxt_bts h) | exact mkArgs_bts _ _ (nxt_bts (nxt_bts (nxt_bts h))) | exact nxt_bts (nxt_bts (nxt_bts (nxt_bts h)))
theorem mkIns_bts {v : Int} {bs : List Int} (h : Bts bs) : Bts (mkIns v bs).2 := mkOf_bts (nxt_bts h)
theorem mkOf_right {k v : Int} {bs : List Int} (hv : 0 < v) : inF (mkOf k v bs).1 v = 0 := by
  unfold mkOf
  repeat' split
  · refine inF_zero (by simp [formed]) (by simp) fun x hx => ?_
    simp [named, uses, gives] at hx
    subst hx
    exact nxt_in hv
  · refine inF_zero (by simp [formed]) (by simp) fun x hx => ?_
    simp [named, uses, gives] at hx
    rcases hx with rfl | rfl <;> exact nxt_in hv
  · refine inF_zero (by simp [formed]) (by simp) fun x hx => ?_
    simp [named, uses, gives] at hx
    rcases hx with rfl | rfl <;> exact nxt_in hv
  · refine inF_zero (by simp [formed]) ?_ fun x hx => ?_
    · show (mkArgs _ _ _).1.length ≤ 3
      rw [mkArgs_len]
      have := nxt_in (bs := (nxt (nxt bs v).2 5).2) (n := 4) (by omega)
      omega
    · simp [named, uses, gives] at hx
      rcases hx with hx | rfl
      · exact mkArgs_in hv _ _ x hx
      · exact nxt_in hv
  · refine inF_zero (by simp [formed]) (by simp) fun x hx => ?_
    simp [named, uses, gives] at hx
    rcases hx with rfl | rfl <;> exact nxt_in hv
  · have := nxt_in (bs := bs) (n := 7) (by omega)
    refine inF_zero (by simp [formed]; omega) (by simp) fun x hx => ?_
    simp [named, uses, gives] at hx
    rcases hx with rfl | rfl | rfl <;> exact nxt_in hv
theorem mkInss_len (v : Int) : ∀ (c : Nat) (bs : List Int), (mkInss v c bs).1.length = c
  | 0, _ => rfl
  | c + 1, bs => by simp [mkInss, mkInss_len v c]
theorem mkInss_right {v : Int} (hv : 0 < v) : ∀ (c : Nat) (bs : List Int), ∀ i ∈ (mkInss v c bs).1, inF i v = 0
  | 0, _, x, h => by simp [mkInss] at h
  | c + 1, bs, x, h => by
    simp only [mkInss, List.mem_cons] at h
    rcases h with rfl | h
    · exact mkOf_right hv
    · exact mkInss_right hv c _ x h
theorem mkInss_bts {v : Int} : ∀ (c : Nat) (bs : List Int), Bts bs → Bts (mkInss v c bs).2
  | 0, _, h => h
  | c + 1, _, h => mkInss_bts c _ (mkIns_bts h)
theorem mkInss_snoc (v : Int) : ∀ (c : Nat) (bs : List Int), (mkInss v (c + 1) bs).1 = (mkInss v c bs).1 ++ [(mkIns v (mkInss v c bs).2).1] ∧ (mkInss v (c + 1) bs).2 = (mkIns v (mkInss v c bs).2).2
  | 0, _ => ⟨rfl, rfl⟩
  | c + 1, bs => by
    obtain ⟨h1, h2⟩ := mkInss_snoc v c (mkIns v bs).2
    constructor
    · show (mkIns v bs).1 :: (mkInss v (c + 1) (mkIns v bs).2).1 = ((mkIns v bs).1 :: (mkInss v c (mkIns v bs).2).1) ++ _
      rw [h1]
      rfl
    · show (mkInss v (c + 1) (mkIns v bs).2).2 = _
      rw [h2]
      rfl
theorem endOf_bts {k v n : Int} {bs : List Int} (h : Bts bs) : Bts (endOf k v n bs).2 := by
  unfold endOf
  repeat' split
  all_goals first | exact nxt_bts h | exact nxt_bts (nxt_bts (nxt_bts h))
theorem endOf_right {k v n : Int} {bs : List Int} (hv : 0 < v) (hn : 0 < n) : endF (endOf k v n bs).1 v n = 0 := by
  unfold endOf
  repeat' split
  · refine endF_zero (by simp [endFormed]) (by simp [takes]) fun x hx => ?_
    simp [targets] at hx
    subst hx
    exact nxt_in hn
  · refine endF_zero (by simp [endFormed]) (fun _ => nxt_in hv) fun x hx => ?_
    simp [targets] at hx
    rcases hx with rfl | rfl <;> exact nxt_in hn
  · refine endF_zero (by simp [endFormed]) (fun _ => nxt_in hv) fun x hx => ?_
    simp [targets] at hx
theorem mkBlk_bts {v n : Int} {bs : List Int} (h : Bts bs) : Bts (mkBlk v n bs).2 := endOf_bts (nxt_bts (mkInss_bts _ _ (nxt_bts h)))
theorem mkBlk_right {v n : Int} {bs : List Int} (hv : 0 < v) (hn : 0 < n) : (blkF (mkBlk v n bs).1 v n).1 = 0 := by
  refine blkF_zero ?_ (mkInss_right hv _ _) (endOf_right hv hn)
  show (mkInss _ _ _).1.length ≤ 32
  rw [mkInss_len]
  have := nxt_in (bs := bs) (n := 9) (by omega)
  omega
theorem mkBlks_len (v n : Int) : ∀ (c : Nat) (bs : List Int), (mkBlks v n c bs).1.length = c
  | 0, _ => rfl
  | c + 1, bs => by simp [mkBlks, mkBlks_len v n c]
theorem mkBlks_right {v n : Int} (hv : 0 < v) (hn : 0 < n) : ∀ (c : Nat) (bs : List Int), ∀ b ∈ (mkBlks v n c bs).1, (blkF b v n).1 = 0
  | 0, _, x, h => by simp [mkBlks] at h
  | c + 1, bs, x, h => by
    simp only [mkBlks, List.mem_cons] at h
    rcases h with rfl | h
    · exact mkBlk_right hv hn
    · exact mkBlks_right hv hn c _ x h
theorem mkBlks_bts {v n : Int} : ∀ (c : Nat) (bs : List Int), Bts bs → Bts (mkBlks v n c bs).2
  | 0, _, h => h
  | c + 1, _, h => mkBlks_bts c _ (mkBlk_bts h)
theorem mkBlks_snoc (v n : Int) : ∀ (c : Nat) (bs : List Int), (mkBlks v n (c + 1) bs).1 = (mkBlks v n c bs).1 ++ [(mkBlk v n (mkBlks v n c bs).2).1] ∧ (mkBlks v n (c + 1) bs).2 = (mkBlk v n (mkBlks v n c bs).2).2
  | 0, _ => ⟨rfl, rfl⟩
  | c + 1, bs => by
    obtain ⟨h1, h2⟩ := mkBlks_snoc v n c (mkBlk v n bs).2
    constructor
    · show (mkBlk v n bs).1 :: (mkBlks v n (c + 1) (mkBlk v n bs).2).1 = ((mkBlk v n bs).1 :: (mkBlks v n c (mkBlk v n bs).2).1) ++ _
      rw [h1]
      rfl
    · show (mkBlks v n (c + 1) (mkBlk v n bs).2).2 = _
      rw [h2]
      rfl
theorem vOf_in (p v : Int) : 1 ≤ vOf p v ∧ vOf p v ≤ 31 ∧ p % 5 ≤ vOf p v := by
  unfold vOf
  omega
theorem made_len (p v b : Int) (bs : List Int) : ((made p v b bs).bs.length : Int) = 1 + b % 7 := by
  show (((mkBlks _ _ _ bs).1.length : Nat) : Int) = _
  rw [mkBlks_len]
  omega
theorem made_blocks (p v b : Int) (bs : List Int) : ∀ x ∈ (made p v b bs).bs, (blkF x (vOf p v) (1 + b % 7)).1 = 0 := by
  have h := vOf_in p v
  exact mkBlks_right (by omega) (by omega) _ _
theorem made_right (p v b : Int) (bs : List Int) : chk (made p v b bs) = (0, 0, 0) := by
  have h := vOf_in p v
  have hl := made_len p v b bs
  refine chk_zero ?_ ?_
  · simp only [sized, decide_eq_true_eq]
    simp only [made] at hl ⊢
    omega
  · intro x hx
    rw [hl]
    exact made_blocks p v b bs x hx
/-- With a vreg more, and a block more behind. -/
theorem made_twice (p v b : Int) (bs : List Int) (x : Blk) (hx : x ∈ (made p v b bs).bs) : chk ⟨p % 5, vOf p v + 1, (made p v b bs).bs ++ [x]⟩ = (0, 0, 0) := by
  have h := vOf_in p v
  have hl := made_len p v b bs
  refine chk_zero ?_ ?_
  · simp only [sized, decide_eq_true_eq, List.length_append, List.length_cons, List.length_nil]
    omega
  · intro y hy
    have hy' : y ∈ (made p v b bs).bs := by
      rcases List.mem_append.1 hy with h | h
      · exact h
      · simp at h
        rw [h]
        exact hx
    refine blkF_mono (made_blocks p v b bs y hy') (by simp only; omega) ?_
    simp only [List.length_append, List.length_cons, List.length_nil]
    omega
end Go.Proofs.Ytblcbccchlljhaa.Ir
namespace Go.Proofs.Ytblcbccchlljhaa.Ir

structure Cod where
  p : Int
  r : Int
  s : Int
  bs : List Blk
/-- An error over vregs, said of registers. -/
def ofR (x : Int) : Int := if x = 21 then 23 else x
/-- The fault of a spill or a fill, between a register and a slot. -/
def slF (i : Ins) (reg r slot s : Int) : Int := if i.op = 0 ∧ i.b = 0 ∧ i.n = 0 ∧ i.args.length = 0 then (if inr reg r = false then 23 else if inr slot s = false then 24 else 0) else 20
def mF (i : Ins) (r s : Int) : Int := if i.k = 7 then slF i i.a r i.d s else if i.k = 8 then slF i i.d r i.a s else ofR (inF i r)
def meF (e : En) (r nb : Int) : Int := ofR (endF e r nb)
def mFs (r s : Int) : List Ins → Nat → Int × Int
  | [], _ => (0, 0)
  | i :: l, n => if mF i r s = 0 then mFs r s l (n + 1) else (mF i r s, (n : Int))
def mbF (b : Blk) (r s nb : Int) : Int × Int :=
  if 400 < b.ins.length then (9, -1) else if (mFs r s b.ins 0).1 = 0 then (meF b.e r nb, (b.ins.length : Int)) else mFs r s b.ins 0
def mbs (r s nb : Int) : List Blk → Nat → Int × Int × Int
  | [], _ => (0, 0, 0)
  | b :: l, n => if (mbF b r s nb).1 = 0 then mbs r s nb l (n + 1) else ((mbF b r s nb).1, (n : Int), (mbF b r s nb).2)
def msz (C : Cod) : Bool := decide (0 ≤ C.p ∧ C.p ≤ 4 ∧ 3 ≤ C.r ∧ C.r ≤ 8 ∧ C.p ≤ C.s ∧ C.s ≤ 64 ∧ 1 ≤ C.bs.length ∧ C.bs.length ≤ 16)
def mchk (C : Cod) : Int × Int × Int := if msz C = false then (2, -1, -1) else mbs C.r C.s C.bs.length C.bs 0

theorem mFs_step {r s : Int} {l : List Ins} {i : Nat} (h : i < l.length) :
    mFs r s (l.drop i) i = if mF (l.getD i Ins.zero) r s = 0 then mFs r s (l.drop (i + 1)) (i + 1) else (mF (l.getD i Ins.zero) r s, (i : Int)) := by
  rw [List.drop_eq_getElem_cons h]
  simp [mFs, List.getElem?_eq_getElem h]
theorem mFs_end {r s : Int} {l : List Ins} : mFs r s (l.drop l.length) l.length = (0, 0) := by simp [mFs]
theorem mbs_step {r s nb : Int} {l : List Blk} {i : Nat} (h : i < l.length) :
    mbs r s nb (l.drop i) i = if (mbF (l.getD i Blk.zero) r s nb).1 = 0 then mbs r s nb (l.drop (i + 1)) (i + 1) else ((mbF (l.getD i Blk.zero) r s nb).1, (i : Int), (mbF (l.getD i Blk.zero) r s nb).2) := by
  rw [List.drop_eq_getElem_cons h]
  simp [mbs, List.getElem?_eq_getElem h]
theorem mbs_end {r s nb : Int} {l : List Blk} : mbs r s nb (l.drop l.length) l.length = (0, 0, 0) := by simp [mbs]

theorem mFs_zero {r s : Int} : ∀ {l : List Ins} {n : Nat}, (∀ i ∈ l, mF i r s = 0) → mFs r s l n = (0, 0)
  | [], _, _ => rfl
  | i :: l, n, h => by
    simp only [mFs, h i (by simp), if_true]
    exact mFs_zero fun j hj => h j (by simp [hj])
theorem mFs_all {r s : Int} : ∀ {l : List Ins} {n : Nat}, (mFs r s l n).1 = 0 → ∀ i ∈ l, mF i r s = 0
  | [], _, _, i, h => by simp at h
  | j :: l, n, h, i, hi => by
    simp only [mFs] at h
    by_cases e : mF j r s = 0
    · rw [if_pos e] at h
      rcases List.mem_cons.1 hi with rfl | hi
      · exact e
      · exact mFs_all h i hi
    · rw [if_neg e] at h
      exact absurd h e
theorem mbF_zero {b : Blk} {r s nb : Int} (h1 : b.ins.length ≤ 400) (h2 : ∀ i ∈ b.ins, mF i r s = 0) (h3 : meF b.e r nb = 0) : (mbF b r s nb).1 = 0 := by
  unfold mbF
  rw [if_neg (by omega), mFs_zero h2]
  simp [h3]
theorem mbF_all {b : Blk} {r s nb : Int} (h : (mbF b r s nb).1 = 0) : b.ins.length ≤ 400 ∧ (∀ i ∈ b.ins, mF i r s = 0) ∧ meF b.e r nb = 0 := by
  unfold mbF at h
  by_cases e : 400 < b.ins.length
  · rw [if_pos e] at h
    simp at h
  · rw [if_neg e] at h
    by_cases e2 : (mFs r s b.ins 0).1 = 0
    · rw [if_pos e2] at h
      exact ⟨by omega, mFs_all e2, h⟩
    · rw [if_neg e2] at h
      exact absurd h e2
theorem mbF_ins {b : Blk} {r s nb : Int} (h : ¬ 400 < b.ins.length) : mbF b r s nb = if (mFs r s b.ins 0).1 = 0 then (meF b.e r nb, (b.ins.length : Int)) else mFs r s b.ins 0 := by
  unfold mbF
  rw [if_neg h]
theorem mbs_zero {r s nb : Int} : ∀ {l : List Blk} {n : Nat}, (∀ b ∈ l, (mbF b r s nb).1 = 0) → mbs r s nb l n = (0, 0, 0)
  | [], _, _ => rfl
  | i :: l, n, h => by
    simp only [mbs, h i (by simp), if_true]
    exact mbs_zero fun j hj => h j (by simp [hj])
theorem mbs_all {r s nb : Int} : ∀ {l : List Blk} {n : Nat}, (mbs r s nb l n).1 = 0 → ∀ b ∈ l, (mbF b r s nb).1 = 0
  | [], _, _, i, h => by simp at h
  | j :: l, n, h, i, hi => by
    simp only [mbs] at h
    by_cases e : (mbF j r s nb).1 = 0
    · rw [if_pos e] at h
      rcases List.mem_cons.1 hi with rfl | hi
      · exact e
      · exact mbs_all h i hi
    · rw [if_neg e] at h
      exact absurd h e
theorem mchk_zero {C : Cod} (h : msz C = true) (hb : ∀ b ∈ C.bs, (mbF b C.r C.s C.bs.length).1 = 0) : mchk C = (0, 0, 0) := by
  unfold mchk
  rw [if_neg (by simp [h]), mbs_zero hb]
theorem mchk_all {C : Cod} (h : (mchk C).1 = 0) : msz C = true ∧ ∀ b ∈ C.bs, (mbF b C.r C.s C.bs.length).1 = 0 := by
  unfold mchk at h
  by_cases e : msz C = false
  · rw [if_pos e] at h
    simp at h
  · rw [if_neg e] at h
    exact ⟨by simpa using e, mbs_all h⟩

theorem ofR_zero {x : Int} : ofR x = 0 ↔ x = 0 := by
  unfold ofR
  split <;> omega
theorem slF_all {i : Ins} {reg r slot s : Int} (h : slF i reg r slot s = 0) : (i.op = 0 ∧ i.b = 0 ∧ i.n = 0 ∧ i.args.length = 0) ∧ (0 ≤ reg ∧ reg < r) ∧ (0 ≤ slot ∧ slot < s) := by
  unfold slF at h
  by_cases e : i.op = 0 ∧ i.b = 0 ∧ i.n = 0 ∧ i.args.length = 0
  · rw [if_pos e] at h
    by_cases e1 : inr reg r = false
    · rw [if_pos e1] at h
      omega
    · rw [if_neg e1] at h
      by_cases e2 : inr slot s = false
      · rw [if_pos e2] at h
        omega
      · exact ⟨e, by simpa [inr] using e1, by simpa [inr] using e2⟩
  · rw [if_neg e] at h
    omega
theorem slF_zero {i : Ins} {reg r slot s : Int} (h : i.op = 0 ∧ i.b = 0 ∧ i.n = 0 ∧ i.args.length = 0) (h1 : 0 ≤ reg ∧ reg < r) (h2 : 0 ≤ slot ∧ slot < s) : slF i reg r slot s = 0 := by
  unfold slF
  rw [if_pos h, if_neg (by simp [inr, h1]), if_neg (by simp [inr, h2])]
theorem mF_mono {i : Ins} {r s r' s' : Int} (h : mF i r s = 0) (hr : r ≤ r') (hs : s ≤ s') : mF i r' s' = 0 := by
  unfold mF at h ⊢
  by_cases k7 : i.k = 7
  · rw [if_pos k7] at h ⊢
    obtain ⟨h1, h2, h3⟩ := slF_all h
    exact slF_zero h1 (by omega) (by omega)
  · rw [if_neg k7] at h ⊢
    by_cases k8 : i.k = 8
    · rw [if_pos k8] at h ⊢
      obtain ⟨h1, h2, h3⟩ := slF_all h
      exact slF_zero h1 (by omega) (by omega)
    · rw [if_neg k8] at h ⊢
      exact ofR_zero.2 (inF_mono (ofR_zero.1 h) hr)
theorem meF_mono {e : En} {r r' nb : Int} (h : meF e r nb = 0) (hr : r ≤ r') : meF e r' nb = 0 :=
  ofR_zero.2 (endF_mono (ofR_zero.1 h) hr (Int.le_refl _))
theorem mbF_mono {b : Blk} {r s r' s' nb : Int} (h : (mbF b r s nb).1 = 0) (hr : r ≤ r') (hs : s ≤ s') : (mbF b r' s' nb).1 = 0 := by
  obtain ⟨h1, h2, h3⟩ := mbF_all h
  exact mbF_zero h1 (fun i hi => mF_mono (h2 i hi) hr hs) (meF_mono h3 hr)
/-- Code that is taken stays taken with more registers and slots. -/
theorem mchk_more {C : Cod} (h : (mchk C).1 = 0) : mchk ⟨C.p, min (C.r + 1) 8, min (C.s + 3) 64, C.bs⟩ = (0, 0, 0) := by
  obtain ⟨h1, h2⟩ := mchk_all h
  simp only [msz, decide_eq_true_eq] at h1
  refine mchk_zero ?_ fun b hb => ?_
  · simp only [msz, decide_eq_true_eq]
    omega
  · exact mbF_mono (h2 b hb) (by simp only; omega) (by simp only; omega)
/-- What a spill or a fill of such code names. -/
theorem mchk_slot {C : Cod} (h : (mchk C).1 = 0) {b : Blk} (hb : b ∈ C.bs) {i : Ins} (hi : i ∈ b.ins) : (i.k = 8 → (0 ≤ i.d ∧ i.d < C.r) ∧ (0 ≤ i.a ∧ i.a < C.s)) ∧ (i.k = 7 → (0 ≤ i.a ∧ i.a < C.r) ∧ (0 ≤ i.d ∧ i.d < C.s)) := by
  obtain ⟨_, h2⟩ := mchk_all h
  have h3 := (mbF_all (h2 b hb)).2.1 i hi
  unfold mF at h3
  refine ⟨fun k => ?_, fun k => ?_⟩
  · rw [if_neg (by omega), if_pos k] at h3
    exact (slF_all h3).2
  · rw [if_pos k] at h3
    exact (slF_all h3).2
theorem inF_kind {i : Ins} {v : Int} (h : inF i v = 0) : i.k ≠ 7 ∧ i.k ≠ 8 := by
  have := (inF_all h).1
  unfold formed at this
  constructor
  · intro e
    simp [e] at this
  · intro e
    simp [e] at this
theorem mF_plain {i : Ins} {r s : Int} (h : inF i r = 0) : mF i r s = 0 := by
  obtain ⟨h1, h2⟩ := inF_kind h
  unfold mF
  rw [if_neg h1, if_neg h2]
  exact ofR_zero.2 h
/-- An instruction alone in a function that has nothing else to be wrong. -/
theorem chk_one {i : Ins} {r : Int} (h0 : 0 ≤ r) (h1 : r ≤ 32) : (chk ⟨0, r, [⟨[i], ⟨1, 0, 0, 0⟩⟩]⟩).1 = inF i r := by
  have hs : sized ⟨0, r, [⟨[i], ⟨1, 0, 0, 0⟩⟩]⟩ = true := by
    simp only [sized, decide_eq_true_eq, List.length_cons, List.length_nil]
    omega
  have he : endF ⟨1, 0, 0, 0⟩ r 1 = 0 := by simp [endF, endFormed, takes, targets, inr]
  unfold chk
  rw [if_neg (by simp [hs])]
  by_cases hz : inF i r = 0
  · simp [blks, blkF, insFs, hz, he]
  · simp [blks, blkF, insFs, hz]
/-- A spill or a fill put first. -/
theorem mchk_first {C : Cod} {i : Ins} {is : List Ins} {e : En} {l : List Blk} (hb : C.bs = ⟨is, e⟩ :: l) (h : (mchk C).1 = 0) (hl : is.length < 400) :
    mchk ⟨C.p, C.r, C.s, ⟨i :: is, e⟩ :: l⟩ = (mF i C.r C.s, 0, 0) := by
  obtain ⟨h1, h2⟩ := mchk_all h
  obtain ⟨p, r, s, bs⟩ := C
  simp only at hb h1 h2 ⊢
  subst hb
  have hs : msz ⟨p, r, s, ⟨i :: is, e⟩ :: l⟩ = true := by
    simp only [msz, decide_eq_true_eq, List.length_cons] at h1 ⊢
    omega
  by_cases hz : mF i r s = 0
  · rw [hz]
    refine mchk_zero hs fun b hb => ?_
    simp only [List.length_cons] at h2 ⊢
    rcases List.mem_cons.1 hb with rfl | hb
    · obtain ⟨g1, g2, g3⟩ := mbF_all (h2 ⟨is, e⟩ (by simp))
      refine mbF_zero ?_ ?_ g3
      · simp only [List.length_cons]
        omega
      · intro j hj
        rcases List.mem_cons.1 hj with rfl | hj
        · exact hz
        · exact g2 j hj
    · exact h2 b (by simp [hb])
  · unfold mchk
    rw [if_neg (by simp [hs])]
    have hm : mFs r s (i :: is) 0 = (mF i r s, 0) := by simp [mFs, hz]
    have : mbF ⟨i :: is, e⟩ r s (l.length + 1 : Nat) = (mF i r s, 0) := by
      rw [mbF_ins (by simp only [List.length_cons]; omega), hm]
      rw [if_neg hz]
    simp only [List.length_cons, mbs]
    rw [this]
    rw [if_neg hz]
    rfl
end Go.Proofs.Ytblcbccchlljhaa.Ir
namespace Go.Proofs.Ytblcbccchlljhaa.Ir

structure Cl where
  n : Int
  args : List Int
structure St where
  p : List Int
  mem : List Int
  calls : List Cl
  left : Nat
  ans : List Int
structure Out where
  how : Int
  val : Int
  calls : List Cl
  mem : List Int
  left : Nat
/-- A run that goes on, or is over. -/
abbrev Rs (α : Type) : Type := Sum α Out
def Rs.bind {α β : Type} (r : Rs α) (f : α → Rs β) : Rs β := match r with | .inl a => f a | .inr o => .inr o

def pg (p : List Int) (i : Int) : Int := p.getD i.toNat 0
def pst (p : List Int) (i v : Int) : List Int := p.set i.toNat v
/-- Which word of the memory. -/
def wd (x : Int) : Nat := (x % 64).toNat
def bnd (op x y : Int) : Int :=
  if op = 1 then IntKind.i64.wrap (x + y)
  else if op = 2 then IntKind.i64.wrap (x - y)
  else if op = 3 then IntKind.i64.wrap (x * y)
  else if op = 4 then bits .and .i64 x y
  else if op = 5 then bits .xor .i64 x y
  else if op = 6 then (if x < y then 1 else 0)
  else IntKind.i64.wrap (x.tdiv y)
def free (k : Int) : Bool := decide (k = 2 ∨ k = 7 ∨ k = 8)
/-- What an instruction does that was paid for. -/
def act (r : Int) (i : Ins) (s : St) : Rs St :=
  if i.k = 1 then .inl { s with p := pst s.p i.d i.n }
  else if i.k = 2 then .inl { s with p := pst s.p i.d (pg s.p i.a) }
  else if i.k = 3 then
    (if i.op = 7 ∧ pg s.p i.b = 0 then .inr ⟨2, 0, s.calls, s.mem, s.left⟩ else .inl { s with p := pst s.p i.d (bnd i.op (pg s.p i.a) (pg s.p i.b)) })
  else if i.k = 4 then .inl { s with p := pst s.p i.d (s.mem.getD (wd (pg s.p i.a)) 0) }
  else if i.k = 5 then .inl { s with mem := s.mem.set (wd (pg s.p i.a)) (pg s.p i.b) }
  else if i.k = 6 then .inl { s with p := pst s.p i.d (s.ans.headD 0), calls := s.calls ++ [⟨i.n, i.args.map (pg s.p)⟩], ans := s.ans.tail }
  else if i.k = 7 then .inl { s with p := pst s.p (r + i.d) (pg s.p i.a) }
  else .inl { s with p := pst s.p i.d (pg s.p (r + i.a)) }
def paid (s : St) : Rs St := if s.left = 0 then .inr ⟨3, 0, s.calls, s.mem, 0⟩ else .inl { s with left := s.left - 1 }
def one (r : Int) (i : Ins) (s : St) : Rs St := if free i.k then act r i s else (paid s).bind (act r i)
def insts (r : Int) : List Ins → St → Rs St
  | [], s => .inl s
  | i :: is, s => (one r i s).bind (insts r is)
def leave (e : En) (s : St) : Rs (Int × St) :=
  if e.k = 3 then .inr ⟨1, pg s.p e.a, s.calls, s.mem, s.left⟩ else if e.k = 2 ∧ pg s.p e.a = 0 then .inl (e.el, s) else .inl (e.to, s)
def fini (e : En) (s : St) : Rs (Int × St) := (paid s).bind (leave e)
def blk (r : Int) (b : Blk) (s : St) : Rs (Int × St) := (insts r b.ins s).bind (fini b.e)
def playN (r : Int) (bs : List Blk) : Nat → Int → St → Out
  | 0, _, s => ⟨3, 0, s.calls, s.mem, 0⟩
  | n + 1, t, s => match blk r (bs.getD t.toNat Blk.zero) s with | .inr o => o | .inl (t', s') => playN r bs n t' s'
def play (r : Int) (bs : List Blk) (t : Int) (s : St) : Out := playN r bs (s.left + 1) t s

/-! ### The fuel -/
theorem act_left {r : Int} {i : Ins} {s s' : St} (h : act r i s = .inl s') : s'.left = s.left := by
  unfold act at h
  repeat' split at h
  all_goals first | (cases h; rfl) | cases h
theorem paid_left {s s' : St} (h : paid s = .inl s') : s'.left + 1 = s.left := by
  unfold paid at h
  split at h
  · cases h
  · cases h
    simp only
    omega
theorem one_left {r : Int} {i : Ins} {s s' : St} (h : one r i s = .inl s') : s'.left ≤ s.left := by
  unfold one at h
  split at h
  · exact Nat.le_of_eq (act_left h)
  · cases hp : paid s with
    | inr o => rw [hp] at h; cases h
    | inl s1 =>
      rw [hp] at h
      have := paid_left hp
      have := act_left (r := r) (i := i) (s := s1) h
      omega
theorem insts_left {r : Int} : ∀ {is : List Ins} {s s' : St}, insts r is s = .inl s' → s'.left ≤ s.left
  | [], s, s', h => by cases h; exact Nat.le_refl _
  | i :: is, s, s', h => by
    unfold insts at h
    cases hp : one r i s with
    | inr o => rw [hp] at h; cases h
    | inl s1 =>
      rw [hp] at h
      have := one_left hp
      have := insts_left (is := is) (s := s1) h
      omega
theorem leave_left {e : En} {s s' : St} {t : Int} (h : leave e s = .inl (t, s')) : s' = s := by
  unfold leave at h
  repeat' split at h
  all_goals first | (cases h; rfl) | cases h
theorem fini_left {e : En} {s s' : St} {t : Int} (h : fini e s = .inl (t, s')) : s'.left < s.left := by
  unfold fini at h
  cases hp : paid s with
  | inr o => rw [hp] at h; cases h
  | inl s1 =>
    rw [hp] at h
    have h1 := paid_left hp
    have h2 := leave_left (e := e) (s := s1) h
    subst h2
    omega
theorem blk_left {r : Int} {b : Blk} {s s' : St} {t : Int} (h : blk r b s = .inl (t, s')) : s'.left < s.left := by
  unfold blk at h
  cases hp : insts r b.ins s with
  | inr o => rw [hp] at h; cases h
  | inl s1 =>
    rw [hp] at h
    have h1 := insts_left hp
    have h2 := fini_left (e := b.e) (s := s1) h
    omega
theorem playN_more (r : Int) (bs : List Blk) : ∀ (n m : Nat) (t : Int) (s : St), s.left < n → s.left < m → playN r bs n t s = playN r bs m t s
  | 0, _, _, _, h, _ => by omega
  | _, 0, _, _, _, h => by omega
  | n + 1, m + 1, t, s, hn, hm => by
    unfold playN
    cases hb : blk r (bs.getD t.toNat Blk.zero) s with
    | inr o => rfl
    | inl x =>
      obtain ⟨t', s'⟩ := x
      have := blk_left hb
      exact playN_more r bs n m t' s' (by omega) (by omega)
/-- How a run goes on. -/
theorem play_eq (r : Int) (bs : List Blk) (t : Int) (s : St) : play r bs t s = match blk r (bs.getD t.toNat Blk.zero) s with | .inr o => o | .inl (t', s') => play r bs t' s' := by
  unfold play
  conv => lhs; unfold playN
  cases hb : blk r (bs.getD t.toNat Blk.zero) s with
  | inr o => rfl
  | inl x =>
    obtain ⟨t', s'⟩ := x
    have := blk_left hb
    exact playN_more r bs _ _ t' s' (by omega) (by omega)
/-- What is left of a block, and what follows. -/
def cont (r : Int) (bs : List Blk) (e : En) (is : List Ins) (s : St) : Out := match (insts r is s).bind (fini e) with | .inr o => o | .inl (t, s') => play r bs t s'
theorem play_cont (r : Int) (bs : List Blk) (t : Int) (s : St) : play r bs t s = cont r bs (bs.getD t.toNat Blk.zero).e (bs.getD t.toNat Blk.zero).ins s := play_eq r bs t s
theorem cont_cons (r : Int) (bs : List Blk) (e : En) (i : Ins) (is : List Ins) (s : St) : cont r bs e (i :: is) s = match one r i s with | .inr o => o | .inl s' => cont r bs e is s' := by
  unfold cont
  show (match ((one r i s).bind (insts r is)).bind (fini e) with | .inr o => o | .inl (t, s') => play r bs t s') = _
  cases one r i s <;> rfl
theorem cont_nil (r : Int) (bs : List Blk) (e : En) (s : St) : cont r bs e [] s = match fini e s with | .inr o => o | .inl (t, s') => play r bs t s' := rfl

/-! ### Every run, by what each step keeps -/
/-- What holds of a state at each block's beginning: Q is what comes of it. -/
theorem play_ind {r : Int} {bs : List Blk} {Q : Int → St → Out → Prop} (hf : ∀ t s o, blk r (bs.getD t.toNat Blk.zero) s = .inr o → Q t s o) (hg : ∀ t s t' s' o, blk r (bs.getD t.toNat Blk.zero) s = .inl (t', s') → Q t' s' o → Q t s o) : ∀ t s, Q t s (play r bs t s) := by
  suffices h : ∀ (n : Nat) (t : Int) (s : St), s.left < n → Q t s (play r bs t s) from fun t s => h (s.left + 1) t s (by omega)
  intro n
  induction n with
  | zero => intro t s h; omega
  | succ n ih =>
    intro t s h
    rw [play_eq]
    cases hb : blk r (bs.getD t.toNat Blk.zero) s with
    | inr o => exact hf t s o hb
    | inl x =>
      obtain ⟨t', s'⟩ := x
      have := blk_left hb
      exact hg t s t' s' _ hb (ih t' s' (by omega))

/-! ### What instructions and ends must name -/
structure OkI (r : Int) (n : Nat) (i : Ins) : Prop where
  k : 1 ≤ i.k ∧ i.k ≤ 8
  op : i.k = 3 → 1 ≤ i.op ∧ i.op ≤ 7
  d : i.k ≠ 5 → i.k ≠ 7 → 0 ≤ i.d ∧ i.d < n
  a : i.k ≠ 1 → i.k ≠ 6 → i.k ≠ 8 → 0 ≤ i.a ∧ i.a < n
  b : i.k = 3 ∨ i.k = 5 → 0 ≤ i.b ∧ i.b < n
  args : i.k = 6 → i.args.length ≤ 3 ∧ ∀ x ∈ i.args, 0 ≤ x ∧ x < n
  d7 : i.k = 7 → 0 ≤ i.d ∧ i.d < 1000 ∧ r + i.d < n
  a8 : i.k = 8 → 0 ≤ i.a ∧ i.a < 1000 ∧ r + i.a < n
structure OkE (n nb : Nat) (e : En) : Prop where
  k : 1 ≤ e.k ∧ e.k ≤ 3
  a : e.k ≠ 1 → 0 ≤ e.a ∧ e.a < n
  to : e.k ≠ 3 → 0 ≤ e.to ∧ e.to < nb
  el : e.k = 2 → 0 ≤ e.el ∧ e.el < nb
def OkB (r : Int) (n nb : Nat) (b : Blk) : Prop := b.ins.length ≤ 1000 ∧ (∀ i ∈ b.ins, OkI r n i) ∧ OkE n nb b.e
def Okay (r : Int) (n : Nat) (bs : List Blk) : Prop := ∀ b ∈ bs, OkB r n bs.length b
theorem okI_of {v : Nat} {i : Ins} (h : inF i v = 0) : OkI v v i := by
  obtain ⟨h1, h2, h3⟩ := inF_all h
  have hx : ∀ x ∈ named i, 0 ≤ x ∧ x < (v : Int) := h3
  unfold formed at h1
  simp only [named, uses, gives] at hx
  by_cases e1 : i.k = 1
  · simp [e1] at hx
    constructor <;> simp [e1] <;> omega
  by_cases e2 : i.k = 2
  · simp [e2] at hx
    constructor <;> simp [e2] <;> omega
  by_cases e3 : i.k = 3
  · simp [e3] at hx h1
    constructor <;> simp [e3] <;> omega
  by_cases e4 : i.k = 4
  · simp [e4] at hx
    constructor <;> simp [e4] <;> omega
  by_cases e5 : i.k = 5
  · simp [e5] at hx
    constructor <;> simp [e5] <;> omega
  by_cases e6 : i.k = 6
  · simp [e6] at hx
    constructor <;> simp [e6]
    · have := hx i.d (.inr rfl)
      omega
    · exact ⟨h2, fun x h => hx x (.inl h)⟩
  simp [e1, e2, e3, e4, e5, e6] at h1
theorem okE_of {v nb : Nat} {e : En} (h : endF e v nb = 0) : OkE v nb e := by
  obtain ⟨h1, h2, h3⟩ := endF_all h
  unfold endFormed at h1
  unfold targets at h3
  unfold takes at h2
  by_cases e1 : e.k = 1
  · simp [e1] at h1 h3
    constructor <;> simp [e1] <;> omega
  by_cases e2 : e.k = 2
  · simp [e2] at h2 h3
    constructor <;> simp [e2] <;> omega
  by_cases e3 : e.k = 3
  · simp [e3] at h1 h2
    constructor <;> simp [e3] <;> omega
  simp [e1, e2, e3] at h1
/-- A right function names what there is. -/
theorem okay_of {F : Fun} {v : Nat} (h : (chk F).1 = 0) (hv : F.v = (v : Int)) : Okay v v F.bs := by
  obtain ⟨h1, h2⟩ := chk_all h
  intro b hb
  obtain ⟨q1, q2, q3⟩ := blkF_all (h2 b hb)
  rw [hv] at q2 q3
  exact ⟨by omega, fun i hi => okI_of (q2 i hi), okE_of q3⟩
end Go.Proofs.Ytblcbccchlljhaa.Ir
namespace Go.Proofs.Ytblcbccchlljhaa.Ir

theorem act_keeps {r : Int} {i : Ins} {s s' : St} (h : act r i s = .inl s') : s'.p.length = s.p.length ∧ s'.left = s.left ∧ s'.calls.length ≤ s.calls.length + (if i.k = 6 then 1 else 0) := by
  unfold act at h
  by_cases e1 : i.k = 1
  · rw [if_pos e1] at h; cases h; simp [pst]
  rw [if_neg e1] at h
  by_cases e2 : i.k = 2
  · rw [if_pos e2] at h; cases h; simp [pst]
  rw [if_neg e2] at h
  by_cases e3 : i.k = 3
  · rw [if_pos e3] at h
    split at h
    · cases h
    · cases h; simp [pst]
  rw [if_neg e3] at h
  by_cases e4 : i.k = 4
  · rw [if_pos e4] at h; cases h; simp [pst]
  rw [if_neg e4] at h
  by_cases e5 : i.k = 5
  · rw [if_pos e5] at h; cases h; simp
  rw [if_neg e5] at h
  by_cases e6 : i.k = 6
  · rw [if_pos e6] at h; cases h; simp [pst, e6]
  rw [if_neg e6] at h
  by_cases e7 : i.k = 7
  · rw [if_pos e7] at h; cases h; simp [pst]
  rw [if_neg e7] at h
  cases h
  simp [pst]
theorem paid_go {s s' : St} (h : paid s = .inl s') : s.left ≠ 0 ∧ s' = { s with left := s.left - 1 } := by
  unfold paid at h
  split at h
  · cases h
  · cases h
    exact ⟨by assumption, rfl⟩
theorem one_keeps {r : Int} {i : Ins} {s s' : St} (h : one r i s = .inl s') : s'.p.length = s.p.length ∧ s'.left ≤ s.left ∧ s'.calls.length + s'.left ≤ s.calls.length + s.left := by
  unfold one at h
  split at h
  · rename_i hf
    obtain ⟨h1, h2, h3⟩ := act_keeps h
    have : i.k ≠ 6 := by intro e; simp [free, e] at hf
    rw [if_neg this] at h3
    exact ⟨h1, by omega, by omega⟩
  · cases hp : paid s with
    | inr o => rw [hp] at h; cases h
    | inl s1 =>
      rw [hp] at h
      obtain ⟨h0, rfl⟩ := paid_go hp
      obtain ⟨h1, h2, h3⟩ := act_keeps (r := r) (i := i) h
      simp only at h1 h2 h3
      split at h3 <;> exact ⟨h1, by omega, by omega⟩
theorem insts_keeps {r : Int} : ∀ {is : List Ins} {s s' : St}, insts r is s = .inl s' → s'.p.length = s.p.length ∧ s'.left ≤ s.left ∧ s'.calls.length + s'.left ≤ s.calls.length + s.left
  | [], s, s', h => by cases h; exact ⟨rfl, Nat.le_refl _, Nat.le_refl _⟩
  | i :: is, s, s', h => by
    unfold insts at h
    cases hp : one r i s with
    | inr o => rw [hp] at h; cases h
    | inl s1 =>
      rw [hp] at h
      obtain ⟨h1, h2, h3⟩ := one_keeps hp
      obtain ⟨q1, q2, q3⟩ := insts_keeps (is := is) (s := s1) h
      exact ⟨by omega, by omega, by omega⟩
theorem fini_keeps {e : En} {s s' : St} {t : Int} (h : fini e s = .inl (t, s')) : s'.p.length = s.p.length ∧ s'.left ≤ s.left ∧ s'.calls.length + s'.left ≤ s.calls.length + s.left := by
  unfold fini at h
  cases hp : paid s with
  | inr o => rw [hp] at h; cases h
  | inl s1 =>
    rw [hp] at h
    obtain ⟨h0, rfl⟩ := paid_go hp
    have h2 := leave_left (e := e) h
    subst h2
    exact ⟨rfl, by simp only; omega, by simp only; omega⟩
theorem blk_keeps {r : Int} {b : Blk} {s s' : St} {t : Int} (h : blk r b s = .inl (t, s')) : s'.p.length = s.p.length ∧ s'.left ≤ s.left ∧ s'.calls.length + s'.left ≤ s.calls.length + s.left := by
  unfold blk at h
  cases hp : insts r b.ins s with
  | inr o => rw [hp] at h; cases h
  | inl s1 =>
    rw [hp] at h
    obtain ⟨h1, h2, h3⟩ := insts_keeps hp
    obtain ⟨q1, q2, q3⟩ := fini_keeps (e := b.e) h
    exact ⟨by omega, by omega, by omega⟩
/-- Where a block goes on to. -/
theorem blk_to {r : Int} {b : Blk} {s s' : St} {t : Int} {n nb : Nat} (hb : OkE n nb b.e) (h : blk r b s = .inl (t, s')) : 0 ≤ t ∧ t < nb := by
  unfold blk at h
  cases hp : insts r b.ins s with
  | inr o => rw [hp] at h; cases h
  | inl s1 =>
    rw [hp] at h
    replace h : fini b.e s1 = .inl (t, s') := h
    unfold fini at h
    cases hq : paid s1 with
    | inr o => rw [hq] at h; cases h
    | inl s2 =>
      rw [hq] at h
      replace h : leave b.e s2 = .inl (t, s') := h
      unfold leave at h
      by_cases e3 : b.e.k = 3
      · rw [if_pos e3] at h; cases h
      · rw [if_neg e3] at h
        split at h
        · rename_i hc
          cases h
          exact hb.el hc.1
        · cases h
          exact hb.to e3
/-- The run's end: how it ended is not 0. -/
theorem act_how {r : Int} {i : Ins} {s : St} {o : Out} (h : act r i s = .inr o) : o.how = 2 := by
  unfold act at h
  repeat' split at h
  all_goals first | (cases h; rfl) | cases h
theorem paid_how {s : St} {o : Out} (h : paid s = .inr o) : o.how = 3 ∧ s.left = 0 := by
  unfold paid at h
  split at h
  · cases h
    exact ⟨rfl, by assumption⟩
  · cases h
theorem insts_drop {r : Int} {is : List Ins} {j : Nat} (h : j < is.length) (s : St) : insts r (is.drop j) s = (one r (is.getD j Ins.zero) s).bind (insts r (is.drop (j + 1))) := by
  rw [List.drop_eq_getElem_cons h]
  simp [insts, List.getElem?_eq_getElem h]
theorem one_free {r : Int} {i : Ins} {s : St} (h : free i.k = true) : one r i s = act r i s := by unfold one; rw [h]; rfl
theorem one_paid {r : Int} {i : Ins} {s : St} (h : free i.k = false) : one r i s = (paid s).bind (act r i) := by unfold one; rw [h]; rfl
theorem act_fin {r : Int} {i : Ins} {s : St} {o : Out} (h : act r i s = .inr o) : o = ⟨2, 0, s.calls, s.mem, s.left⟩ := by
  unfold act at h
  repeat' split at h
  all_goals first | (cases h; rfl) | cases h
theorem paid_fin {s : St} {o : Out} (h : paid s = .inr o) : s.left = 0 ∧ o = ⟨3, 0, s.calls, s.mem, 0⟩ := by
  unfold paid at h
  split at h
  · cases h
    exact ⟨by assumption, rfl⟩
  · cases h
theorem leave_fin {e : En} {s : St} {o : Out} (h : leave e s = .inr o) : o = ⟨1, pg s.p e.a, s.calls, s.mem, s.left⟩ := by
  unfold leave at h
  repeat' split at h
  all_goals first | (cases h; rfl) | cases h
theorem one_fin {r : Int} {i : Ins} {s : St} {o : Out} (h : one r i s = .inr o) : o.left ≤ s.left ∧ o.how ≠ 0 := by
  unfold one at h
  split at h
  · rw [act_fin h]
    simp
  · cases hp : paid s with
    | inr o' =>
      rw [hp] at h
      cases h
      rw [(paid_fin hp).2]
      simp
    | inl s1 =>
      rw [hp] at h
      obtain ⟨_, rfl⟩ := paid_go hp
      rw [act_fin h]
      exact ⟨by simp only; omega, by simp⟩
theorem insts_fin {r : Int} : ∀ {is : List Ins} {s : St} {o : Out}, insts r is s = .inr o → o.left ≤ s.left ∧ o.how ≠ 0
  | [], s, o, h => by cases h
  | i :: is, s, o, h => by
    unfold insts at h
    cases hp : one r i s with
    | inr o' => rw [hp] at h; cases h; exact one_fin hp
    | inl s1 =>
      rw [hp] at h
      have h1 := one_left hp
      have h2 := insts_fin (is := is) (s := s1) h
      exact ⟨by omega, h2.2⟩
theorem fini_fin {e : En} {s : St} {o : Out} (h : fini e s = .inr o) : o.left ≤ s.left ∧ o.how ≠ 0 := by
  unfold fini at h
  cases hp : paid s with
  | inr o' => rw [hp] at h; cases h; rw [(paid_fin hp).2]; simp
  | inl s1 =>
    rw [hp] at h
    obtain ⟨_, rfl⟩ := paid_go hp
    rw [leave_fin h]
    exact ⟨by simp only; omega, by simp⟩
theorem blk_fin {r : Int} {b : Blk} {s : St} {o : Out} (h : blk r b s = .inr o) : o.left ≤ s.left ∧ o.how ≠ 0 := by
  unfold blk at h
  cases hp : insts r b.ins s with
  | inr o' => rw [hp] at h; cases h; exact insts_fin hp
  | inl s1 =>
    rw [hp] at h
    have h1 := insts_left hp
    have h2 := fini_fin (e := b.e) h
    exact ⟨by omega, h2.2⟩
end Go.Proofs.Ytblcbccchlljhaa.Ir
