/- Runs of blocks in plain mathematics: what an instruction does, what an end does, how a run goes from block to block. -/
import Derived.Test.YtepmbkiojpffpaaIr
namespace Go.Proofs.Ytepmbkiojpffpaa.Ir

structure Cl where
  n : Int
  args : List Int
structure St where
  p : List Int
  mem : List Int
  calls : List Cl
  left : Nat
  ans : List Int
structure Out where
  how : Int
  val : Int
  calls : List Cl
  mem : List Int
  left : Nat
/-- A run that goes on, or is over. -/
abbrev Rs (α : Type) : Type := Sum α Out
def Rs.bind {α β : Type} (r : Rs α) (f : α → Rs β) : Rs β := match r with | .inl a => f a | .inr o => .inr o

def pg (p : List Int) (i : Int) : Int := p.getD i.toNat 0
def pst (p : List Int) (i v : Int) : List Int := p.set i.toNat v
/-- Which word of the memory. -/
def wd (x : Int) : Nat := (x % 64).toNat
def bnd (op x y : Int) : Int :=
  if op = 1 then IntKind.i64.wrap (x + y)
  else if op = 2 then IntKind.i64.wrap (x - y)
  else if op = 3 then IntKind.i64.wrap (x * y)
  else if op = 4 then bits .and .i64 x y
  else if op = 5 then bits .xor .i64 x y
  else if op = 6 then (if x < y then 1 else 0)
  else IntKind.i64.wrap (x.tdiv y)
def free (k : Int) : Bool := decide (k = 2 ∨ k = 7 ∨ k = 8)
/-- What an instruction does that was paid for. -/
def act (r : Int) (i : Ins) (s : St) : Rs St :=
  if i.k = 1 then .inl { s with p := pst s.p i.d i.n }
  else if i.k = 2 then .inl { s with p := pst s.p i.d (pg s.p i.a) }
  else if i.k = 3 then
    (if i.op = 7 ∧ pg s.p i.b = 0 then .inr ⟨2, 0, s.calls, s.mem, s.left⟩ else .inl { s with p := pst s.p i.d (bnd i.op (pg s.p i.a) (pg s.p i.b)) })
  else if i.k = 4 then .inl { s with p := pst s.p i.d (s.mem.getD (wd (pg s.p i.a)) 0) }
  else if i.k = 5 then .inl { s with mem := s.mem.set (wd (pg s.p i.a)) (pg s.p i.b) }
  else if i.k = 6 then .inl { s with p := pst s.p i.d (s.ans.headD 0), calls := s.calls ++ [⟨i.n, i.args.map (pg s.p)⟩], ans := s.ans.tail }
  else if i.k = 7 then .inl { s with p := pst s.p (r + i.d) (pg s.p i.a) }
  else .inl { s with p := pst s.p i.d (pg s.p (r + i.a)) }
def paid (s : St) : Rs St := if s.left = 0 then .inr ⟨3, 0, s.calls, s.mem, 0⟩ else .inl { s with left := s.left - 1 }
def one (r : Int) (i : Ins) (s : St) : Rs St := if free i.k then act r i s else (paid s).bind (act r i)
def insts (r : Int) : List Ins → St → Rs St
  | [], s => .inl s
  | i :: is, s => (one r i s).bind (insts r is)
def leave (e : En) (s : St) : Rs (Int × St) :=
  if e.k = 3 then .inr ⟨1, pg s.p e.a, s.calls, s.mem, s.left⟩ else if e.k = 2 ∧ pg s.p e.a = 0 then .inl (e.el, s) else .inl (e.to, s)
def fini (e : En) (s : St) : Rs (Int × St) := (paid s).bind (leave e)
def blk (r : Int) (b : Blk) (s : St) : Rs (Int × St) := (insts r b.ins s).bind (fini b.e)
def playN (r : Int) (bs : List Blk) : Nat → Int → St → Out
  | 0, _, s => ⟨3, 0, s.calls, s.mem, 0⟩
  | n + 1, t, s => match blk r (bs.getD t.toNat Blk.zero) s with | .inr o => o | .inl (t', s') => playN r bs n t' s'
def play (r : Int) (bs : List Blk) (t : Int) (s : St) : Out := playN r bs (s.left + 1) t s

/-! ### The fuel -/
theorem act_left {r : Int} {i : Ins} {s s' : St} (h : act r i s = .inl s') : s'.left = s.left := by
  unfold act at h
  repeat' split at h
  all_goals first | (cases h; rfl) | cases h
theorem paid_left {s s' : St} (h : paid s = .inl s') : s'.left + 1 = s.left := by
  unfold paid at h
  split at h
  · cases h
  · cases h
    simp only
    omega
theorem one_left {r : Int} {i : Ins} {s s' : St} (h : one r i s = .inl s') : s'.left ≤ s.left := by
  unfold one at h
  split at h
  · exact Nat.le_of_eq (act_left h)
  · cases hp : paid s with
    | inr o => rw [hp] at h; cases h
    | inl s1 =>
      rw [hp] at h
      have := paid_left hp
      have := act_left (r := r) (i := i) (s := s1) h
      omega
theorem insts_left {r : Int} : ∀ {is : List Ins} {s s' : St}, insts r is s = .inl s' → s'.left ≤ s.left
  | [], s, s', h => by cases h; exact Nat.le_refl _
  | i :: is, s, s', h => by
    unfold insts at h
    cases hp : one r i s with
    | inr o => rw [hp] at h; cases h
    | inl s1 =>
      rw [hp] at h
      have := one_left hp
      have := insts_left (is := is) (s := s1) h
      omega
theorem leave_left {e : En} {s s' : St} {t : Int} (h : leave e s = .inl (t, s')) : s' = s := by
  unfold leave at h
  repeat' split at h
  all_goals first | (cases h; rfl) | cases h
theorem fini_left {e : En} {s s' : St} {t : Int} (h : fini e s = .inl (t, s')) : s'.left < s.left := by
  unfold fini at h
  cases hp : paid s with
  | inr o => rw [hp] at h; cases h
  | inl s1 =>
    rw [hp] at h
    have h1 := paid_left hp
    have h2 := leave_left (e := e) (s := s1) h
    subst h2
    omega
theorem blk_left {r : Int} {b : Blk} {s s' : St} {t : Int} (h : blk r b s = .inl (t, s')) : s'.left < s.left := by
  unfold blk at h
  cases hp : insts r b.ins s with
  | inr o => rw [hp] at h; cases h
  | inl s1 =>
    rw [hp] at h
    have h1 := insts_left hp
    have h2 := fini_left (e := b.e) (s := s1) h
    omega
theorem playN_more (r : Int) (bs : List Blk) : ∀ (n m : Nat) (t : Int) (s : St), s.left < n → s.left < m → playN r bs n t s = playN r bs m t s
  | 0, _, _, _, h, _ => by omega
  | _, 0, _, _, _, h => by omega
  | n + 1, m + 1, t, s, hn, hm => by
    unfold playN
    cases hb : blk r (bs.getD t.toNat Blk.zero) s with
    | inr o => rfl
    | inl x =>
      obtain ⟨t', s'⟩ := x
      have := blk_left hb
      exact playN_more r bs n m t' s' (by omega) (by omega)
/-- How a run goes on. -/
theorem play_eq (r : Int) (bs : List Blk) (t : Int) (s : St) : play r bs t s = match blk r (bs.getD t.toNat Blk.zero) s with | .inr o => o | .inl (t', s') => play r bs t' s' := by
  unfold play
  conv => lhs; unfold playN
  cases hb : blk r (bs.getD t.toNat Blk.zero) s with
  | inr o => rfl
  | inl x =>
    obtain ⟨t', s'⟩ := x
    have := blk_left hb
    exact playN_more r bs _ _ t' s' (by omega) (by omega)
/-- What is left of a block, and what follows. -/
def cont (r : Int) (bs : List Blk) (e : En) (is : List Ins) (s : St) : Out := match (insts r is s).bind (fini e) with | .inr o => o | .inl (t, s') => play r bs t s'
theorem play_cont (r : Int) (bs : List Blk) (t : Int) (s : St) : play r bs t s = cont r bs (bs.getD t.toNat Blk.zero).e (bs.getD t.toNat Blk.zero).ins s := play_eq r bs t s
theorem cont_cons (r : Int) (bs : List Blk) (e : En) (i : Ins) (is : List Ins) (s : St) : cont r bs e (i :: is) s = match one r i s with | .inr o => o | .inl s' => cont r bs e is s' := by
  unfold cont
  show (match ((one r i s).bind (insts r is)).bind (fini e) with | .inr o => o | .inl (t, s') => play r bs t s') = _
  cases one r i s <;> rfl
theorem cont_nil (r : Int) (bs : List Blk) (e : En) (s : St) : cont r bs e [] s = match fini e s with | .inr o => o | .inl (t, s') => play r bs t s' := rfl

/-! ### Every run, by what each step keeps -/
/-- What holds of a state at each block's beginning: Q is what comes of it. -/
theorem play_ind {r : Int} {bs : List Blk} {Q : Int → St → Out → Prop} (hf : ∀ t s o, blk r (bs.getD t.toNat Blk.zero) s = .inr o → Q t s o) (hg : ∀ t s t' s' o, blk r (bs.getD t.toNat Blk.zero) s = .inl (t', s') → Q t' s' o → Q t s o) : ∀ t s, Q t s (play r bs t s) := by
  suffices h : ∀ (n : Nat) (t : Int) (s : St), s.left < n → Q t s (play r bs t s) from fun t s => h (s.left + 1) t s (by omega)
  intro n
  induction n with
  | zero => intro t s h; omega
  | succ n ih =>
    intro t s h
    rw [play_eq]
    cases hb : blk r (bs.getD t.toNat Blk.zero) s with
    | inr o => exact hf t s o hb
    | inl x =>
      obtain ⟨t', s'⟩ := x
      have := blk_left hb
      exact hg t s t' s' _ hb (ih t' s' (by omega))

/-! ### What instructions and ends must name -/
structure OkI (r : Int) (n : Nat) (i : Ins) : Prop where
  k : 1 ≤ i.k ∧ i.k ≤ 8
  op : i.k = 3 → 1 ≤ i.op ∧ i.op ≤ 7
  d : i.k ≠ 5 → i.k ≠ 7 → 0 ≤ i.d ∧ i.d < n
  a : i.k ≠ 1 → i.k ≠ 6 → i.k ≠ 8 → 0 ≤ i.a ∧ i.a < n
  b : i.k = 3 ∨ i.k = 5 → 0 ≤ i.b ∧ i.b < n
  args : i.k = 6 → i.args.length ≤ 3 ∧ ∀ x ∈ i.args, 0 ≤ x ∧ x < n
  d7 : i.k = 7 → 0 ≤ i.d ∧ i.d < 1000 ∧ r + i.d < n
  a8 : i.k = 8 → 0 ≤ i.a ∧ i.a < 1000 ∧ r + i.a < n
structure OkE (n nb : Nat) (e : En) : Prop where
  k : 1 ≤ e.k ∧ e.k ≤ 3
  a : e.k ≠ 1 → 0 ≤ e.a ∧ e.a < n
  to : e.k ≠ 3 → 0 ≤ e.to ∧ e.to < nb
  el : e.k = 2 → 0 ≤ e.el ∧ e.el < nb
def OkB (r : Int) (n nb : Nat) (b : Blk) : Prop := b.ins.length ≤ 1000 ∧ (∀ i ∈ b.ins, OkI r n i) ∧ OkE n nb b.e
def Okay (r : Int) (n : Nat) (bs : List Blk) : Prop := ∀ b ∈ bs, OkB r n bs.length b
theorem okI_of {v : Nat} {i : Ins} (h : inF i v = 0) : OkI v v i := by
  obtain ⟨h1, h2, h3⟩ := inF_all h
  have hx : ∀ x ∈ named i, 0 ≤ x ∧ x < (v : Int) := h3
  unfold formed at h1
  simp only [named, uses, gives] at hx
  by_cases e1 : i.k = 1
  · simp [e1] at hx
    constructor <;> simp [e1] <;> omega
  by_cases e2 : i.k = 2
  · simp [e2] at hx
    constructor <;> simp [e2] <;> omega
  by_cases e3 : i.k = 3
  · simp [e3] at hx h1
    constructor <;> simp [e3] <;> omega
  by_cases e4 : i.k = 4
  · simp [e4] at hx
    constructor <;> simp [e4] <;> omega
  by_cases e5 : i.k = 5
  · simp [e5] at hx
    constructor <;> simp [e5] <;> omega
  by_cases e6 : i.k = 6
  · simp [e6] at hx
    constructor <;> simp [e6]
    · have := hx i.d (.inr rfl)
      omega
    · exact ⟨h2, fun x h => hx x (.inl h)⟩
  simp [e1, e2, e3, e4, e5, e6] at h1
theorem okE_of {v nb : Nat} {e : En} (h : endF e v nb = 0) : OkE v nb e := by
  obtain ⟨h1, h2, h3⟩ := endF_all h
  unfold endFormed at h1
  unfold targets at h3
  unfold takes at h2
  by_cases e1 : e.k = 1
  · simp [e1] at h1 h3
    constructor <;> simp [e1] <;> omega
  by_cases e2 : e.k = 2
  · simp [e2] at h2 h3
    constructor <;> simp [e2] <;> omega
  by_cases e3 : e.k = 3
  · simp [e3] at h1 h2
    constructor <;> simp [e3] <;> omega
  simp [e1, e2, e3] at h1
/-- A right function names what there is. -/
theorem okay_of {F : Fun} {v : Nat} (h : (chk F).1 = 0) (hv : F.v = (v : Int)) : Okay v v F.bs := by
  obtain ⟨h1, h2⟩ := chk_all h
  intro b hb
  obtain ⟨q1, q2, q3⟩ := blkF_all (h2 b hb)
  rw [hv] at q2 q3
  exact ⟨by omega, fun i hi => okI_of (q2 i hi), okE_of q3⟩
end Go.Proofs.Ytepmbkiojpffpaa.Ir
