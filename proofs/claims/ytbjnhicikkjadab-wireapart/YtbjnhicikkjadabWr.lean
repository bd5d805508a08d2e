/- Functions and code as bytes, in plain mathematics: how they are written, how they are read; what is read is the one way to write it; cut anywhere it is too short. -/
import Derived.Test.YtbjnhicikkjadabIr
import Derived.Test.YtbjnhicikkjadabLm
namespace Go.Proofs.Ytbjnhicikkjadab.Wire
open Leb Ir

/-- What is read, and what is left; or a fault. -/
abbrev Pr (α : Type) : Type := Sum (α × List Int) Int
def Pr.bind {α β : Type} (p : Pr α) (f : α → List Int → Pr β) : Pr β := match p with | .inl x => f x.1 x.2 | .inr c => .inr c
theorem bind_inl {α β : Type} {p : Pr α} {f : α → List Int → Pr β} {y : β × List Int} (h : p.bind f = .inl y) : ∃ a r, p = .inl (a, r) ∧ f a r = .inl y := by
  cases p with
  | inl x => exact ⟨x.1, x.2, rfl, h⟩
  | inr c => cases h
theorem inl_bind {α β : Type} {a : α} {r : List Int} {f : α → List Int → Pr β} : Pr.bind (.inl (a, r)) f = f a r := rfl
def numP (xs : List Int) : Pr Nat := if (num 0 0 xs).2.2 = 0 then .inl ((num 0 0 xs).1, xs.drop (num 0 0 xs).2.1) else .inr (num 0 0 xs).2.2
def belP (lim : Nat) (xs : List Int) : Pr Int := (numP xs).bind fun n r => if n < lim then .inl ((n : Int), r) else .inr 2
def argsP : Nat → List Int → Pr (List Int)
  | 0, xs => .inl ([], xs)
  | c + 1, xs => (belP 4096 xs).bind fun a r => (argsP c r).bind fun as r => .inl (a :: as, r)
def insK (k : Int) (xs : List Int) : Pr Ins :=
  if k = 1 then (belP 4096 xs).bind fun d r => (numP r).bind fun n r => .inl (⟨1, 0, d, 0, 0, zag n, []⟩, r)
  else if k = 3 then (belP 256 xs).bind fun o r => (belP 4096 r).bind fun d r => (belP 4096 r).bind fun a r => (belP 4096 r).bind fun b r => .inl (⟨3, o, d, a, b, 0, []⟩, r)
  else if k = 5 then (belP 4096 xs).bind fun a r => (belP 4096 r).bind fun b r => .inl (⟨5, 0, 0, a, b, 0, []⟩, r)
  else if k = 6 then (belP 4096 xs).bind fun d r => (numP r).bind fun n r => (belP 4 r).bind fun c r => (argsP c.toNat r).bind fun as r => .inl (⟨6, 0, d, 0, 0, zag n, as⟩, r)
  else (belP 4096 xs).bind fun d r => (belP 4096 r).bind fun a r => .inl (⟨k, 0, d, a, 0, 0, []⟩, r)
def insP (xs : List Int) : Pr Ins := (belP 256 xs).bind fun k r => if 1 ≤ k ∧ k ≤ 8 then insK k r else .inr 20
def inssP : Nat → List Int → Pr (List Ins)
  | 0, xs => .inl ([], xs)
  | c + 1, xs => (insP xs).bind fun i r => (inssP c r).bind fun is r => .inl (i :: is, r)
def endK (k : Int) (xs : List Int) : Pr En :=
  if k = 1 then (belP 4096 xs).bind fun t r => .inl (⟨1, 0, t, 0⟩, r)
  else if k = 2 then (belP 4096 xs).bind fun a r => (belP 4096 r).bind fun t r => (belP 4096 r).bind fun l r => .inl (⟨2, a, t, l⟩, r)
  else (belP 4096 xs).bind fun a r => .inl (⟨3, a, 0, 0⟩, r)
def endP (xs : List Int) : Pr En := (belP 256 xs).bind fun k r => if 1 ≤ k ∧ k ≤ 3 then endK k r else .inr 20
def blkP (most : Nat) (xs : List Int) : Pr Blk := (belP (most + 1) xs).bind fun m r => (inssP m.toNat r).bind fun is r => (endP r).bind fun e r => .inl (⟨is, e⟩, r)
def blksP (most : Nat) : Nat → List Int → Pr (List Blk)
  | 0, xs => .inl ([], xs)
  | c + 1, xs => (blkP most xs).bind fun b r => (blksP most c r).bind fun bs r => .inl (b :: bs, r)
def allP (most : Nat) (xs : List Int) : Pr (List Blk) := (belP 17 xs).bind fun n r => blksP most n.toNat r
def codP (xs : List Int) : Pr Cod := (belP 4096 xs).bind fun p r => (belP 4096 r).bind fun g r => (belP 4096 r).bind fun s r => (allP 400 r).bind fun bs r => .inl (⟨p, g, s, bs⟩, r)
def funP (xs : List Int) : Pr Fun := (belP 4096 xs).bind fun p r => (belP 4096 r).bind fun v r => (allP 32 r).bind fun bs r => .inl (⟨p, v, bs⟩, r)

/-! ### What is taken is taken alone -/
def Lc {α : Type} (p : List Int → Pr α) : Prop := ∀ xs a r, p xs = .inl (a, r) → ∃ pre, xs = pre ++ r ∧ (∀ r', p (pre ++ r') = .inl (a, r')) ∧ ∀ c, c < pre.length → p (pre.take c) = .inr 3
theorem Lc.pure {α : Type} (a : α) : Lc fun xs => .inl (a, xs) := by
  intro xs b r h
  simp only [Sum.inl.injEq, Prod.mk.injEq] at h
  obtain ⟨rfl, rfl⟩ := h
  exact ⟨[], rfl, fun _ => rfl, fun c hc => by simp at hc⟩
theorem Lc.fail {α : Type} (c : Int) : Lc (α := α) fun _ => .inr c := fun _ _ _ h => by cases h
theorem Lc.ite {α : Type} {c : Prop} [Decidable c] {p q : List Int → Pr α} (hp : Lc p) (hq : Lc q) : Lc fun xs => if c then p xs else q xs := by
  by_cases h : c
  · simpa [h] using hp
  · simpa [h] using hq
theorem Lc.bind {α β : Type} {p : List Int → Pr α} {q : α → List Int → Pr β} (hp : Lc p) (hq : ∀ a, Lc (q a)) : Lc fun xs => (p xs).bind q := by
  intro xs b r h
  obtain ⟨a, r1, h1, h2⟩ := bind_inl h
  obtain ⟨pre, rfl, p2, p3⟩ := hp xs a r1 h1
  obtain ⟨pre', rfl, q2, q3⟩ := hq a r1 b r h2
  refine ⟨pre ++ pre', by simp, fun r' => ?_, fun c hc => ?_⟩
  · simp only [List.append_assoc, p2, Pr.bind, q2]
  · by_cases hlt : c < pre.length
    · have e : (pre ++ pre').take c = pre.take c := List.take_append_of_le_length (by omega)
      simp only [e, p3 c hlt, Pr.bind]
    · have e : (pre ++ pre').take c = pre ++ pre'.take (c - pre.length) := by
        rw [List.take_append, List.take_of_length_le (by omega)]
      simp only [e, p2, Pr.bind]
      exact q3 _ (by simp at hc; omega)
theorem num_loc : ∀ (xs : List Int) (i acc : Nat), (num i acc xs).2.2 = 0 → (∀ r', num i acc (xs.take ((num i acc xs).2.1 - i) ++ r') = num i acc xs) ∧ ∀ c, c < (num i acc xs).2.1 - i → (num i acc (xs.take c)).2.2 = 3
  | [], i, acc, h => by simp [num] at h
  | x :: cs, i, acc, h => by
    by_cases h1 : (i = 9 ∧ 1 < x) ∨ (0 < i ∧ x = 0)
    · rw [num, if_pos h1] at h
      simp at h
    · by_cases h2 : x < 128
      · rw [num_last h1 h2]
        refine ⟨fun r' => ?_, fun c hc => ?_⟩
        · have : (i + 1 - i) = 1 := by omega
          simp only [this, List.take_succ_cons, List.take_zero, List.cons_append, List.nil_append]
          exact num_last h1 h2
        · have : c = 0 := by simp only at hc; omega
          subst this
          simp [num]
      · rw [num_more h1 h2] at h ⊢
        have hs := num_size cs (i + 1) _ h
        obtain ⟨g1, g2⟩ := num_loc cs (i + 1) _ h
        generalize hj : (num (i + 1) (acc + x.toNat % 128 * 128 ^ i) cs).2.1 = j at *
        have e : j - i = (j - (i + 1)) + 1 := by omega
        rw [e]
        refine ⟨fun r' => ?_, fun c hc => ?_⟩
        · rw [List.take_succ_cons, List.cons_append, num_more h1 h2]
          exact g1 r'
        · cases c with
          | zero => simp [num]
          | succ c =>
            rw [List.take_succ_cons, num_more h1 h2]
            exact g2 c (by omega)
theorem lc_num : Lc numP := by
  intro xs n r h
  unfold numP at h
  split at h
  · rename_i h0
    simp only [Sum.inl.injEq, Prod.mk.injEq] at h
    obtain ⟨rfl, rfl⟩ := h
    obtain ⟨g1, g2⟩ := num_loc xs 0 0 h0
    have hs := num_size xs 0 0 h0
    simp only [Nat.sub_zero] at g1 g2
    refine ⟨xs.take (num 0 0 xs).2.1, by rw [List.take_append_drop], fun r' => ?_, fun c hc => ?_⟩
    · unfold numP
      rw [g1 r', if_pos h0, List.drop_append_of_le_length (by simp; omega), List.drop_of_length_le (by rw [List.length_take]; omega)]
      rfl
    · rw [List.length_take] at hc
      have e : (xs.take (num 0 0 xs).2.1).take c = xs.take c := by rw [List.take_take]; congr 1; omega
      unfold numP
      rw [e, g2 c (by omega)]
      rfl
  · cases h
theorem lc_bel (lim : Nat) : Lc (belP lim) := Lc.bind lc_num fun _ => Lc.ite (Lc.pure _) (Lc.fail _)
theorem lc_args : ∀ c, Lc (argsP c)
  | 0 => Lc.pure _
  | c + 1 => Lc.bind (lc_bel _) fun _ => Lc.bind (lc_args c) fun _ => Lc.pure _
theorem lc_insK (k : Int) : Lc (insK k) :=
  Lc.ite (Lc.bind (lc_bel _) fun _ => Lc.bind lc_num fun _ => Lc.pure _)
    (Lc.ite (Lc.bind (lc_bel _) fun _ => Lc.bind (lc_bel _) fun _ => Lc.bind (lc_bel _) fun _ => Lc.bind (lc_bel _) fun _ => Lc.pure _)
      (Lc.ite (Lc.bind (lc_bel _) fun _ => Lc.bind (lc_bel _) fun _ => Lc.pure _)
        (Lc.ite (Lc.bind (lc_bel _) fun _ => Lc.bind lc_num fun _ => Lc.bind (lc_bel _) fun c => Lc.bind (lc_args c.toNat) fun _ => Lc.pure _)
          (Lc.bind (lc_bel _) fun _ => Lc.bind (lc_bel _) fun _ => Lc.pure _))))
theorem lc_ins : Lc insP := Lc.bind (lc_bel _) fun k => Lc.ite (lc_insK k) (Lc.fail _)
theorem lc_inss : ∀ c, Lc (inssP c)
  | 0 => Lc.pure _
  | c + 1 => Lc.bind lc_ins fun _ => Lc.bind (lc_inss c) fun _ => Lc.pure _
theorem lc_endK (k : Int) : Lc (endK k) :=
  Lc.ite (Lc.bind (lc_bel _) fun _ => Lc.pure _) (Lc.ite (Lc.bind (lc_bel _) fun _ => Lc.bind (lc_bel _) fun _ => Lc.bind (lc_bel _) fun _ => Lc.pure _) (Lc.bind (lc_bel _) fun _ => Lc.pure _))
theorem lc_end : Lc endP := Lc.bind (lc_bel _) fun k => Lc.ite (lc_endK k) (Lc.fail _)
theorem lc_blk (most : Nat) : Lc (blkP most) := Lc.bind (lc_bel _) fun m => Lc.bind (lc_inss m.toNat) fun _ => Lc.bind lc_end fun _ => Lc.pure _
theorem lc_blks (most : Nat) : ∀ c, Lc (blksP most c)
  | 0 => Lc.pure _
  | c + 1 => Lc.bind (lc_blk most) fun _ => Lc.bind (lc_blks most c) fun _ => Lc.pure _
theorem lc_all (most : Nat) : Lc (allP most) := Lc.bind (lc_bel _) fun n => lc_blks most n.toNat
theorem lc_fun : Lc funP := Lc.bind (lc_bel _) fun _ => Lc.bind (lc_bel _) fun _ => Lc.bind (lc_all _) fun _ => Lc.pure _
theorem lc_cod : Lc codP := Lc.bind (lc_bel _) fun _ => Lc.bind (lc_bel _) fun _ => Lc.bind (lc_bel _) fun _ => Lc.bind (lc_all _) fun _ => Lc.pure _

/-! ### How they are written -/
def nb (x : Int) : List Int := enc x.toNat
def insB (i : Ins) : List Int :=
  nb i.k ++ (if i.k = 1 then nb i.d ++ enc (zig i.n) else if i.k = 3 then nb i.op ++ (nb i.d ++ (nb i.a ++ nb i.b)) else if i.k = 5 then nb i.a ++ nb i.b else if i.k = 6 then nb i.d ++ (enc (zig i.n) ++ (enc i.args.length ++ i.args.flatMap nb)) else nb i.d ++ nb i.a)
def endB (e : En) : List Int := nb e.k ++ (if e.k = 1 then nb e.to else if e.k = 2 then nb e.a ++ (nb e.to ++ nb e.el) else nb e.a)
def blkB (b : Blk) : List Int := enc b.ins.length ++ (b.ins.flatMap insB ++ endB b.e)
def allB (bs : List Blk) : List Int := enc bs.length ++ bs.flatMap blkB
def funB (F : Fun) : List Int := nb F.p ++ (nb F.v ++ allB F.bs)
def codB (C : Cod) : List Int := nb C.p ++ (nb C.r ++ (nb C.s ++ allB C.bs))
theorem numP_enc {n : Nat} (h : Fits n) (r : List Int) : numP (enc n ++ r) = .inl (n, r) := by
  have h1 := num_back n 0 0 r (by omega) (by have := h.out; omega) (by omega)
  unfold numP
  rw [h1]
  simp
theorem belP_nb {lim : Nat} {x : Int} (h : 0 ≤ x ∧ x < lim) (hl : lim ≤ 65536) (r : List Int) : belP lim (nb x ++ r) = .inl (x, r) := by
  unfold belP nb
  rw [numP_enc (by unfold Fits; omega)]
  show (if x.toNat < lim then _ else _) = _
  rw [if_pos (by omega)]
  have : ((x.toNat : Nat) : Int) = x := by omega
  rw [this]
theorem belP_enc {lim n : Nat} (h : n < lim) (hl : lim ≤ 65536) (r : List Int) : belP lim (enc n ++ r) = .inl ((n : Int), r) := by
  have := belP_nb (lim := lim) (x := (n : Int)) (by omega) hl r
  simpa [nb] using this
theorem belP_4 {x : Int} (h : 0 ≤ x ∧ x < 4096) (r : List Int) : belP 4096 (nb x ++ r) = .inl (x, r) := belP_nb (lim := 4096) (by omega) (by omega) r
theorem belP_256 {x : Int} (h : 0 ≤ x ∧ x < 256) (r : List Int) : belP 256 (nb x ++ r) = .inl (x, r) := belP_nb (lim := 256) (by omega) (by omega) r
/-- What may be written, and read back. -/
structure WfI (i : Ins) : Prop where
  k : 1 ≤ i.k ∧ i.k ≤ 8
  op : if i.k = 3 then 0 ≤ i.op ∧ i.op < 256 else i.op = 0
  d : if i.k = 5 then i.d = 0 else 0 ≤ i.d ∧ i.d < 4096
  a : if i.k = 1 ∨ i.k = 6 then i.a = 0 else 0 ≤ i.a ∧ i.a < 4096
  b : if i.k = 3 ∨ i.k = 5 then 0 ≤ i.b ∧ i.b < 4096 else i.b = 0
  n : if i.k = 1 ∨ i.k = 6 then -9223372036854775808 ≤ i.n ∧ i.n ≤ 9223372036854775807 else i.n = 0
  args : if i.k = 6 then i.args.length < 4 ∧ ∀ x ∈ i.args, 0 ≤ x ∧ x < 4096 else i.args = []
structure WfE (e : En) : Prop where
  k : 1 ≤ e.k ∧ e.k ≤ 3
  a : if e.k = 1 then e.a = 0 else 0 ≤ e.a ∧ e.a < 4096
  to : if e.k = 3 then e.to = 0 else 0 ≤ e.to ∧ e.to < 4096
  el : if e.k = 2 then 0 ≤ e.el ∧ e.el < 4096 else e.el = 0
def WfB (most : Nat) (b : Blk) : Prop := b.ins.length ≤ most ∧ (∀ i ∈ b.ins, WfI i) ∧ WfE b.e
theorem argsP_back : ∀ (l : List Int), (∀ x ∈ l, 0 ≤ x ∧ x < 4096) → ∀ r, argsP l.length (l.flatMap nb ++ r) = .inl (l, r)
  | [], _, _ => rfl
  | x :: l, h, r => by
    show (belP 4096 ((nb x ++ l.flatMap nb) ++ r)).bind _ = _
    rw [List.append_assoc, belP_4 (h x (by simp))]
    rw [inl_bind]
    rw [argsP_back l (fun y hy => h y (by simp [hy])) r]
    rfl
theorem insP_back {i : Ins} (h : WfI i) (r : List Int) : insP (insB i ++ r) = .inl (i, r) := by
  obtain ⟨k, op, d, a, b, n, args⟩ := i
  obtain ⟨hk, hop, hd, ha, hb, hn, hargs⟩ := h
  simp only at hk hop hd ha hb hn hargs
  unfold insP insB
  simp only [List.append_assoc]
  rw [belP_256 (x := k) (by omega)]
  rw [inl_bind]
  rw [if_pos hk]
  unfold insK
  by_cases k1 : k = 1
  · simp [k1] at hop hd ha hb hn hargs
    subst hop ha hb hargs
    simp only [k1, if_true, List.append_assoc]
    rw [belP_4 hd]
    rw [inl_bind]
    rw [numP_enc (zig_lt hn.1 hn.2)]
    rw [inl_bind]
    rw [zag_zig]
  by_cases k3 : k = 3
  · simp [k3] at hop hd ha hb hn hargs
    subst hn hargs
    simp only [k3, show ¬ ((3 : Int) = 1) by decide, if_true, if_false, List.append_assoc]
    rw [belP_256 hop]
    rw [inl_bind]
    rw [belP_4 hd]
    rw [inl_bind]
    rw [belP_4 ha]
    rw [inl_bind]
    rw [belP_4 hb]
    rfl
  by_cases k5 : k = 5
  · simp [k5] at hop hd ha hb hn hargs
    subst hop hd hn hargs
    simp only [k5, show ¬ ((5 : Int) = 1) by decide, show ¬ ((5 : Int) = 3) by decide, if_true, if_false, List.append_assoc]
    rw [belP_4 ha]
    rw [inl_bind]
    rw [belP_4 hb]
    rfl
  by_cases k6 : k = 6
  · simp [k6] at hop hd ha hb hn hargs
    subst hop ha hb
    simp only [k6, show ¬ ((6 : Int) = 1) by decide, show ¬ ((6 : Int) = 3) by decide, show ¬ ((6 : Int) = 5) by decide, if_true, if_false, List.append_assoc]
    rw [belP_4 hd]
    rw [inl_bind]
    rw [numP_enc (zig_lt hn.1 hn.2)]
    rw [inl_bind]
    rw [belP_enc (lim := 4) (by omega) (by omega)]
    rw [inl_bind]
    rw [Int.toNat_natCast, argsP_back args hargs.2]
    rw [inl_bind]
    rw [zag_zig]
  · simp [k1, k3, k5, k6] at hop hd ha hb hn hargs
    subst hop hb hn hargs
    simp only [k1, k3, k5, k6, if_false, List.append_assoc]
    rw [belP_4 hd]
    rw [inl_bind]
    rw [belP_4 ha]
    rfl
theorem inssP_back : ∀ (l : List Ins), (∀ i ∈ l, WfI i) → ∀ r, inssP l.length (l.flatMap insB ++ r) = .inl (l, r)
  | [], _, _ => rfl
  | x :: l, h, r => by
    show (insP ((insB x ++ l.flatMap insB) ++ r)).bind _ = _
    rw [List.append_assoc, insP_back (h x (by simp))]
    rw [inl_bind]
    rw [inssP_back l (fun y hy => h y (by simp [hy])) r]
    rfl
theorem endP_back {e : En} (h : WfE e) (r : List Int) : endP (endB e ++ r) = .inl (e, r) := by
  obtain ⟨k, a, t, l⟩ := e
  obtain ⟨hk, ha, ht, hl⟩ := h
  simp only at hk ha ht hl
  unfold endP endB
  simp only [List.append_assoc]
  rw [belP_256 (x := k) (by omega)]
  rw [inl_bind]
  rw [if_pos hk]
  unfold endK
  have hk' : k = 1 ∨ k = 2 ∨ k = 3 := by omega
  rcases hk' with rfl | rfl | rfl
  · simp at ha ht hl
    subst ha hl
    simp only [if_true]
    rw [belP_4 ht]
    rfl
  · simp at ha ht hl
    simp only [show ¬ ((2 : Int) = 1) by decide, if_false, if_true, List.append_assoc]
    rw [belP_4 ha]
    rw [inl_bind]
    rw [belP_4 ht]
    rw [inl_bind]
    rw [belP_4 hl]
    rfl
  · simp at ha ht hl
    subst ht hl
    simp only [show ¬ ((3 : Int) = 1) by decide, show ¬ ((3 : Int) = 2) by decide, if_false]
    rw [belP_4 ha]
    rfl
theorem blkP_back {most : Nat} {b : Blk} (h : WfB most b) (hm : most ≤ 1000) (r : List Int) : blkP most (blkB b ++ r) = .inl (b, r) := by
  obtain ⟨h1, h2, h3⟩ := h
  unfold blkP blkB
  simp only [List.append_assoc]
  rw [belP_enc (lim := most + 1) (by omega) (by omega)]
  rw [inl_bind]
  rw [Int.toNat_natCast, inssP_back _ h2]
  rw [inl_bind]
  rw [endP_back h3]
  rfl
theorem blksP_back {most : Nat} (hm : most ≤ 1000) : ∀ (l : List Blk), (∀ b ∈ l, WfB most b) → ∀ r, blksP most l.length (l.flatMap blkB ++ r) = .inl (l, r)
  | [], _, _ => rfl
  | x :: l, h, r => by
    show (blkP most ((blkB x ++ l.flatMap blkB) ++ r)).bind _ = _
    rw [List.append_assoc, blkP_back (h x (by simp)) hm]
    rw [inl_bind]
    rw [blksP_back hm l (fun y hy => h y (by simp [hy])) r]
    rfl
theorem allP_back {most : Nat} (hm : most ≤ 1000) {l : List Blk} (hl : l.length ≤ 16) (h : ∀ b ∈ l, WfB most b) (r : List Int) : allP most (allB l ++ r) = .inl (l, r) := by
  unfold allP allB
  rw [List.append_assoc, belP_enc (lim := 17) (by omega) (by omega)]
  rw [inl_bind]
  rw [Int.toNat_natCast, blksP_back hm l h]
theorem funP_back {F : Fun} (hp : 0 ≤ F.p ∧ F.p < 4096) (hv : 0 ≤ F.v ∧ F.v < 4096) (hl : F.bs.length ≤ 16) (h : ∀ b ∈ F.bs, WfB 32 b) (r : List Int) : funP (funB F ++ r) = .inl (F, r) := by
  unfold funP funB
  simp only [List.append_assoc]
  rw [belP_4 hp]
  rw [inl_bind]
  rw [belP_4 hv]
  rw [inl_bind]
  rw [allP_back (by omega) hl h]
  rfl
theorem codP_back {C : Cod} (hp : 0 ≤ C.p ∧ C.p < 4096) (hr : 0 ≤ C.r ∧ C.r < 4096) (hs : 0 ≤ C.s ∧ C.s < 4096) (hl : C.bs.length ≤ 16) (h : ∀ b ∈ C.bs, WfB 400 b) (r : List Int) : codP (codB C ++ r) = .inl (C, r) := by
  unfold codP codB
  simp only [List.append_assoc]
  rw [belP_4 hp]
  rw [inl_bind]
  rw [belP_4 hr]
  rw [inl_bind]
  rw [belP_4 hs]
  rw [inl_bind]
  rw [allP_back (by omega) hl h]
  rfl
/-! ### What is read is the one way to write it -/
def Bs (xs : List Int) : Prop := ∀ x ∈ xs, 0 ≤ x ∧ x < 256
theorem Bs.right {xs ys : List Int} (h : Bs (xs ++ ys)) : Bs ys := fun x hx => h x (by simp [hx])
theorem zig_zag (n : Nat) : zig (zag n) = n := by
  unfold zig zag
  split <;> split <;> omega
theorem zag_in {n : Nat} (h : Fits n) : -9223372036854775808 ≤ zag n ∧ zag n ≤ 9223372036854775807 := by
  have := h.out
  unfold zag
  split <;> omega
theorem numP_inv {xs r : List Int} {n : Nat} (hx : Bs xs) (h : numP xs = .inl (n, r)) : xs = enc n ++ r ∧ Fits n := by
  unfold numP at h
  split at h
  · rename_i h0
    simp only [Sum.inl.injEq, Prod.mk.injEq] at h
    obtain ⟨rfl, rfl⟩ := h
    obtain ⟨k, h1, h2, _⟩ := num_enc xs 0 0 hx h0
    have hk : (num 0 0 xs).1 = k := by simpa using h1
    refine ⟨?_, num_fits xs 0 0 hx (by omega) (by simp)⟩
    rw [hk, h2, Nat.sub_zero, List.take_append_drop]
  · cases h
theorem belP_inv {lim : Nat} {xs r : List Int} {x : Int} (hx : Bs xs) (h : belP lim xs = .inl (x, r)) : xs = nb x ++ r ∧ 0 ≤ x ∧ x < lim := by
  obtain ⟨n, r', h1, h2⟩ := bind_inl h
  obtain ⟨rfl, _⟩ := numP_inv hx h1
  split at h2
  · rename_i hl
    simp only [Sum.inl.injEq, Prod.mk.injEq] at h2
    obtain ⟨rfl, rfl⟩ := h2
    exact ⟨by simp [nb], by omega, by omega⟩
  · cases h2
theorem inl_eq {α : Type} {a b : α} {r r' : List Int} (h : (Sum.inl (a, r) : Pr α) = .inl (b, r')) : a = b ∧ r = r' := by
  simpa using h
theorem argsP_inv : ∀ (c : Nat) {xs l r : List Int}, Bs xs → argsP c xs = .inl (l, r) → l.length = c ∧ xs = l.flatMap nb ++ r ∧ ∀ x ∈ l, 0 ≤ x ∧ x < 4096
  | 0, xs, l, r, _, h => by
    obtain ⟨rfl, rfl⟩ := inl_eq h
    exact ⟨rfl, rfl, fun x hx => by simp at hx⟩
  | c + 1, xs, l, r, hx, h => by
    obtain ⟨a, r1, h1, h2⟩ := bind_inl h
    obtain ⟨rfl, a0, a1⟩ := belP_inv hx h1
    obtain ⟨as, r2, h3, h4⟩ := bind_inl h2
    obtain ⟨g1, rfl, g3⟩ := argsP_inv c hx.right h3
    obtain ⟨rfl, rfl⟩ := inl_eq h4
    refine ⟨by simp [g1], by simp, fun x hx => ?_⟩
    rcases List.mem_cons.1 hx with rfl | hx
    · exact ⟨a0, a1⟩
    · exact g3 x hx
theorem insP_inv {xs r : List Int} {i : Ins} (hx : Bs xs) (h : insP xs = .inl (i, r)) : xs = insB i ++ r ∧ WfI i := by
  obtain ⟨k, r1, h1, h2⟩ := bind_inl h
  obtain ⟨rfl, _, _⟩ := belP_inv hx h1
  replace hx := hx.right
  split at h2
  · rename_i hk
    unfold insK at h2
    by_cases k1 : k = 1
    · subst k1
      rw [if_pos rfl] at h2
      obtain ⟨d, r2, h3, h4⟩ := bind_inl h2
      obtain ⟨rfl, d0, d1⟩ := belP_inv hx h3
      obtain ⟨n, r3, h5, h6⟩ := bind_inl h4
      obtain ⟨rfl, hf⟩ := numP_inv hx.right h5
      obtain ⟨rfl, rfl⟩ := inl_eq h6
      have hz := zag_in hf
      refine ⟨by simp [insB, zig_zag], ?_⟩
      constructor <;> simp <;> omega
    rw [if_neg k1] at h2
    by_cases k3 : k = 3
    · subst k3
      rw [if_pos rfl] at h2
      obtain ⟨o, r2, h3, h4⟩ := bind_inl h2
      obtain ⟨rfl, o0, o1⟩ := belP_inv hx h3
      obtain ⟨d, r3, h5, h6⟩ := bind_inl h4
      obtain ⟨rfl, d0, d1⟩ := belP_inv hx.right h5
      obtain ⟨a, r4, h7, h8⟩ := bind_inl h6
      obtain ⟨rfl, a0, a1⟩ := belP_inv hx.right.right h7
      obtain ⟨b, r5, h9, h10⟩ := bind_inl h8
      obtain ⟨rfl, b0, b1⟩ := belP_inv hx.right.right.right h9
      obtain ⟨rfl, rfl⟩ := inl_eq h10
      refine ⟨by simp [insB], ?_⟩
      constructor <;> simp <;> omega
    rw [if_neg k3] at h2
    by_cases k5 : k = 5
    · subst k5
      rw [if_pos rfl] at h2
      obtain ⟨a, r4, h7, h8⟩ := bind_inl h2
      obtain ⟨rfl, a0, a1⟩ := belP_inv hx h7
      obtain ⟨b, r5, h9, h10⟩ := bind_inl h8
      obtain ⟨rfl, b0, b1⟩ := belP_inv hx.right h9
      obtain ⟨rfl, rfl⟩ := inl_eq h10
      refine ⟨by simp [insB], ?_⟩
      constructor <;> simp <;> omega
    rw [if_neg k5] at h2
    by_cases k6 : k = 6
    · subst k6
      rw [if_pos rfl] at h2
      obtain ⟨d, r2, h3, h4⟩ := bind_inl h2
      obtain ⟨rfl, d0, d1⟩ := belP_inv hx h3
      obtain ⟨n, r3, h5, h6⟩ := bind_inl h4
      obtain ⟨rfl, hf⟩ := numP_inv hx.right h5
      obtain ⟨c, r4, h7, h8⟩ := bind_inl h6
      obtain ⟨rfl, c0, c1⟩ := belP_inv hx.right.right h7
      obtain ⟨as, r5, h9, h10⟩ := bind_inl h8
      obtain ⟨g1, rfl, g3⟩ := argsP_inv c.toNat hx.right.right.right h9
      obtain ⟨rfl, rfl⟩ := inl_eq h10
      have hz := zag_in hf
      refine ⟨by simp [insB, zig_zag, nb, g1], ?_⟩
      constructor <;> simp
      · omega
      · omega
      · exact ⟨by omega, g3⟩
    rw [if_neg k6] at h2
    obtain ⟨d, r2, h3, h4⟩ := bind_inl h2
    obtain ⟨rfl, d0, d1⟩ := belP_inv hx h3
    obtain ⟨a, r3, h5, h6⟩ := bind_inl h4
    obtain ⟨rfl, a0, a1⟩ := belP_inv hx.right h5
    obtain ⟨rfl, rfl⟩ := inl_eq h6
    refine ⟨by simp [insB, k1, k3, k5, k6], ?_⟩
    constructor <;> simp [k1, k3, k5, k6] <;> omega
  · cases h2
theorem inssP_inv : ∀ (c : Nat) {xs r : List Int} {l : List Ins}, Bs xs → inssP c xs = .inl (l, r) → l.length = c ∧ xs = l.flatMap insB ++ r ∧ ∀ i ∈ l, WfI i
  | 0, xs, r, l, _, h => by
    obtain ⟨rfl, rfl⟩ := inl_eq h
    exact ⟨rfl, rfl, fun x hx => by simp at hx⟩
  | c + 1, xs, r, l, hx, h => by
    obtain ⟨a, r1, h1, h2⟩ := bind_inl h
    obtain ⟨rfl, hw⟩ := insP_inv hx h1
    obtain ⟨as, r2, h3, h4⟩ := bind_inl h2
    obtain ⟨g1, rfl, g3⟩ := inssP_inv c hx.right h3
    obtain ⟨rfl, rfl⟩ := inl_eq h4
    refine ⟨by simp [g1], by simp, fun x hx => ?_⟩
    rcases List.mem_cons.1 hx with rfl | hx
    · exact hw
    · exact g3 x hx
theorem endP_inv {xs r : List Int} {e : En} (hx : Bs xs) (h : endP xs = .inl (e, r)) : xs = endB e ++ r ∧ WfE e := by
  obtain ⟨k, r1, h1, h2⟩ := bind_inl h
  obtain ⟨rfl, _, _⟩ := belP_inv hx h1
  replace hx := hx.right
  split at h2
  · rename_i hk
    unfold endK at h2
    by_cases k1 : k = 1
    · subst k1
      rw [if_pos rfl] at h2
      obtain ⟨t, r2, h3, h4⟩ := bind_inl h2
      obtain ⟨rfl, t0, t1⟩ := belP_inv hx h3
      obtain ⟨rfl, rfl⟩ := inl_eq h4
      refine ⟨by simp [endB], ?_⟩
      constructor <;> simp <;> omega
    rw [if_neg k1] at h2
    by_cases k2 : k = 2
    · subst k2
      rw [if_pos rfl] at h2
      obtain ⟨a, r2, h3, h4⟩ := bind_inl h2
      obtain ⟨rfl, a0, a1⟩ := belP_inv hx h3
      obtain ⟨t, r3, h5, h6⟩ := bind_inl h4
      obtain ⟨rfl, t0, t1⟩ := belP_inv hx.right h5
      obtain ⟨l, r4, h7, h8⟩ := bind_inl h6
      obtain ⟨rfl, l0, l1⟩ := belP_inv hx.right.right h7
      obtain ⟨rfl, rfl⟩ := inl_eq h8
      refine ⟨by simp [endB], ?_⟩
      constructor <;> simp <;> omega
    rw [if_neg k2] at h2
    obtain rfl : k = 3 := by omega
    obtain ⟨a, r2, h3, h4⟩ := bind_inl h2
    obtain ⟨rfl, a0, a1⟩ := belP_inv hx h3
    obtain ⟨rfl, rfl⟩ := inl_eq h4
    refine ⟨by simp [endB], ?_⟩
    constructor <;> simp <;> omega
  · cases h2
theorem blkP_inv {most : Nat} {xs r : List Int} {b : Blk} (hx : Bs xs) (h : blkP most xs = .inl (b, r)) : xs = blkB b ++ r ∧ WfB most b := by
  obtain ⟨m, r1, h1, h2⟩ := bind_inl h
  obtain ⟨rfl, m0, m1⟩ := belP_inv hx h1
  obtain ⟨is, r2, h3, h4⟩ := bind_inl h2
  obtain ⟨g1, rfl, g3⟩ := inssP_inv _ hx.right h3
  obtain ⟨e, r3, h5, h6⟩ := bind_inl h4
  obtain ⟨rfl, he⟩ := endP_inv hx.right.right h5
  obtain ⟨rfl, rfl⟩ := inl_eq h6
  refine ⟨by simp [blkB, nb, g1], ?_, g3, he⟩
  simp only
  omega
theorem blksP_inv {most : Nat} : ∀ (c : Nat) {xs r : List Int} {l : List Blk}, Bs xs → blksP most c xs = .inl (l, r) → l.length = c ∧ xs = l.flatMap blkB ++ r ∧ ∀ b ∈ l, WfB most b
  | 0, xs, r, l, _, h => by
    obtain ⟨rfl, rfl⟩ := inl_eq h
    exact ⟨rfl, rfl, fun x hx => by simp at hx⟩
  | c + 1, xs, r, l, hx, h => by
    obtain ⟨a, r1, h1, h2⟩ := bind_inl h
    obtain ⟨rfl, hw⟩ := blkP_inv hx h1
    obtain ⟨as, r2, h3, h4⟩ := bind_inl h2
    obtain ⟨g1, rfl, g3⟩ := blksP_inv c hx.right h3
    obtain ⟨rfl, rfl⟩ := inl_eq h4
    refine ⟨by simp [g1], by simp, fun x hx => ?_⟩
    rcases List.mem_cons.1 hx with rfl | hx
    · exact hw
    · exact g3 x hx
theorem allP_inv {most : Nat} {xs r : List Int} {l : List Blk} (hx : Bs xs) (h : allP most xs = .inl (l, r)) : xs = allB l ++ r ∧ l.length ≤ 16 ∧ ∀ b ∈ l, WfB most b := by
  obtain ⟨m, r1, h1, h2⟩ := bind_inl h
  obtain ⟨rfl, m0, m1⟩ := belP_inv hx h1
  obtain ⟨g1, rfl, g3⟩ := blksP_inv _ hx.right h2
  exact ⟨by simp [allB, nb, g1], by omega, g3⟩
theorem funP_inv {xs r : List Int} {F : Fun} (hx : Bs xs) (h : funP xs = .inl (F, r)) : xs = funB F ++ r := by
  obtain ⟨p, r1, h1, h2⟩ := bind_inl h
  obtain ⟨rfl, _, _⟩ := belP_inv hx h1
  obtain ⟨v, r2, h3, h4⟩ := bind_inl h2
  obtain ⟨rfl, _, _⟩ := belP_inv hx.right h3
  obtain ⟨bs, r3, h5, h6⟩ := bind_inl h4
  obtain ⟨rfl, _, _⟩ := allP_inv hx.right.right h5
  obtain ⟨rfl, rfl⟩ := inl_eq h6
  simp [funB]
theorem codP_inv {xs r : List Int} {C : Cod} (hx : Bs xs) (h : codP xs = .inl (C, r)) : xs = codB C ++ r := by
  obtain ⟨p, r1, h1, h2⟩ := bind_inl h
  obtain ⟨rfl, _, _⟩ := belP_inv hx h1
  obtain ⟨v, r2, h3, h4⟩ := bind_inl h2
  obtain ⟨rfl, _, _⟩ := belP_inv hx.right h3
  obtain ⟨s, r3, h5, h6⟩ := bind_inl h4
  obtain ⟨rfl, _, _⟩ := belP_inv hx.right.right h5
  obtain ⟨bs, r4, h7, h8⟩ := bind_inl h6
  obtain ⟨rfl, _, _⟩ := allP_inv hx.right.right.right h7
  obtain ⟨rfl, rfl⟩ := inl_eq h8
  simp [codB]
end Go.Proofs.Ytbjnhicikkjadab.Wire
