/- Code that is run, in plain mathematics: a spill into a slot that nobody uses, and a fill behind it, change nothing; a function that is run as code. -/
import Derived.Test.YtepmbkiojpffpaaEx
import Derived.Test.YtepmbkiojpffpaaRx
namespace Go.Proofs.Ytepmbkiojpffpaa.Ir
open Go.RowKit

theorem insts_append {r : Int} : ∀ (a b : List Ins) (s : St), insts r (a ++ b) s = (insts r a s).bind (insts r b)
  | [], _, _ => rfl
  | i :: a, b, s => by
    show (one r i s).bind (insts r (a ++ b)) = ((one r i s).bind (insts r a)).bind (insts r b)
    cases one r i s with
    | inr o => rfl
    | inl s1 => exact insts_append a b s1
theorem fini_cut {n nb : Nat} {e : En} (he : OkE n nb e) (s : St) : fini e (cut n s) = (fini e s).map (fun x => (x.1, cut n x.2)) := by
  unfold fini
  rw [paid_cut]
  cases paid s with
  | inr o => rfl
  | inl s2 => exact leave_cut he s2

/-! ### A spill into a slot that nobody uses, and a fill -/
def spI (slot reg : Int) : Ins := ⟨7, 0, slot, reg, 0, 0, []⟩
def flI (slot reg : Int) : Ins := ⟨8, 0, reg, slot, 0, 0, []⟩
def spB (slot reg : Int) (k : Nat) (b : Blk) : Blk := ⟨(b.ins.take k ++ [spI slot reg, flI slot reg]) ++ b.ins.drop k, b.e⟩
theorem pair_cut {r slot reg : Int} {n : Nat} (hn : r + slot = (n : Int)) (hreg : 0 ≤ reg ∧ reg < n) (s : St) (hs : s.p.length = n + 1) :
    ∃ s', insts r [spI slot reg, flI slot reg] s = .inl s' ∧ cut n s' = cut n s ∧ s'.p.length = n + 1 := by
  have e1 : one r (spI slot reg) s = .inl { s with p := pst s.p n (pg s.p reg) } := by
    rw [one_free rfl]
    unfold act spI
    simp [hn]
  have e2 : one r (flI slot reg) { s with p := pst s.p n (pg s.p reg) } = .inl { s with p := pst (pst s.p n (pg s.p reg)) reg (pg s.p reg) } := by
    rw [one_free rfl]
    have : pg (pst s.p n (pg s.p reg)) n = pg s.p reg := by
      unfold pg pst
      simp [hs]
    unfold act flI
    simp [hn, this]
  refine ⟨{ s with p := pst (pst s.p n (pg s.p reg)) reg (pg s.p reg) }, ?_, ?_, ?_⟩
  · show (one r (spI slot reg) s).bind (insts r [flI slot reg]) = _
    rw [e1]
    show (one r (flI slot reg) _).bind (insts r []) = _
    rw [e2]
    rfl
  · unfold cut
    simp only [St.mk.injEq, and_true]
    unfold pst pg
    apply List.ext_getElem?
    intro i
    by_cases hi : i < n
    · rw [List.getElem?_take_of_lt hi, List.getElem?_take_of_lt hi]
      simp only [List.getElem?_set, Int.toNat_natCast, List.length_set]
      have h1 : reg.toNat < s.p.length := by omega
      by_cases e : reg.toNat = i
      · subst e
        simp [h1]
      · rw [if_neg e, if_neg (by omega)]
    · rw [List.getElem?_eq_none (by simp; omega), List.getElem?_eq_none (by simp; omega)]
  · simp [pst, hs]
theorem blk_slot {r slot reg : Int} {n nb k : Nat} {b : Blk} (hb : OkB r n nb b) (hr : 0 ≤ r) (hn : r + slot = (n : Int)) (hreg : 0 ≤ reg ∧ reg < n) (s : St) (hs : s.p.length = n + 1) :
    blk r b (cut n s) = (blk r (spB slot reg k b) s).map (fun x => (x.1, cut n x.2)) := by
  have h1 := insts_cut hr (is := b.ins.take k) (fun i hi => hb.2.1 i (List.mem_of_mem_take hi)) s
  have h2 : ∀ s, insts r (b.ins.drop k) (cut n s) = (insts r (b.ins.drop k) s).map (cut n) := insts_cut hr (is := b.ins.drop k) (fun i hi => hb.2.1 i (List.mem_of_mem_drop hi))
  have e : insts r b.ins (cut n s) = (insts r (b.ins.take k) (cut n s)).bind (insts r (b.ins.drop k)) := by rw [← insts_append, List.take_append_drop]
  unfold blk spB
  simp only
  rw [e, h1, insts_append, insts_append]
  cases hq : insts r (b.ins.take k) s with
  | inr o => rfl
  | inl s1 =>
    obtain ⟨s2, g1, g2, _⟩ := pair_cut hn hreg s1 (by rw [(insts_keeps hq).1, hs])
    show (insts r (b.ins.drop k) (cut n s1)).bind (fini b.e) = (((insts r _ s1).bind (insts r (b.ins.drop k))).bind (fini b.e)).map _
    rw [g1, ← g2, h2]
    show _ = ((insts r (b.ins.drop k) s2).bind (fini b.e)).map _
    cases insts r (b.ins.drop k) s2 with
    | inr o => rfl
    | inl s3 => exact fini_cut hb.2.2 s3
theorem Rs.map_inl {α β : Type} {f : α → β} {x : Rs α} {y : β} (h : x.map f = .inl y) : ∃ a, x = .inl a ∧ f a = y := by
  cases x with
  | inr o => cases h
  | inl a => cases h; exact ⟨a, rfl, rfl⟩
theorem play_slot {r slot reg : Int} {n jb k : Nat} {bs : List Blk} (hb : Okay r n bs) (hr : 0 ≤ r) (hn : r + slot = (n : Int)) (hreg : 0 ≤ reg ∧ reg < n) : ∀ (m : Nat) (t : Int) (s : St), s.left < m → 0 ≤ t ∧ t < bs.length → s.p.length = n + 1 →
    play r bs t (cut n s) = play r (bs.set jb (spB slot reg k (bs.getD jb Blk.zero))) t s := by
  intro m
  induction m with
  | zero => intro t s h; omega
  | succ m ih =>
    intro t s h ht hs
    have hB := hb (bs.getD t.toNat Blk.zero) (by simp [show t.toNat < bs.length by omega])
    have hq : blk r (bs.getD t.toNat Blk.zero) (cut n s) = (blk r ((bs.set jb (spB slot reg k (bs.getD jb Blk.zero))).getD t.toNat Blk.zero) s).map (fun x => (x.1, cut n x.2)) := by
      by_cases e : jb = t.toNat
      · subst e
        have : (bs.set t.toNat (spB slot reg k (bs.getD t.toNat Blk.zero))).getD t.toNat Blk.zero = spB slot reg k (bs.getD t.toNat Blk.zero) := by
          simp [show t.toNat < bs.length by omega]
        rw [this]
        exact blk_slot hB hr hn hreg s hs
      · have : (bs.set jb (spB slot reg k (bs.getD jb Blk.zero))).getD t.toNat Blk.zero = bs.getD t.toNat Blk.zero := by
          simp [List.getElem?_set_ne e]
        rw [this]
        exact blk_cut hB hr s
    rw [play_eq r bs, play_eq r (bs.set jb _), hq]
    cases hz : blk r ((bs.set jb (spB slot reg k (bs.getD jb Blk.zero))).getD t.toNat Blk.zero) s with
    | inr o => rfl
    | inl x =>
      obtain ⟨t', s'⟩ := x
      have h1 := blk_left hz
      have h2 := blk_keeps hz
      rw [hz] at hq
      have h3 := blk_to hB.2.2 hq
      exact ih t' s' (by omega) h3 (by omega)
/-- Code with the pair put in. -/
def spC (reg : Int) (jb k : Nat) (C : Cod) : Cod := ⟨C.p, C.r, C.s + 1, C.bs.set jb (spB C.s reg k (C.bs.getD jb Blk.zero))⟩
theorem mchk_spC {C : Cod} {reg : Int} {jb k : Nat} (h : mchk C = (0, 0, 0)) (hj : jb < C.bs.length) (hs : C.s + 1 ≤ 64) (hl : (C.bs.getD jb Blk.zero).ins.length + 2 ≤ 400) (hreg : 0 ≤ reg ∧ reg < C.r) : mchk (spC reg jb k C) = (0, 0, 0) := by
  obtain ⟨h1, h2⟩ := mchk_all (C := C) (by rw [h])
  simp only [msz, decide_eq_true_eq] at h1
  refine mchk_zero ?_ fun b hb => ?_
  · simp only [msz, spC, decide_eq_true_eq, List.length_set]
    omega
  · simp only [spC, List.length_set] at hb ⊢
    rcases List.mem_or_eq_of_mem_set hb with hb | rfl
    · exact mbF_mono (h2 b hb) (Int.le_refl _) (by omega)
    · have hm : C.bs.getD jb Blk.zero ∈ C.bs := by simp [hj]
      obtain ⟨g1, g2, g3⟩ := mbF_all (h2 _ hm)
      refine mbF_zero ?_ ?_ g3
      · simp only [spB, List.length_append, List.length_cons, List.length_nil, List.length_take, List.length_drop]
        omega
      · intro i hi
        simp only [spB, List.mem_append, List.mem_cons, List.not_mem_nil, or_false] at hi
        rcases hi with (hi | rfl | rfl) | hi
        · exact mF_mono (g2 i (List.mem_of_mem_take hi)) (Int.le_refl _) (by omega)
        · unfold mF
          rw [if_pos (show (spI C.s reg).k = 7 from rfl)]
          exact slF_zero (by simp [spI]) hreg (by simp only [spI]; omega)
        · unfold mF
          rw [if_neg (by simp [flI]), if_pos (show (flI C.s reg).k = 8 from rfl)]
          exact slF_zero (by simp [flI]) hreg (by simp only [flI]; omega)
        · exact mF_mono (g2 i (List.mem_of_mem_drop hi)) (Int.le_refl _) (by omega)
theorem exec_slot {C : Cod} {X : Inp} {reg : Int} {jb k : Nat} (h : mchk C = (0, 0, 0)) (hreg : 0 ≤ reg ∧ reg < C.r) (h1 : execF C X = 0) (h2 : execF (spC reg jb k C) X = 0) : execO (spC reg jb k C) X = execO C X := by
  obtain ⟨g1, g2⟩ := mchk_all (C := C) (by rw [h])
  simp only [msz, decide_eq_true_eq] at g1
  obtain ⟨_, ha, _, _⟩ := execF_zero h1
  rw [execO_play h1, execO_play h2]
  obtain ⟨n, hn⟩ : ∃ n : Nat, C.r + C.s = (n : Int) := ⟨(C.r + C.s).toNat, by omega⟩
  obtain ⟨f, hf⟩ : ∃ f : Nat, C.r = (f : Int) := ⟨C.r.toNat, by omega⟩
  have e1 : (C.r + C.s).toNat = n := by omega
  have e2 : ((spC reg jb k C).r + (spC reg jb k C).s).toNat = n + 1 := by simp only [spC]; omega
  have e3 : (spC reg jb k C).r = C.r := rfl
  rw [e1, e2, e3]
  have hrm := rm_le (bs := C.bs) (s := C.s) (by omega)
  have hok : Okay C.r n C.bs := okay_cod h (by omega)
  have e4 : st0 n C.r X = cut n (st0 (n + 1) C.r X) := by
    rw [hf]
    exact st0_cut (by omega) (by omega)
  rw [e4]
  refine (play_slot hok (by omega) hn (by omega) _ 0 _ (Nat.lt_succ_self _) (by omega) ?_).symm
  show (laidL _ _ _).length = _
  rw [laidL_len]

/-! ### A function that is run as code -/
def flP (i : Nat) : Ins := ⟨8, 0, (i : Int), (i : Int), 0, 0, []⟩
def fills (p : Nat) : List Ins := (List.range p).map flP
theorem fills_succ (p : Nat) : fills (p + 1) = fills p ++ [flP p] := by simp [fills, List.range_succ]
theorem fills_len (p : Nat) : (fills p).length = p := by simp [fills]
theorem insts_fills {r : Nat} {s : St} : ∀ (k : Nat), k ≤ r → r + k ≤ s.p.length → insts r (fills k) s = .inl { s with p := (s.p.drop r).take k ++ s.p.drop k }
  | 0, _, _ => by simp [fills, insts]
  | k + 1, h1, h2 => by
    rw [fills_succ, insts_append, insts_fills k (by omega) (by omega)]
    show (one (r : Int) (flP k) _).bind (insts r []) = _
    rw [one_free rfl]
    have hl : ((s.p.drop r).take k).length = k := by simp; omega
    have e1 : pg ((s.p.drop r).take k ++ s.p.drop k) ((r : Int) + (k : Int)) = s.p.getD (r + k) 0 := by
      unfold pg
      rw [show ((r : Int) + (k : Int)).toNat = r + k by omega, List.getD_eq_getElem?_getD, List.getElem?_append_right (by omega), hl, List.getElem?_drop, List.getD_eq_getElem?_getD]
      congr 2
      omega
    have e2 : pst ((s.p.drop r).take k ++ s.p.drop k) (k : Int) (s.p.getD (r + k) 0) = (s.p.drop r).take (k + 1) ++ s.p.drop (k + 1) := by
      unfold pst
      rw [Int.toNat_natCast, List.set_append_right _ _ (by omega), hl, Nat.sub_self]
      have e3 : s.p.drop k = s.p[k]'(by omega) :: s.p.drop (k + 1) := List.drop_eq_getElem_cons (by omega)
      rw [e3, List.set_cons_zero, List.take_succ_eq_append_getElem (by simp; omega)]
      simp [show r + k < s.p.length by omega]
    obtain ⟨x, hx⟩ : ∃ x, s.p.getD (r + k) 0 = x := ⟨_, rfl⟩
    rw [hx] at e1 e2
    unfold act flP
    simp [e1, e2, Rs.bind, insts]
def noz (b : Blk) : Prop := b.e.k = 3 ∨ (b.e.to ≠ 0 ∧ (b.e.k = 2 → b.e.el ≠ 0))
theorem blk_noz {r : Int} {b : Blk} {s s' : St} {t : Int} (hb : noz b) (h : blk r b s = .inl (t, s')) : t ≠ 0 := by
  unfold blk at h
  cases hp : insts r b.ins s with
  | inr o => rw [hp] at h; cases h
  | inl s1 =>
    rw [hp] at h
    replace h : fini b.e s1 = .inl (t, s') := h
    unfold fini at h
    cases hq : paid s1 with
    | inr o => rw [hq] at h; cases h
    | inl s2 =>
      rw [hq] at h
      replace h : leave b.e s2 = .inl (t, s') := h
      unfold leave at h
      by_cases e3 : b.e.k = 3
      · rw [if_pos e3] at h; cases h
      · rw [if_neg e3] at h
        obtain ⟨h1, h2⟩ := hb.resolve_left e3
        split at h
        · rename_i hc
          cases h
          exact h2 hc.1
        · cases h
          exact h1
/-- Blocks to which nobody goes back. -/
theorem play_away {r : Int} {n : Nat} {bs : List Blk} {b0 : Blk} (hb : Okay r n bs) (hz : ∀ b ∈ bs, noz b) : ∀ (m : Nat) (t : Int) (s : St), s.left < m → 0 ≤ t ∧ t < bs.length → t ≠ 0 → play r (bs.set 0 b0) t s = play r bs t s := by
  intro m
  induction m with
  | zero => intro t s h; omega
  | succ m ih =>
    intro t s h ht h0
    have hm : bs.getD t.toNat Blk.zero ∈ bs := by simp [show t.toNat < bs.length by omega]
    have e : (bs.set 0 b0).getD t.toNat Blk.zero = bs.getD t.toNat Blk.zero := by
      simp [List.getElem?_set_ne (show 0 ≠ t.toNat by omega)]
    rw [play_eq r (bs.set 0 b0), play_eq r bs, e]
    cases hq : blk r (bs.getD t.toNat Blk.zero) s with
    | inr o => rfl
    | inl x =>
      obtain ⟨t', s'⟩ := x
      have h1 := blk_left hq
      exact ih t' s' (by omega) (blk_to (hb _ hm).2.2 hq) (blk_noz (hz _ hm) hq)
theorem act_reg {r r' : Int} {i : Ins} (h : 1 ≤ i.k ∧ i.k ≤ 6) (s : St) : act r i s = act r' i s := by
  unfold act
  by_cases e1 : i.k = 1
  · simp only [e1, if_true]
  by_cases e2 : i.k = 2
  · simp [e2]
  by_cases e3 : i.k = 3
  · simp [e3]
  by_cases e4 : i.k = 4
  · simp [e4]
  by_cases e5 : i.k = 5
  · simp [e5]
  have e6 : i.k = 6 := by omega
  simp [e6]
theorem one_reg {r r' : Int} {i : Ins} (h : 1 ≤ i.k ∧ i.k ≤ 6) (s : St) : one r i s = one r' i s := by
  unfold one
  split
  · exact act_reg h s
  · cases paid s with
    | inr o => rfl
    | inl s1 => exact act_reg h s1
theorem insts_reg {r r' : Int} : ∀ {is : List Ins}, (∀ i ∈ is, 1 ≤ i.k ∧ i.k ≤ 6) → ∀ s, insts r is s = insts r' is s
  | [], _, _ => rfl
  | i :: is, h, s => by
    show (one r i s).bind (insts r is) = (one r' i s).bind (insts r' is)
    rw [one_reg (r' := r') (h i (by simp))]
    cases one r' i s with
    | inr o => rfl
    | inl s1 => exact insts_reg (fun j hj => h j (by simp [hj])) s1
theorem play_reg {r r' : Int} {n : Nat} {bs : List Blk} (hb : Okay r' n bs) (hk : ∀ b ∈ bs, ∀ i ∈ b.ins, 1 ≤ i.k ∧ i.k ≤ 6) : ∀ (m : Nat) (t : Int) (s : St), s.left < m → 0 ≤ t ∧ t < bs.length → play r bs t s = play r' bs t s := by
  intro m
  induction m with
  | zero => intro t s h; omega
  | succ m ih =>
    intro t s h ht
    have hm : bs.getD t.toNat Blk.zero ∈ bs := by simp [show t.toNat < bs.length by omega]
    have e : blk r (bs.getD t.toNat Blk.zero) s = blk r' (bs.getD t.toNat Blk.zero) s := by
      unfold blk
      rw [insts_reg (r' := r') (hk _ hm)]
    rw [play_eq r, play_eq r', e]
    cases hq : blk r' (bs.getD t.toNat Blk.zero) s with
    | inr o => rfl
    | inl x =>
      obtain ⟨t', s'⟩ := x
      have h1 := blk_left hq
      exact ih t' s' (by omega) (blk_to (hb _ hm).2.2 hq)
/-- A function as code whose parameters are filled first. -/
def plC (p : Nat) (F : Fun) : Cod := ⟨F.p, max F.v 3, F.p, F.bs.set 0 ⟨fills p ++ (F.bs.getD 0 Blk.zero).ins, (F.bs.getD 0 Blk.zero).e⟩⟩
theorem kind_of {i : Ins} {v : Int} (h : inF i v = 0) : 1 ≤ i.k ∧ i.k ≤ 6 := by
  have h1 := (inF_all h).1
  unfold formed at h1
  by_cases e1 : i.k = 1
  · omega
  by_cases e2 : i.k = 2 ∨ i.k = 4
  · omega
  by_cases e3 : i.k = 3
  · omega
  by_cases e5 : i.k = 5
  · omega
  by_cases e6 : i.k = 6
  · omega
  simp [e1, e2, e3, e5, e6] at h1
theorem mchk_plC {F : Fun} {p : Nat} (h : chk F = (0, 0, 0)) (hp : F.p = (p : Int)) (hv : F.v ≤ 8) : mchk (plC p F) = (0, 0, 0) := by
  obtain ⟨h1, h2⟩ := chk_all (F := F) (by rw [h])
  simp only [sized, decide_eq_true_eq] at h1
  have hpl : ∀ b ∈ F.bs, (mbF b (max F.v 3) F.p F.bs.length).1 = 0 := fun b hb => by
    obtain ⟨g1, g2, g3⟩ := blkF_all (h2 b hb)
    exact mbF_zero (by omega) (fun i hi => mF_plain (inF_mono (g2 i hi) (by omega))) (ofR_zero.2 (endF_mono g3 (by omega) (Int.le_refl _)))
  refine mchk_zero ?_ fun b hb => ?_
  · simp only [msz, plC, decide_eq_true_eq, List.length_set]
    omega
  · simp only [plC, List.length_set] at hb ⊢
    rcases List.mem_or_eq_of_mem_set hb with hb | rfl
    · exact hpl b hb
    · have hm : F.bs.getD 0 Blk.zero ∈ F.bs := by simp [show 0 < F.bs.length by omega]
      obtain ⟨g1, g2, g3⟩ := mbF_all (hpl _ hm)
      have g4 := (blkF_all (h2 _ hm)).1
      refine mbF_zero ?_ ?_ g3
      · simp only [List.length_append, fills_len]
        omega
      · intro i hi
        rcases List.mem_append.1 hi with hi | hi
        · simp only [fills, List.mem_map, List.mem_range] at hi
          obtain ⟨j, hj, rfl⟩ := hi
          unfold mF
          rw [if_neg (by simp [flP]), if_pos (show (flP j).k = 8 from rfl)]
          exact slF_zero (by simp [flP]) (by simp only [flP]; omega) (by simp only [flP]; omega)
        · exact g2 i hi
theorem fuelO_st0 {n n' : Nat} {f f' : Int} {X : Inp} : (st0 n f X) = { (st0 n' f' X) with p := laidL n f X.args } := rfl
theorem laid_end {r p : Nat} {args : List Int} (h : args.length = p) : laidL (r + p) (r : Int) args = List.replicate r 0 ++ args := by
  unfold laidL
  by_cases hp : p = 0
  · subst hp
    have : args = [] := List.eq_nil_of_length_eq_zero h
    subst this
    simp
  · rw [if_pos (by omega), Int.toNat_natCast, List.take_of_length_le (by omega)]
    unfold splice
    rw [List.drop_of_length_le (by simp; omega), List.take_replicate, List.append_nil]
    congr 2
    omega
theorem laid_first {v p : Nat} {args : List Int} (h : args.length = p) (hv : p ≤ v) (h0 : 0 < v) : laidL v 0 args = args ++ List.replicate (v - p) 0 := by
  unfold laidL
  rw [if_pos (by omega), Int.toNat_zero, Nat.sub_zero, List.take_of_length_le (by omega)]
  unfold splice
  simp [h]
theorem exec_plain {F : Fun} {X : Inp} {p : Nat} (h : chk F = (0, 0, 0)) (hp : F.p = (p : Int)) (hv : F.v ≤ 8) (hv1 : 1 ≤ F.v) (hz : ∀ b ∈ F.bs, noz b) (h1 : runF F X = 0) (h2 : execF (plC p F) X = 0) (ha : X.args.length = p) : execO (plC p F) X = runO F X := by
  obtain ⟨g1, g2⟩ := chk_all (F := F) (by rw [h])
  simp only [sized, decide_eq_true_eq] at g1
  obtain ⟨v, hvn⟩ : ∃ v : Nat, F.v = (v : Int) := ⟨F.v.toNat, by omega⟩
  obtain ⟨r, hr⟩ : ∃ r : Nat, max F.v 3 = (r : Int) := ⟨(max F.v 3).toNat, by omega⟩
  have hok : Okay v v F.bs := okay_of (by rw [h]) hvn
  have hokr : Okay r r F.bs := fun b hb => ⟨(hok b hb).1, fun i hi => ((hok b hb).2.1 i hi).more (by omega) (kind_of ((blkF_all (g2 b hb)).2.1 i hi)).2, (hok b hb).2.2.more (by omega)⟩
  have hk : ∀ b ∈ F.bs, ∀ i ∈ b.ins, 1 ≤ i.k ∧ i.k ≤ 6 := fun b hb i hi => kind_of ((blkF_all (g2 b hb)).2.1 i hi)
  rw [execO_play h2]
  unfold runO
  rw [if_pos h1]
  have e1 : (plC p F).r = (r : Int) := hr
  have e2 : ((plC p F).r + (plC p F).s).toNat = r + p := by
    have : (plC p F).s = (p : Int) := hp
    omega
  have e3 : F.v.toNat = v := by omega
  rw [e2, e1, e3, hvn]
  have hl : (st0 (r + p) (r : Int) X).p = List.replicate r 0 ++ X.args := laid_end ha
  obtain ⟨S, hS⟩ : ∃ S, st0 (r + p) (r : Int) X = S := ⟨_, rfl⟩
  have hfl := insts_fills (r := r) (s := S) p (by omega) (by rw [← hS, hl]; simp; omega)
  obtain ⟨S1, hS1⟩ : ∃ S1, S1 = { S with p := (S.p.drop r).take p ++ S.p.drop p } := ⟨_, rfl⟩
  rw [← hS1] at hfl
  have hb0 : (plC p F).bs.getD ((0 : Int).toNat) Blk.zero = ⟨fills p ++ (F.bs.getD 0 Blk.zero).ins, (F.bs.getD 0 Blk.zero).e⟩ := by
    show (F.bs.set 0 _).getD 0 Blk.zero = _
    simp [show 0 < F.bs.length by omega]
  have hblk : blk r ((plC p F).bs.getD ((0 : Int).toNat) Blk.zero) S = blk r (F.bs.getD 0 Blk.zero) S1 := by
    rw [hb0]
    unfold blk
    simp only
    rw [insts_append, hfl]
    rfl
  have hm0 : F.bs.getD 0 Blk.zero ∈ F.bs := by simp [show 0 < F.bs.length by omega]
  have hpl : play r (plC p F).bs 0 S = play r F.bs 0 S1 := by
    rw [play_eq r (plC p F).bs, play_eq r F.bs, hblk]
    show _ = match blk r (F.bs.getD 0 Blk.zero) S1 with | .inr o => o | .inl (t', s') => play r F.bs t' s'
    cases hq : blk r (F.bs.getD 0 Blk.zero) S1 with
    | inr o => rfl
    | inl x =>
      obtain ⟨t', s'⟩ := x
      exact play_away hokr hz _ t' s' (Nat.lt_succ_self _) (blk_to (hok _ hm0).2.2 hq) (blk_noz (hz _ hm0) hq)
  rw [hS, hpl, play_reg (r' := (v : Int)) hok hk _ 0 S1 (Nat.lt_succ_self _) (by omega)]
  rw [← play_cut hok (by omega) _ 0 S1 (Nat.lt_succ_self _) (by omega)]
  congr 1
  rw [hS1, ← hS]
  show (⟨List.take v (((st0 (r + p) (r : Int) X).p.drop r).take p ++ (st0 (r + p) (r : Int) X).p.drop p), _, _, _, _⟩ : St) = ⟨laidL v 0 X.args, _, _, _, _⟩
  rw [hl, laid_first ha (by omega) (by omega)]
  have e4 : (List.replicate r (0 : Int) ++ X.args).drop r = X.args := by simp
  have e5 : (List.replicate r (0 : Int) ++ X.args).drop p = List.replicate (r - p) 0 ++ X.args := by
    rw [List.drop_append_of_le_length (by simp; omega), List.drop_replicate]
  rw [e4, e5, List.take_of_length_le (Nat.le_of_eq ha)]
  congr 1
  rw [List.take_append, List.take_of_length_le (by omega), ha]
  congr 1
  rw [List.take_append_of_le_length (by simp; omega), List.take_replicate]
  congr 1
  omega
end Go.Proofs.Ytepmbkiojpffpaa.Ir
