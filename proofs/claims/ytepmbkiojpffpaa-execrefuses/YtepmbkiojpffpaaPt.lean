/- Runs over more places than are named; code that is right names what there is. -/
import Derived.Test.YtepmbkiojpffpaaDo
import Derived.Test.YtepmbkiojpffpaaIr
namespace Go.Proofs.Ytepmbkiojpffpaa.Ir
open Go.RowKit

def Rs.map {α β : Type} (f : α → β) : Rs α → Rs β
  | .inl a => .inl (f a)
  | .inr o => .inr o
/-- The first n places alone. -/
def cut (n : Nat) (s : St) : St := { s with p := s.p.take n }
theorem pg_cut {p : List Int} {n : Nat} {i : Int} (h : 0 ≤ i ∧ i < n) : pg (p.take n) i = pg p i := by
  unfold pg
  have : i.toNat < n := by omega
  simp [this]
theorem pst_cut {p : List Int} {n : Nat} {i v : Int} : pst (p.take n) i v = (pst p i v).take n := by
  unfold pst
  rw [List.take_set]
theorem act_cut {r : Int} {n : Nat} {i : Ins} (hi : OkI r n i) (hr : 0 ≤ r) (s : St) : act r i (cut n s) = (act r i s).map (cut n) := by
  have hk := hi.k
  unfold act cut
  by_cases e1 : i.k = 1
  · simp [e1, Rs.map, pst_cut]
  by_cases e2 : i.k = 2
  · have ha := hi.a (by omega) (by omega) (by omega)
    simp [e2, Rs.map, pst_cut, pg_cut ha]
  by_cases e3 : i.k = 3
  · have ha := hi.a (by omega) (by omega) (by omega)
    have hb := hi.b (by omega)
    simp only [e3, pg_cut ha, pg_cut hb, pst_cut]
    split
    · contradiction
    · split
      · contradiction
      · simp only [if_true]
        split <;> rfl
  by_cases e4 : i.k = 4
  · have ha := hi.a (by omega) (by omega) (by omega)
    simp [e4, Rs.map, pst_cut, pg_cut ha]
  by_cases e5 : i.k = 5
  · have ha := hi.a (by omega) (by omega) (by omega)
    have hb := hi.b (by omega)
    simp [e5, Rs.map, pg_cut ha, pg_cut hb]
  by_cases e6 : i.k = 6
  · have ha := (hi.args e6).2
    have : i.args.map (pg (s.p.take n)) = i.args.map (pg s.p) := List.map_congr_left fun x hx => pg_cut (ha x hx)
    simp [e6, Rs.map, pst_cut, this]
  by_cases e7 : i.k = 7
  · have ha := hi.a (by omega) (by omega) (by omega)
    simp [e7, Rs.map, pst_cut, pg_cut ha]
  · have e8 : i.k = 8 := by omega
    have ha := hi.a8 e8
    have ha' : 0 ≤ r + i.a ∧ r + i.a < n := by omega
    simp [e8, Rs.map, pst_cut, pg_cut ha']
theorem paid_cut (n : Nat) (s : St) : paid (cut n s) = (paid s).map (cut n) := by
  unfold paid cut
  split <;> rfl
theorem one_cut {r : Int} {n : Nat} {i : Ins} (hi : OkI r n i) (hr : 0 ≤ r) (s : St) : one r i (cut n s) = (one r i s).map (cut n) := by
  unfold one
  split
  · exact act_cut hi hr s
  · rw [paid_cut]
    cases paid s with
    | inr o => rfl
    | inl s1 => exact act_cut hi hr s1
theorem insts_cut {r : Int} {n : Nat} (hr : 0 ≤ r) : ∀ {is : List Ins}, (∀ i ∈ is, OkI r n i) → ∀ s, insts r is (cut n s) = (insts r is s).map (cut n)
  | [], _, _ => rfl
  | i :: is, h, s => by
    unfold insts
    rw [one_cut (h i (by simp)) hr]
    cases one r i s with
    | inr o => rfl
    | inl s1 => exact insts_cut hr (fun x hx => h x (by simp [hx])) s1
theorem leave_cut {n nb : Nat} {e : En} (he : OkE n nb e) (s : St) : leave e (cut n s) = (leave e s).map (fun x => (x.1, cut n x.2)) := by
  have hk := he.k
  unfold leave cut
  by_cases e1 : e.k = 1
  · simp [e1, Rs.map]
  · have ha := he.a e1
    simp only [pg_cut ha]
    split
    · rfl
    · split <;> rfl
theorem blk_cut {r : Int} {n nb : Nat} {b : Blk} (hb : OkB r n nb b) (hr : 0 ≤ r) (s : St) : blk r b (cut n s) = (blk r b s).map (fun x => (x.1, cut n x.2)) := by
  unfold blk
  rw [insts_cut hr hb.2.1]
  cases insts r b.ins s with
  | inr o => rfl
  | inl s1 =>
    show fini b.e (cut n s1) = (fini b.e s1).map _
    unfold fini
    rw [paid_cut]
    cases paid s1 with
    | inr o => rfl
    | inl s2 => exact leave_cut hb.2.2 s2
/-- Places that nobody names say nothing. -/
theorem play_cut {r : Int} {n : Nat} {bs : List Blk} (hb : Okay r n bs) (hr : 0 ≤ r) : ∀ (m : Nat) (t : Int) (s : St), s.left < m → 0 ≤ t ∧ t < bs.length → play r bs t (cut n s) = play r bs t s := by
  intro m
  induction m with
  | zero => intro t s h; omega
  | succ m ih =>
    intro t s h ht
    have hB := hb (bs.getD t.toNat Blk.zero) (by simp [show t.toNat < bs.length by omega])
    rw [play_eq, play_eq, blk_cut hB hr]
    cases hq : blk r (bs.getD t.toNat Blk.zero) s with
    | inr o => rfl
    | inl x =>
      obtain ⟨t', s'⟩ := x
      have h1 := blk_left hq
      have h2 := blk_to hB.2.2 hq
      exact ih t' s' (by omega) h2
theorem splice_get (xs ys : List Int) (f : Nat) (hf : f + ys.length ≤ xs.length) (i : Nat) : (splice xs f ys)[i]? = if i < f then xs[i]? else if i < f + ys.length then ys[i - f]? else xs[i]? := by
  have hl : (xs.take f).length = f := by simp; omega
  have hl2 : (xs.take f ++ ys).length = f + ys.length := by simp; omega
  unfold splice
  rw [← List.append_assoc]
  by_cases h1 : i < f
  · rw [if_pos h1, List.getElem?_append_left (by rw [hl2]; omega), List.getElem?_append_left (by rw [hl]; exact h1), List.getElem?_take_of_lt h1]
  · rw [if_neg h1]
    by_cases h2 : i < f + ys.length
    · rw [if_pos h2, List.getElem?_append_left (by rw [hl2]; exact h2), List.getElem?_append_right (by rw [hl]; omega), hl]
    · rw [if_neg h2, List.getElem?_append_right (by rw [hl2]; omega), hl2, List.getElem?_drop]
      congr 1
      omega
theorem laidL_cut {n n2 f : Nat} {args : List Int} (hn : n ≤ n2) (hf : f + args.length ≤ n2) : laidL n (f : Int) args = (laidL n2 (f : Int) args).take n := by
  have h2 : laidL n2 (f : Int) args = splice (List.replicate n2 0) f args := by
    unfold laidL
    split
    · rw [Int.toNat_natCast, List.take_of_length_le (by omega)]
    · have : args = [] := List.eq_nil_of_length_eq_zero (by omega)
      subst this
      unfold splice
      simp
      omega
  rw [h2]
  apply List.ext_getElem?
  intro i
  by_cases hi : i < n
  · rw [List.getElem?_take_of_lt hi, splice_get _ _ _ (by simpa using hf)]
    unfold laidL
    by_cases hc : (0 : Int) ≤ (f : Int) ∧ (f : Int) < (n : Int)
    · rw [if_pos hc, Int.toNat_natCast, splice_get _ _ _ (by simp; omega)]
      by_cases h3 : i < f
      · rw [if_pos h3, if_pos h3]
        simp [hi, show i < n2 by omega]
      · rw [if_neg h3, if_neg h3]
        by_cases h4 : i < f + args.length
        · rw [if_pos h4, if_pos (by simp; omega), List.getElem?_take_of_lt (by omega)]
        · rw [if_neg h4, if_neg (by simp; omega)]
          simp [hi, show i < n2 by omega]
    · rw [if_neg hc, if_pos (by omega)]
      simp [hi, show i < n2 by omega]
  · have hl : (laidL n (f : Int) args).length ≤ i := by rw [laidL_len]; omega
    rw [List.getElem?_eq_none hl, List.getElem?_eq_none (by simp; omega)]
theorem st0_cut {n n2 f : Nat} {I : Inp} (hn : n ≤ n2) (hf : f + I.args.length ≤ n2) : st0 n (f : Int) I = cut n (st0 n2 (f : Int) I) := by
  unfold st0 cut
  simp only
  rw [laidL_cut hn hf]

/-! ### What right code names -/
theorem OkI.more {r r' : Int} {n n' : Nat} {i : Ins} (h : OkI r n i) (hn : n ≤ n') (hk : i.k ≤ 6) : OkI r' n' i :=
  ⟨h.k, h.op, fun a b => by have := h.d a b; omega, fun a b c => by have := h.a a b c; omega, fun a => by have := h.b a; omega, fun a => ⟨(h.args a).1, fun x hx => by have := (h.args a).2 x hx; omega⟩, fun a => by omega, fun a => by omega⟩
theorem OkE.more {n n' nb : Nat} {e : En} (h : OkE n nb e) (hn : n ≤ n') : OkE n' nb e := ⟨h.k, fun a => by have := h.a a; omega, h.to, h.el⟩
theorem nm1_le (m : Int) (i : Ins) : m ≤ nm1 m i := by
  unfold nm1
  split
  · omega
  · split <;> omega
theorem nms_le : ∀ (is : List Ins) (m : Int), m ≤ is.foldl nm1 m
  | [], _ => Int.le_refl _
  | i :: is, m => Int.le_trans (nm1_le m i) (nms_le is (nm1 m i))
theorem nmd_le : ∀ (bs : List Blk) (m : Int), m ≤ bs.foldl nmB m
  | [], _ => Int.le_refl _
  | b :: bs, m => Int.le_trans (nms_le b.ins m) (nmd_le bs (nmB m b))
theorem nms_mem : ∀ {is : List Ins} {m : Int} {i : Ins}, i ∈ is → (i.k = 7 → i.d + 1 ≤ is.foldl nm1 m) ∧ (i.k = 8 → i.a + 1 ≤ is.foldl nm1 m)
  | [], _, _, h => by simp at h
  | j :: is, m, i, h => by
    rcases List.mem_cons.1 h with rfl | h
    · have := nms_le is (nm1 m i)
      show (_ → _ ≤ is.foldl nm1 (nm1 m i)) ∧ (_ → _ ≤ is.foldl nm1 (nm1 m i))
      constructor
      · intro e
        have h2 : i.d + 1 ≤ nm1 m i := by unfold nm1; rw [if_pos e]; omega
        omega
      · intro e
        have h2 : i.a + 1 ≤ nm1 m i := by unfold nm1; rw [if_neg (by omega), if_pos e]; omega
        omega
    · exact nms_mem (is := is) (m := nm1 m j) h
theorem nmd_mem : ∀ {bs : List Blk} {m : Int} {b : Blk} {i : Ins}, b ∈ bs → i ∈ b.ins → (i.k = 7 → i.d + 1 ≤ bs.foldl nmB m) ∧ (i.k = 8 → i.a + 1 ≤ bs.foldl nmB m)
  | [], _, _, _, h, _ => by simp at h
  | c :: bs, m, b, i, h, hi => by
    rcases List.mem_cons.1 h with rfl | h
    · have h1 := nms_mem (m := m) hi
      have h2 := nmd_le bs (nmB m b)
      show (_ → _ ≤ bs.foldl nmB (nmB m b)) ∧ (_ → _ ≤ bs.foldl nmB (nmB m b))
      have h3 : nmB m b = b.ins.foldl nm1 m := rfl
      rw [← h3] at h1
      exact ⟨fun e => by have := h1.1 e; omega, fun e => by have := h1.2 e; omega⟩
    · exact nmd_mem (bs := bs) (m := nmB m c) h hi
/-- Right code names registers and slots that there are; all slots that it names have a place. -/
theorem okay_cod {C : Cod} (h : mchk C = (0, 0, 0)) {n : Nat} (hn : C.r + rm C.bs C.s ≤ (n : Int)) : Okay C.r n C.bs := by
  obtain ⟨h1, h2⟩ := mchk_all (C := C) (by rw [h])
  simp only [msz, decide_eq_true_eq] at h1
  intro b hb
  obtain ⟨q1, q2, q3⟩ := mbF_all (h2 b hb)
  have hr0 : 0 ≤ rm C.bs C.s := by unfold rm; omega
  have hrn : C.r.toNat ≤ n := by omega
  have hre : ((C.r.toNat : Nat) : Int) = C.r := by omega
  refine ⟨by omega, fun i hi => ?_, ?_⟩
  · have hm := q2 i hi
    have hn' := nmd_mem (m := 0) hb hi
    unfold mF at hm
    by_cases k7 : i.k = 7
    · rw [if_pos k7] at hm
      obtain ⟨_, g2, g3⟩ := slF_all hm
      have hd : i.d + 1 ≤ rm C.bs C.s := by have := hn'.1 k7; unfold rm nmd; omega
      constructor
      case a => intro _ _ _; omega
      case d7 => intro _; omega
      all_goals (first | omega | (intro hx; omega))
    · rw [if_neg k7] at hm
      by_cases k8 : i.k = 8
      · rw [if_pos k8] at hm
        obtain ⟨_, g2, g3⟩ := slF_all hm
        have hd : i.a + 1 ≤ rm C.bs C.s := by have := hn'.2 k8; unfold rm nmd; omega
        constructor
        case d => intro _ _; omega
        case a8 => intro _; omega
        all_goals (first | omega | (intro hx; omega))
      · rw [if_neg k8] at hm
        have hx := ofR_zero.1 hm
        rw [← hre] at hx
        have ho := okI_of hx
        exact ho.more hrn (by have := ho.k; omega)
  · have hx := ofR_zero.1 q3
    rw [← hre] at hx
    exact (okE_of hx).more hrn
end Go.Proofs.Ytepmbkiojpffpaa.Ir
