/- Runs of a function two of whose vregs are changed for one another, in plain mathematics. -/
import Derived.Test.YtljnngblhfhhaabDo
namespace Go.Proofs.Ytljnngblhfhhaab.Ir
open Go.RowKit

/-- u for v, v for u. -/
def swp (u v x : Int) : Int := if x = u then v else if x = v then u else x
theorem swp_swp (u v x : Int) : swp u v (swp u v x) = x := by
  unfold swp
  by_cases h1 : x = u
  · by_cases h2 : v = u
    · simp [h1, h2]
    · simp [h1, h2]
  · by_cases h2 : x = v
    · simp [h2]
    · simp [h1, h2]
theorem swp_in {u v x : Int} {n : Nat} (hu : 0 ≤ u ∧ u < n) (hv : 0 ≤ v ∧ v < n) (hx : 0 ≤ x ∧ x < n) : 0 ≤ swp u v x ∧ swp u v x < n := by
  unfold swp
  split
  · exact hv
  · split
    · exact hu
    · exact hx
def renI (u v : Int) (i : Ins) : Ins := ⟨i.k, i.op, if i.k = 5 then i.d else swp u v i.d, if i.k = 1 ∨ i.k = 6 then i.a else swp u v i.a, if i.k = 3 ∨ i.k = 5 then swp u v i.b else i.b, i.n, i.args.map (swp u v)⟩
def renE (u v : Int) (e : En) : En := ⟨e.k, if e.k = 1 then e.a else swp u v e.a, e.to, e.el⟩
def renB (u v : Int) (b : Blk) : Blk := ⟨b.ins.map (renI u v), renE u v b.e⟩
def renF (u v : Int) (F : Fun) : Fun := ⟨F.p, F.v, F.bs.map (renB u v)⟩
/-- The places, changed likewise. -/
def swl (u v : Int) (p : List Int) : List Int := (List.range p.length).map fun (i : Nat) => p.getD (swp u v (i : Int)).toNat 0
def swS (u v : Int) (s : St) : St := { s with p := swl u v s.p }
theorem swl_len (u v : Int) (p : List Int) : (swl u v p).length = p.length := by simp [swl]
theorem swl_pg {u v x : Int} {p : List Int} {n : Nat} (hp : p.length = n) (hu : 0 ≤ u ∧ u < n) (hv : 0 ≤ v ∧ v < n) (hx : 0 ≤ x ∧ x < n) : pg (swl u v p) (swp u v x) = pg p x := by
  have h := swp_in hu hv hx
  have h2 : (swp u v x).toNat < p.length := by omega
  unfold pg swl
  rw [List.getD_eq_getElem?_getD, List.getElem?_map, List.getElem?_range h2]
  simp only [Option.map_some, Option.getD_some]
  rw [Int.toNat_of_nonneg h.1, swp_swp]
theorem swl_pst {u v x y : Int} {p : List Int} {n : Nat} (hp : p.length = n) (hu : 0 ≤ u ∧ u < n) (hv : 0 ≤ v ∧ v < n) (hx : 0 ≤ x ∧ x < n) : pst (swl u v p) (swp u v x) y = swl u v (pst p x y) := by
  have h := swp_in hu hv hx
  apply List.ext_getElem?
  intro i
  unfold pst swl
  by_cases hi : i < p.length
  · rw [List.getElem?_map, List.getElem?_range (by simpa using hi), List.getElem?_set]
    simp only [Option.map_some, List.length_map, List.length_range, List.getElem?_map]
    have hin := swp_in hu hv (x := (i : Int)) ⟨by omega, by omega⟩
    by_cases e : (swp u v x).toNat = i
    · rw [if_pos e, if_pos (by omega)]
      have e2 : swp u v x = (i : Int) := by omega
      rw [← e2, swp_swp]
      simp [show x.toNat < p.length by omega]
    · rw [if_neg e, List.getElem?_range hi]
      have e2 : ¬ x.toNat = (swp u v (i : Int)).toNat := by
        intro h3
        have h4 : x = swp u v (i : Int) := by omega
        rw [h4, swp_swp] at e
        omega
      simp [List.getElem?_set_ne e2]
  · rw [List.getElem?_eq_none (by simp; omega), List.getElem?_eq_none (by simp; omega)]
def Rs.map {α β : Type} (f : α → β) : Rs α → Rs β
  | .inl a => .inl (f a)
  | .inr o => .inr o
section
variable {u v : Int} {n : Nat} {r : Int}
theorem act_ren {i : Ins} {s : St} (hi : OkI r n i) (hk6 : i.k ≤ 6) (hp : s.p.length = n) (hu : 0 ≤ u ∧ u < n) (hv : 0 ≤ v ∧ v < n) : act r (renI u v i) (swS u v s) = (act r i s).map (swS u v) := by
  have hk := hi.k
  unfold act swS renI
  simp only
  by_cases e1 : i.k = 1
  · have hd := hi.d (by omega) (by omega)
    simp [e1, Rs.map, swl_pst hp hu hv hd]
  by_cases e2 : i.k = 2
  · have hd := hi.d (by omega) (by omega)
    have ha := hi.a (by omega) (by omega) (by omega)
    simp [e2, Rs.map, swl_pst hp hu hv hd, swl_pg hp hu hv ha]
  by_cases e3 : i.k = 3
  · have hd := hi.d (by omega) (by omega)
    have ha := hi.a (by omega) (by omega) (by omega)
    have hb := hi.b (by omega)
    simp only [e3, swl_pg hp hu hv ha, swl_pg hp hu hv hb, if_true, show ¬ (3 : Int) = 1 by omega, show ¬ (3 : Int) = 2 by omega, show ¬ (3 : Int) = 5 by omega, show ¬ (3 : Int) = 6 by omega, if_false, or_false, swl_pst hp hu hv hd]
    split <;> rfl
  by_cases e4 : i.k = 4
  · have hd := hi.d (by omega) (by omega)
    have ha := hi.a (by omega) (by omega) (by omega)
    simp [e4, Rs.map, swl_pst hp hu hv hd, swl_pg hp hu hv ha]
  by_cases e5 : i.k = 5
  · have ha := hi.a (by omega) (by omega) (by omega)
    have hb := hi.b (by omega)
    simp [e5, Rs.map, swl_pg hp hu hv ha, swl_pg hp hu hv hb]
  · have e6 : i.k = 6 := by omega
    have hd := hi.d (by omega) (by omega)
    have ha := (hi.args e6).2
    have : i.args.map (pg (swl u v s.p) ∘ swp u v) = i.args.map (pg s.p) := List.map_congr_left fun x hx => swl_pg hp hu hv (ha x hx)
    simp [e6, Rs.map, swl_pst hp hu hv hd, this]
theorem paid_ren (s : St) : paid (swS u v s) = (paid s).map (swS u v) := by
  unfold paid swS
  split <;> rfl
theorem one_ren {i : Ins} {s : St} (hi : OkI r n i) (hk6 : i.k ≤ 6) (hp : s.p.length = n) (hu : 0 ≤ u ∧ u < n) (hv : 0 ≤ v ∧ v < n) : one r (renI u v i) (swS u v s) = (one r i s).map (swS u v) := by
  unfold one
  have hk : (renI u v i).k = i.k := rfl
  rw [hk]
  split
  · exact act_ren hi hk6 hp hu hv
  · rw [paid_ren]
    cases hq : paid s with
    | inr o => rfl
    | inl s1 =>
      obtain ⟨_, rfl⟩ := paid_go hq
      exact act_ren hi hk6 hp hu hv
theorem insts_ren (hu : 0 ≤ u ∧ u < n) (hv : 0 ≤ v ∧ v < n) : ∀ {is : List Ins} {s : St}, (∀ i ∈ is, OkI r n i ∧ i.k ≤ 6) → s.p.length = n → insts r (is.map (renI u v)) (swS u v s) = (insts r is s).map (swS u v)
  | [], _, _, _ => rfl
  | i :: is, s, h, hp => by
    rw [List.map_cons]
    unfold insts
    rw [one_ren (h i (by simp)).1 (h i (by simp)).2 hp hu hv]
    cases hq : one r i s with
    | inr o => rfl
    | inl s1 => exact insts_ren hu hv (fun x hx => h x (by simp [hx])) ((one_keeps hq).1.trans hp)
theorem leave_ren {nb : Nat} {e : En} {s : St} (he : OkE n nb e) (hp : s.p.length = n) (hu : 0 ≤ u ∧ u < n) (hv : 0 ≤ v ∧ v < n) : leave (renE u v e) (swS u v s) = (leave e s).map (fun x => (x.1, swS u v x.2)) := by
  have hk := he.k
  unfold leave swS renE
  simp only
  by_cases e1 : e.k = 1
  · simp [e1, Rs.map]
  · have ha := he.a e1
    simp only [e1, if_false, swl_pg hp hu hv ha]
    split
    · rfl
    · split <;> rfl
theorem blk_ren {nb : Nat} {b : Blk} {s : St} (hb : OkB r n nb b) (hk : ∀ i ∈ b.ins, i.k ≤ 6) (hp : s.p.length = n) (hu : 0 ≤ u ∧ u < n) (hv : 0 ≤ v ∧ v < n) : blk r (renB u v b) (swS u v s) = (blk r b s).map (fun x => (x.1, swS u v x.2)) := by
  unfold blk renB
  simp only
  rw [insts_ren hu hv (fun i hi => ⟨hb.2.1 i hi, hk i hi⟩) hp]
  cases hq : insts r b.ins s with
  | inr o => rfl
  | inl s1 =>
    show fini (renE u v b.e) (swS u v s1) = (fini b.e s1).map _
    have hp1 := (insts_keeps hq).1.trans hp
    unfold fini
    rw [paid_ren]
    cases hq2 : paid s1 with
    | inr o => rfl
    | inl s2 =>
      obtain ⟨_, rfl⟩ := paid_go hq2
      exact leave_ren (s := { s1 with left := s1.left - 1 }) hb.2.2 hp1 hu hv
theorem play_ren {bs : List Blk} (hb : Okay r n bs) (hk : ∀ b ∈ bs, ∀ i ∈ b.ins, i.k ≤ 6) (hu : 0 ≤ u ∧ u < n) (hv : 0 ≤ v ∧ v < n) : ∀ (m : Nat) (t : Int) (s : St), s.left < m → 0 ≤ t ∧ t < bs.length → s.p.length = n → play r (bs.map (renB u v)) t (swS u v s) = play r bs t s := by
  intro m
  induction m with
  | zero => intro t s h; omega
  | succ m ih =>
    intro t s h ht hp
    have htl : t.toNat < bs.length := by omega
    have hB := hb (bs.getD t.toNat Blk.zero) (by simp [htl])
    have hK := hk (bs.getD t.toNat Blk.zero) (by simp [htl])
    have hg : (bs.map (renB u v)).getD t.toNat Blk.zero = renB u v (bs.getD t.toNat Blk.zero) := by simp [htl]
    rw [play_eq, play_eq, hg, blk_ren hB hK hp hu hv]
    cases hq : blk r (bs.getD t.toNat Blk.zero) s with
    | inr o => rfl
    | inl x =>
      obtain ⟨t', s'⟩ := x
      have h1 := blk_left hq
      have h2 := blk_to hB.2.2 hq
      exact ih t' s' (by omega) h2 ((blk_keeps hq).1.trans hp)
end
/-- A right function, renamed, is right. -/
theorem chk_ren {F : Fun} {u v : Int} {n : Nat} (h : chk F = (0, 0, 0)) (hn : F.v = (n : Int)) (hu : 0 ≤ u ∧ u < n) (hv : 0 ≤ v ∧ v < n) : chk (renF u v F) = (0, 0, 0) := by
  obtain ⟨h1, h2⟩ := chk_all (F := F) (by rw [h])
  refine chk_zero ?_ ?_
  · unfold sized at h1 ⊢
    simpa [renF] using h1
  · intro b hb
    obtain ⟨b0, hb0, rfl⟩ := List.mem_map.1 (show b ∈ F.bs.map (renB u v) from hb)
    obtain ⟨q1, q2, q3⟩ := blkF_all (h2 b0 hb0)
    have hlen : (renF u v F).bs.length = F.bs.length := by simp [renF]
    rw [hlen]
    refine blkF_zero (by simpa [renB] using q1) ?_ ?_
    · intro i hi
      obtain ⟨i0, hi0, rfl⟩ := List.mem_map.1 (show i ∈ b0.ins.map (renI u v) from hi)
      obtain ⟨f1, f2, f3⟩ := inF_all (q2 i0 hi0)
      rw [hn] at f3
      refine inF_zero ?_ (by simpa [renI] using f2) ?_
      · unfold formed at f1 ⊢
        unfold renI
        simp only
        by_cases e1 : i0.k = 1
        · simp [e1] at f1 ⊢; exact f1
        by_cases e2 : i0.k = 2
        · simp [e2] at f1 ⊢; exact f1
        by_cases e3 : i0.k = 3
        · simp [e3] at f1 ⊢; exact f1
        by_cases e4 : i0.k = 4
        · simp [e4] at f1 ⊢; exact f1
        by_cases e5 : i0.k = 5
        · simp [e5] at f1 ⊢; exact f1
        by_cases e6 : i0.k = 6
        · simp [e6] at f1 ⊢; exact f1
        · simp [e1, e2, e3, e4, e5, e6] at f1
      · intro x hx
        show 0 ≤ x ∧ x < F.v
        rw [hn]
        have hex : ∃ y ∈ named i0, x = swp u v y := by
          unfold formed at f1
          unfold named uses gives renI at hx
          unfold named uses gives
          simp only at hx
          by_cases e1 : i0.k = 1
          · simp [e1] at hx ⊢; exact hx
          by_cases e2 : i0.k = 2
          · simp [e2] at hx ⊢; exact hx
          by_cases e3 : i0.k = 3
          · simp [e3] at hx ⊢; exact hx
          by_cases e4 : i0.k = 4
          · simp [e4] at hx ⊢; exact hx
          by_cases e5 : i0.k = 5
          · simp [e5] at hx ⊢; exact hx
          by_cases e6 : i0.k = 6
          · simp [e6] at hx ⊢
            rcases hx with ⟨y, hy, rfl⟩ | hx
            · exact .inl ⟨y, hy, rfl⟩
            · exact .inr hx
          · simp [e1, e2, e3, e4, e5, e6] at f1
        obtain ⟨y, hy, rfl⟩ := hex
        exact swp_in hu hv (f3 y hy)
    · obtain ⟨g1, g2, g3⟩ := endF_all q3
      refine endF_zero ?_ ?_ ?_
      · unfold endFormed at g1 ⊢
        unfold renB renE
        simp only
        by_cases e1 : b0.e.k = 1
        · simp [e1] at g1 ⊢; exact g1
        · simp only [e1, if_false] at g1 ⊢
          exact g1
      · intro ht
        have ht : takes b0.e.k = true := ht
        have h1 : b0.e.k ≠ 1 := by intro e; rw [e] at ht; simp [takes] at ht
        have := g2 ht
        rw [hn] at this
        show 0 ≤ (if b0.e.k = 1 then b0.e.a else swp u v b0.e.a) ∧ (if b0.e.k = 1 then b0.e.a else swp u v b0.e.a) < F.v
        rw [if_neg h1, hn]
        exact swp_in hu hv this
      · intro x hx
        exact g3 x (show x ∈ targets b0.e from hx)
/-- Where no argument lies the beginning is the same. -/
theorem st0_ren {u v : Int} {n : Nat} {I : Inp} (hu : (I.args.length : Int) ≤ u ∧ u < n) (hv : (I.args.length : Int) ≤ v ∧ v < n) : swS u v (st0 n 0 I) = st0 n 0 I := by
  unfold swS
  have hfit : I.args.length ≤ n := by omega
  have hl : laidL n 0 I.args = I.args ++ List.replicate (n - I.args.length) 0 := by
    unfold laidL
    rw [if_pos (by omega)]
    unfold splice
    simp [List.take_of_length_le hfit]
  have h0 : ∀ x : Int, (I.args.length : Int) ≤ x → x < n → (laidL n 0 I.args).getD x.toNat 0 = 0 := by
    intro x h1 h2
    rw [hl, List.getD_eq_getElem?_getD, List.getElem?_append_right (by omega)]
    simp [List.getElem?_replicate]
    split <;> rfl
  have : swl u v (laidL n 0 I.args) = laidL n 0 I.args := by
    apply List.ext_getElem?
    intro i
    by_cases hi : i < n
    · unfold swl
      rw [List.getElem?_map, laidL_len, List.getElem?_range hi]
      simp only [Option.map_some]
      have hi2 : i < (laidL n 0 I.args).length := by rw [laidL_len]; exact hi
      have hg : (laidL n 0 I.args)[i]? = some ((laidL n 0 I.args).getD i 0) := by simp [hi2]
      rw [hg]
      congr 1
      unfold swp
      split
      · rename_i e
        rw [h0 v hv.1 hv.2]
        have := h0 u hu.1 hu.2
        rw [← e] at this
        simpa using this.symm
      · split
        · rename_i e
          rw [h0 u hu.1 hu.2]
          have := h0 v hv.1 hv.2
          rw [← e] at this
          simpa using this.symm
        · simp
    · rw [List.getElem?_eq_none (by rw [swl_len, laidL_len]; omega), List.getElem?_eq_none (by rw [laidL_len]; omega)]
  unfold st0
  simp only [this]
end Go.Proofs.Ytljnngblhfhhaab.Ir
