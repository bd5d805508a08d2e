/- A move of a vreg to itself changes nothing: in plain mathematics. -/
import Derived.Test.YtljnngblhfhhaaaDo
namespace Go.Proofs.Ytljnngblhfhhaaa.Ir

def mvI (r : Int) : Ins := ⟨2, 0, r, r, 0, 0, []⟩
def mvB (k : Nat) (r : Int) (b : Blk) : Blk := { b with ins := b.ins.take k ++ mvI r :: b.ins.drop k }
def mvF (j k : Nat) (r : Int) (F : Fun) : Fun := { F with bs := F.bs.set j (mvB k r (F.bs.getD j Blk.zero)) }
theorem pst_same (p : List Int) (r : Int) : pst p r (pg p r) = p := by
  unfold pst pg
  apply List.ext_getElem
  · simp
  · intro i h1 h2
    rw [List.getElem_set]
    split
    · rename_i h
      subst h
      simp [List.getElem?_eq_getElem h2]
    · rfl
theorem one_mv (v r : Int) (s : St) : one v (mvI r) s = .inl s := by
  have h1 : one v (mvI r) s = .inl { s with p := pst s.p r (pg s.p r) } := by
    unfold one act mvI free
    simp
  rw [h1, pst_same]
theorem insts_app (v : Int) (a b : List Ins) (s : St) : insts v (a ++ b) s = (insts v a s).bind (insts v b) := by
  induction a generalizing s with
  | nil => rfl
  | cons i a ih =>
    show (one v i s).bind (insts v (a ++ b)) = ((one v i s).bind (insts v a)).bind (insts v b)
    cases one v i s with
    | inr o => rfl
    | inl s1 => exact ih s1
theorem insts_mv (v r : Int) (k : Nat) (is : List Ins) (s : St) : insts v (is.take k ++ mvI r :: is.drop k) s = insts v is s := by
  have h1 : ∀ s, insts v (mvI r :: is.drop k) s = insts v (is.drop k) s := fun s => by
    show (one v (mvI r) s).bind _ = _
    rw [one_mv]
    rfl
  have h2 : insts v is s = insts v (is.take k ++ is.drop k) s := by rw [List.take_append_drop]
  rw [h2, insts_app, insts_app]
  congr 1
  funext s
  exact h1 s
theorem blk_mv (v r : Int) (k : Nat) (b : Blk) (s : St) : blk v (mvB k r b) s = blk v b s := by
  unfold blk mvB
  rw [insts_mv]
theorem playN_same {v : Int} {cs bs : List Blk} (h : ∀ (t : Nat) (s : St), blk v (cs.getD t Blk.zero) s = blk v (bs.getD t Blk.zero) s) : ∀ (n : Nat) (t : Int) (s : St), playN v cs n t s = playN v bs n t s
  | 0, _, _ => rfl
  | n + 1, t, s => by
    unfold playN
    rw [h]
    cases blk v (bs.getD t.toNat Blk.zero) s with
    | inr o => rfl
    | inl x => exact playN_same h n x.1 x.2
/-- A move of a vreg to itself, anywhere, changes nothing, not the fuel either. -/
theorem play_mv (v r : Int) (bs : List Blk) (j k : Nat) (t : Int) (s : St) : play v (bs.set j (mvB k r (bs.getD j Blk.zero))) t s = play v bs t s := by
  unfold play
  refine playN_same (fun i s => ?_) _ t s
  by_cases hj : j < bs.length
  · by_cases hi : i = j
    · subst hi
      have e : (bs.set i (mvB k r (bs.getD i Blk.zero))).getD i Blk.zero = mvB k r (bs.getD i Blk.zero) := by simp [hj]
      rw [e, blk_mv]
    · have e : (bs.set j (mvB k r (bs.getD j Blk.zero))).getD i Blk.zero = bs.getD i Blk.zero := by simp [List.getElem?_set_ne (Ne.symm hi)]
      rw [e]
  · rw [List.set_eq_of_length_le (by omega)]
theorem inF_mv {v r : Int} (h : 0 ≤ r ∧ r < v) : inF (mvI r) v = 0 := by
  unfold inF mvI
  simp [formed, named, uses, gives, inr]
  omega
/-- And it leaves a right function right. -/
theorem chk_mv {F : Fun} {j k : Nat} {r : Int} (hF : chk F = (0, 0, 0)) (hj : j < F.bs.length) (hr : 0 ≤ r ∧ r < F.v) (hl : (F.bs.getD j Blk.zero).ins.length < 32) : chk (mvF j k r F) = (0, 0, 0) := by
  obtain ⟨h1, h2⟩ := chk_all (F := F) (by rw [hF])
  have hlen : (mvF j k r F).bs.length = F.bs.length := by simp [mvF]
  refine chk_zero ?_ ?_
  · unfold sized at h1 ⊢
    rw [hlen]
    exact h1
  · intro b hb
    rw [hlen]
    have hb : b ∈ F.bs.set j (mvB k r (F.bs.getD j Blk.zero)) := hb
    rcases List.mem_or_eq_of_mem_set hb with hb | rfl
    · exact h2 b hb
    · have hm : F.bs.getD j Blk.zero ∈ F.bs := by simp [hj]
      obtain ⟨q1, q2, q3⟩ := blkF_all (h2 _ hm)
      generalize F.bs.getD j Blk.zero = B at *
      refine blkF_zero ?_ ?_ q3
      · simp only [mvB, List.length_append, List.length_take, List.length_cons, List.length_drop]
        omega
      · intro i hi
        simp only [mvB, List.mem_append, List.mem_cons] at hi
        rcases hi with hi | rfl | hi
        · exact q2 i (List.mem_of_mem_take hi)
        · exact inF_mv hr
        · exact q2 i (List.mem_of_mem_drop hi)
end Go.Proofs.Ytljnngblhfhhaaa.Ir
