/- What reads with no fault was written so, and may be written; certificates that the call itself has laid, read. -/
import Derived.Test.YtbjnhicikkjadaaRr
import Derived.Test.YtbjnhicikkjadaaRq
import Derived.Test.YtbjnhicikkjadaaWc
import Derived.Test.YtbjnhicikkjadaaOn
namespace Go.Proofs.Ytbjnhicikkjadaa
open Go.RowKit Ir Wire Leb

/-- No fault is none. -/
def Nz {α : Type} (p : List Int → Pr α) : Prop := ∀ xs c, p xs = .inr c → c ≠ 0
theorem Nz.pure {α : Type} (a : α) : Nz fun xs => .inl (a, xs) := fun _ _ h => by cases h
theorem Nz.fail {α : Type} {c : Int} (hc : c ≠ 0) : Nz (α := α) fun _ => .inr c := fun _ _ h => by
  simp only [Sum.inr.injEq] at h
  rw [← h]
  exact hc
theorem Nz.ite {α : Type} {c : Prop} [Decidable c] {p q : List Int → Pr α} (hp : Nz p) (hq : Nz q) : Nz fun xs => if c then p xs else q xs := by
  by_cases h : c
  · simpa [h] using hp
  · simpa [h] using hq
theorem Nz.bind {α β : Type} {p : List Int → Pr α} {q : α → List Int → Pr β} (hp : Nz p) (hq : ∀ a, Nz (q a)) : Nz fun xs => (p xs).bind q := by
  intro xs c h
  have h' : (p xs).bind q = .inr c := h
  cases e : p xs with
  | inl x =>
    rw [e] at h'
    exact hq x.1 x.2 c h'
  | inr c' =>
    rw [e] at h'
    simp only [Pr.bind, Sum.inr.injEq] at h'
    rw [← h']
    exact hp xs c' e
theorem nz_num : Nz numP := by
  intro xs c h
  unfold numP at h
  split at h
  · cases h
  · rename_i h0
    simp only [Sum.inr.injEq] at h
    rw [← h]
    exact h0
theorem nz_bel (lim : Nat) : Nz (belP lim) := Nz.bind nz_num fun _ => Nz.ite (Nz.pure _) (Nz.fail (by decide))
theorem nz_args : ∀ c, Nz (argsP c)
  | 0 => Nz.pure _
  | c + 1 => Nz.bind (nz_bel _) fun _ => Nz.bind (nz_args c) fun _ => Nz.pure _
theorem nz_insK (k : Int) : Nz (insK k) :=
  Nz.ite (Nz.bind (nz_bel _) fun _ => Nz.bind nz_num fun _ => Nz.pure _)
    (Nz.ite (Nz.bind (nz_bel _) fun _ => Nz.bind (nz_bel _) fun _ => Nz.bind (nz_bel _) fun _ => Nz.bind (nz_bel _) fun _ => Nz.pure _)
      (Nz.ite (Nz.bind (nz_bel _) fun _ => Nz.bind (nz_bel _) fun _ => Nz.pure _)
        (Nz.ite (Nz.bind (nz_bel _) fun _ => Nz.bind nz_num fun _ => Nz.bind (nz_bel _) fun c => Nz.bind (nz_args c.toNat) fun _ => Nz.pure _)
          (Nz.bind (nz_bel _) fun _ => Nz.bind (nz_bel _) fun _ => Nz.pure _))))
theorem nz_ins : Nz insP := Nz.bind (nz_bel _) fun k => Nz.ite (nz_insK k) (Nz.fail (by decide))
theorem nz_inss : ∀ c, Nz (inssP c)
  | 0 => Nz.pure _
  | c + 1 => Nz.bind nz_ins fun _ => Nz.bind (nz_inss c) fun _ => Nz.pure _
theorem nz_endK (k : Int) : Nz (endK k) :=
  Nz.ite (Nz.bind (nz_bel _) fun _ => Nz.pure _) (Nz.ite (Nz.bind (nz_bel _) fun _ => Nz.bind (nz_bel _) fun _ => Nz.bind (nz_bel _) fun _ => Nz.pure _) (Nz.bind (nz_bel _) fun _ => Nz.pure _))
theorem nz_end : Nz endP := Nz.bind (nz_bel _) fun k => Nz.ite (nz_endK k) (Nz.fail (by decide))
theorem nz_blk (most : Nat) : Nz (blkP most) := Nz.bind (nz_bel _) fun m => Nz.bind (nz_inss m.toNat) fun _ => Nz.bind nz_end fun _ => Nz.pure _
theorem nz_blks (most : Nat) : ∀ c, Nz (blksP most c)
  | 0 => Nz.pure _
  | c + 1 => Nz.bind (nz_blk most) fun _ => Nz.bind (nz_blks most c) fun _ => Nz.pure _
theorem nz_all (most : Nat) : Nz (allP most) := Nz.bind (nz_bel _) fun n => nz_blks most n.toNat
theorem nz_fun : Nz funP := Nz.bind (nz_bel _) fun _ => Nz.bind (nz_bel _) fun _ => Nz.bind (nz_all _) fun _ => Nz.pure _
theorem nz_cod : Nz codP := Nz.bind (nz_bel _) fun _ => Nz.bind (nz_bel _) fun _ => Nz.bind (nz_bel _) fun _ => Nz.bind (nz_all _) fun _ => Nz.pure _
theorem nz_pr : Nz prP := Nz.bind (nz_bel _) fun _ => Nz.bind (nz_bel _) fun _ => Nz.pure _
theorem nz_prs : ∀ c, Nz (prsP c)
  | 0 => Nz.pure _
  | c + 1 => Nz.bind nz_pr fun _ => Nz.bind (nz_prs c) fun _ => Nz.pure _
theorem nz_lst : Nz lstP := Nz.bind (nz_bel _) fun n => nz_prs n.toNat
theorem nz_lsts : ∀ c, Nz (lstsP c)
  | 0 => Nz.pure _
  | c + 1 => Nz.bind nz_lst fun _ => Nz.bind (nz_lsts c) fun _ => Nz.pure _
theorem nz_cer : Nz cerP := Nz.bind (nz_bel _) fun n => nz_lsts n.toNat
theorem rgd_of {most : Nat} {bs : List Blk} (h : ∀ b ∈ bs, WfB most b) : Rgd bs := by
  intro b hb i hi
  have h1 := ((h b hb).2.1 i hi).n
  split at h1
  · exact h1
  · rw [h1]
    constructor <;> omega
theorem funP_rgd {xs r : List Int} {F : Fun} (hx : Bs xs) (h : funP xs = .inl (F, r)) : Rgd F.bs := by
  obtain ⟨p, r1, h1, h2⟩ := bind_inl h
  obtain ⟨rfl, _, _⟩ := belP_inv hx h1
  obtain ⟨v, r2, h3, h4⟩ := bind_inl h2
  obtain ⟨rfl, _, _⟩ := belP_inv hx.right h3
  obtain ⟨bs, r3, h5, h6⟩ := bind_inl h4
  simp only [Sum.inl.injEq, Prod.mk.injEq] at h6
  obtain ⟨rfl, _⟩ := h6
  exact rgd_of (allP_inv hx.right.right h5).2.2
theorem codP_rgd {xs r : List Int} {C : Cod} (hx : Bs xs) (h : codP xs = .inl (C, r)) : Rgd C.bs := by
  obtain ⟨p, r1, h1, h2⟩ := bind_inl h
  obtain ⟨rfl, _, _⟩ := belP_inv hx h1
  obtain ⟨v, r2, h3, h4⟩ := bind_inl h2
  obtain ⟨rfl, _, _⟩ := belP_inv hx.right h3
  obtain ⟨s, r3, h5, h6⟩ := bind_inl h4
  obtain ⟨rfl, _, _⟩ := belP_inv hx.right.right h5
  obtain ⟨bs, r4, h7, h8⟩ := bind_inl h6
  simp only [Sum.inl.injEq, Prod.mk.injEq] at h8
  obtain ⟨rfl, _⟩ := h8
  exact rgd_of (allP_inv hx.right.right.right h7).2.2
theorem oneF {xs : List Int} (hx : Bs xs) (h : (rd zF funP okF xs).2 = 0) : xs = funB (rd zF funP okF xs).1 ∧ (chk (rd zF funP okF xs).1).1 = 0 ∧ Rgd (rd zF funP okF xs).1.bs := by
  obtain ⟨h1, h2⟩ := rd_zero (z := zF) (p := funP) (ok := okF) (xs := xs) (a := (rd zF funP okF xs).1) (by rw [← h]) (nz_fun xs)
  generalize (rd zF funP okF xs).1 = F at *
  have h3 := funP_inv hx h1
  rw [List.append_nil] at h3
  exact ⟨h3, by simpa [okF] using h2, funP_rgd hx h1⟩
theorem oneC {xs : List Int} (hx : Bs xs) (h : (rd zC codP okC xs).2 = 0) : xs = codB (rd zC codP okC xs).1 ∧ (mchk (rd zC codP okC xs).1).1 = 0 ∧ Rgd (rd zC codP okC xs).1.bs := by
  obtain ⟨h1, h2⟩ := rd_zero (z := zC) (p := codP) (ok := okC) (xs := xs) (a := (rd zC codP okC xs).1) (by rw [← h]) (nz_cod xs)
  generalize (rd zC codP okC xs).1 = F at *
  have h3 := codP_inv hx h1
  rw [List.append_nil] at h3
  exact ⟨h3, by simpa [okC] using h2, codP_rgd hx h1⟩
theorem oneL {xs : List Int} (hx : Bs xs) (h : (rd [] cerP (fun _ => true) xs).2 = 0) : xs = cerB (rd [] cerP (fun _ => true) xs).1 ∧ WfC (rd [] cerP (fun _ => true) xs).1 := by
  obtain ⟨h1, h2⟩ := rd_zero (z := []) (p := cerP) (ok := fun _ => true) (xs := xs) (a := (rd [] cerP (fun _ => true) xs).1) (by rw [← h]) (nz_cer xs)
  generalize (rd [] cerP (fun _ => true) xs).1 = F at *
  obtain ⟨h3, h4⟩ := cerP_inv hx h1
  rw [List.append_nil] at h3
  exact ⟨h3, h4⟩
theorem cerA_of {l : List (List Pair)} (h : WfC l) : cerA l = (cerB l, 0) := by
  have h1 := h.1
  have h2 : l.all okL = true := by
    rw [List.all_eq_true]
    intro x hx
    unfold okL
    rw [List.all_eq_true]
    intro p hp
    have h3 := (h.2 x hx).2 p hp
    have h4 := h3.1
    have h5 := h3.2
    simp [okP, isF]
    omega
  unfold cerA
  rw [if_neg (by omega), if_pos h2]
theorem cellsP_len (ps : List Pair) : (cellsP ps).length = ps.length * 2 := by
  induction ps with
  | nil => rfl
  | cons p ps ih =>
    have : cellsP (p :: ps) = [.int .i64 p.v, .int .i64 p.l] ++ cellsP ps := rfl
    rw [this, List.length_append, ih]
    simp
    omega
theorem cellsP_get : ∀ (ps : List Pair) (j : Nat) (p : Pair), ps[j]? = some p → (cellsP ps)[j * 2]? = some (.int .i64 p.v) ∧ (cellsP ps)[j * 2 + 1]? = some (.int .i64 p.l)
  | [], j, p, h => by simp at h
  | q :: ps, 0, p, h => by
    simp at h
    subst h
    exact ⟨rfl, rfl⟩
  | q :: ps, j + 1, p, h => by
    have ih := cellsP_get ps j p (by simpa using h)
    have e : cellsP (q :: ps) = .int .i64 q.v :: .int .i64 q.l :: cellsP ps := rfl
    rw [e, show (j + 1) * 2 = j * 2 + 1 + 1 by omega]
    simpa using ih
theorem PrsO.v {B : Nat} {w : World} {v : Value} {ps : List Pair} (h : PrsO B w v ps) : PrsV w v ps := by
  rcases h.2 with ⟨rfl, h0⟩ | ⟨g, cap, cur, rfl, _, hg, hnc, hcm, _, _⟩
  · have : ps = [] := List.eq_nil_of_length_eq_zero h0
    subst this
    exact SlV.nil
  · refine ⟨_, cap, rfl, hnc, hcm, fun e => by simp at e, fun _ => ⟨g, 0, rfl, fun j hj => ?_⟩⟩
    have hp : ps[j]? = some ps[j] := List.getElem?_eq_getElem hj
    obtain ⟨g0, g1⟩ := cellsP_get ps j _ hp
    have hd : ps.getD j Pair.zero = ps[j] := by simp [hj]
    rw [hd, Nat.zero_add]
    exact ⟨by rw [World.ownsRow.cellAt h (j * 2) (by omega), g0], by rw [World.ownsRow.cellAt h (j * 2 + 1) (by omega), g1]⟩
theorem CerO.v {B : Nat} {w : World} {v : Value} {l : List (List Pair)} (h : CerO B w v l) : CerV w v l := by
  obtain ⟨qs, rfl, h2, h3⟩ := h
  rcases h2.2 with ⟨rfl, h0⟩ | ⟨g, cap, cur, rfl, _, hg, hnc, hcm, _, _⟩
  · have : qs = [] := List.eq_nil_of_length_eq_zero h0
    subst this
    exact SlV.nil
  · refine ⟨_, cap, by rw [List.length_map], by rw [List.length_map]; exact hnc, hcm, fun e => by simp at e, fun _ => ⟨g, 0, rfl, fun j hj => ?_⟩⟩
    rw [List.length_map] at hj
    have hd : (qs.map (·.1)).getD j [] = qs[j].1 := by simp [hj]
    rw [hd, Nat.zero_add, Nat.mul_one]
    refine ⟨qs[j].2, ?_, (h3 _ (List.getElem_mem hj)).v⟩
    rw [World.ownsRow.cellAt h2 j (by omega)]
    simp [hj]
end Go.Proofs.Ytbjnhicikkjadaa
