/- The code's Reach. -/
import Derived.Test.YtgckpmaajmlijaaR7
namespace Go.Proofs.Ytgckpmaajmlijaa
open Go.RowKit Ir Wy

theorem ofL_snoc (xs : List Int) (x : Int) : Bg.ofL (xs ++ [x]) = Bg.ins (Bg.ofL xs) x := by unfold Bg.ofL; rw [List.foldl_append]; rfl
theorem ofL_nat (l : List Nat) (hl : ∀ x ∈ l, x < 4096) : ∀ y, Bg.ofL (ci l) y = true ↔ y ∈ l := by
  have key : ∀ (k : List Nat), (∀ x ∈ k, x < 4096) → ∀ (f : Nat → Bool) y, (ci k).foldl Bg.ins f y = true ↔ f y = true ∨ y ∈ k := by
    intro k
    induction k with
    | nil => intro _ f y; simp [ci]
    | cons c k ih =>
      intro hk f y
      show (ci k).foldl Bg.ins (Bg.ins f (c : Int)) y = true ↔ _
      rw [ih (fun x hx => hk x (by simp [hx])), ins_nat f c (hk c (by simp))]
      simp only [mk, Bool.or_eq_true, beq_iff_eq, List.mem_cons, or_assoc]
  intro y
  have := key l hl (fun _ => false) y
  simpa [Bg.ofL] using this
/-- What is come to. -/
def rF (es : List En) : Nat → Bool := rnds (nxE es) es.length es.length (fun y => y == 0)
theorem rF_rch {es : List En} (hin : EndsIn es) (h0 : 0 < es.length) (x : Nat) : rF es x = true ↔ Rch (nxE es) 0 x := rnds_rch hin.nx h0 x
theorem rF_lt {es : List En} (hin : EndsIn es) (h0 : 0 < es.length) {x : Nat} (h : rF es x = true) : x < es.length := ((rF_rch hin h0 x).1 h).lt hin.nx h0
theorem ord_mem {es : List En} (hin : EndsIn es) (h0 : 0 < es.length) (x : Nat) : x ∈ ordD (nxE es) es.length ↔ rF es x = true := ((ord_ok hin.nx h0).mem x).trans (rF_rch hin h0 x).symm
theorem ord_len {es : List En} (hin : EndsIn es) (h0 : 0 < es.length) : (ordD (nxE es) es.length).length ≤ es.length := by
  have hk := ord_ok hin.nx h0
  have key : ∀ (n : Nat) (l : List Nat), l.Nodup → (∀ x ∈ l, x < n) → l.length ≤ n := by
    intro n
    induction n with
    | zero => intro l _ h; cases l with
      | nil => simp
      | cons a l => have := h a (by simp); omega
    | succ n ih =>
      intro l hn h
      have h1 := ih (l.filter (· != n)) (hn.filter _) (fun x hx => by
        have := List.mem_filter.1 hx
        have h2 := h x this.1
        have h3 : x ≠ n := by simpa using this.2
        omega)
      have h2 : l.length ≤ (l.filter (· != n)).length + 1 := by
        clear h h1 ih
        induction l with
        | nil => simp
        | cons a l ih2 =>
          have hn' := List.nodup_cons.1 hn
          by_cases e : a = n
          · subst e
            have : l.filter (· != a) = l := List.filter_eq_self.2 (fun x hx => by
              have : x ≠ a := fun e => hn'.1 (e ▸ hx)
              simpa using this)
            simp [this]
          · have := ih2 hn'.2
            have e' : (a != n) = true := by simpa using e
            rw [List.filter_cons, if_pos e']
            simp only [List.length_cons]
            omega
      omega
  exact key _ _ hk.nodup (fun x hx => rF_lt hin h0 ((ord_mem hin h0 x).1 hx))
theorem setV_reach {u : Value} {es : List En} (hin : EndsIn es) (h0 : 0 < es.length) (hn : es.length ≤ 1000) (h : Bg.SetV u (Bg.ofL (ci (ordD (nxE es) es.length)))) : Bg.SetV u (rF es) := by
  refine h.congr fun x _ => ?_
  have h1 := ofL_nat (ordD (nxE es) es.length) (fun y hy => by have := rF_lt hin h0 ((ord_mem hin h0 y).1 hy); omega) x
  have h2 := ord_mem hin h0 x
  cases hr : rF es x
  · cases ho : Bg.ofL (ci (ordD (nxE es) es.length)) x
    · rfl
    · have := h2.1 (h1.1 ho)
      rw [hr] at this
      cases this
  · exact h1.2 (h2.2 hr)
set_option maxHeartbeats 1000000 in
set_option maxRecDepth 100000 in
theorem reach_any (w : World) (lv : Value) (es : List En) (H0 : EndsV w lv es) (hin : EndsIn es) (h0 : 0 < es.length) (hn : es.length ≤ 1000) :
    Calls Try.prog 10 #[lv] w fun e w' => ∃ u, e = .returned u ∧ Bg.SetV u (rF es) ∧ Below w.heap.size w w' := by
  obtain ⟨ao, c, rfl⟩ := H0.slice
  have HH := hide H0
  have hlen : Hid ((ci (ordD (nxE es) es.length)).length ≤ 1000) := hide (by rw [List.length_map]; have := ord_len hin h0; omega)
  clear H0
  go_enter Try.func10, Try.ntmps10
  go_wp2_with (first | (refine Bg.wpList_new 2 rfl rfl 35 rfl Bg.z64 Bg.z27 ?_; intro g w1 h1))
  have HB1 : Hid (Below w.heap.size w w1) := by
    obtain ⟨rfl, _, hb⟩ := h1.out
    exact hb
  refine (order_any w1 _ es (HH.out.below HB1.out) hin h0 hn).mono ?_
  rintro e w2 ⟨u, rfl, hu, hB2⟩
  have HU := hide hu
  have HB2 := hide (bel_of HB1.out hB2)
  have HG2 : Hid (w2.heap[g]? = some (.cells Bg.z64 35 (0, 0))) := hide ((hB2.block _ (heap_lt h1.out.2.1)).trans h1.out.2.1)
  clear hu hB2
  go_wp2_with fail
  refine (Bg.of_any u _ w2 HU.out.v (by have := hlen.out; omega)).mono ?_
  rintro e w3 ⟨uu, rfl, hS, hg3⟩
  have HS := hide (setV_reach hin h0 hn hS)
  have HB3 := hide (bel_of HB2.out (Bg.gb_to hg3))
  have HG3 : Hid (w3.heap[g]? = some (.cells Bg.z64 35 (0, 0))) := hide ((hg3.block _ (heap_lt HG2.out) (by simp)).trans HG2.out)
  clear hS hg3
  obtain ⟨cs, rfl, hcs⟩ := HS.out
  have HC := hide hcs
  have HGE : Hid (w.heap.size ≤ g) := hide (by rw [h1.out.1]; exact Nat.le_refl _)
  clear hcs HS
  go_wp2_with (first | (refine Bg.wpList_store_whole rfl 35 (.tmp 2) (.tmp 5) rfl g 35 Bg.z64 cs rfl rfl HG3.out (by rw [HC.out.1]; exact Bg.info27) (by rw [HC.out.1]; rfl) HC.out.cells ?_; intro w4 h4 h5 h6))
  refine bodyPost_ret (v := .agg cs) (results_cell_row Try.results10 _ w4 g 35 cs (0, 0) _ rfl h4.out Try.underlying35 rfl (by rw [HC.out.1]; exact Bg.info27)) rfl ?_
  exact ⟨_, rfl, ⟨cs, rfl, HC.out⟩, HB3.out.grown h5.out HB3.out.size (fun k e => by cases e; exact HGE.out)⟩
end Go.Proofs.Ytgckpmaajmlijaa
