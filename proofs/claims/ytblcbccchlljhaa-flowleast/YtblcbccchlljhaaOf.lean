/- Slices of numbers: read, and owned; sets of a slice. -/
import Derived.Test.YtblcbccchlljhaaJo
namespace Go.Proofs.Ytblcbccchlljhaa.Bg
open Go.RowKit Bag
/-! ### Reading -/
section
variable {α : Type}
/-- The slice value v leads to xs: each takes sz cells, E says what lies there. -/
def SlV (sz : Nat) (E : World → Nat → Nat → α → Prop) (z : α) (w : World) (v : Value) (xs : List α) : Prop :=
  ∃ ao cap, v = .slice ao xs.length cap ∧ xs.length ≤ cap ∧ cap ≤ maxLen ∧ (ao = none → cap = 0) ∧ (0 < xs.length → ∃ b off, ao = some ⟨b, off, none⟩ ∧ ∀ j, j < xs.length → E w b (off + j * sz) (xs.getD j z))
variable {sz : Nat} {E : World → Nat → Nat → α → Prop} {z : α} {w w' : World} {v : Value} {xs : List α}
theorem SlV.mono (h : SlV sz E z w v xs) (hE : ∀ b off x, E w b off x → E w' b off x) : SlV sz E z w' v xs := by
  obtain ⟨ao, cap, h1, h2, h3, h4, h5⟩ := h
  refine ⟨ao, cap, h1, h2, h3, h4, fun h0 => ?_⟩
  obtain ⟨b, off, e, hc⟩ := h5 h0
  exact ⟨b, off, e, fun j hj => hE _ _ _ (hc j hj)⟩
theorem SlV.slice (h : SlV sz E z w v xs) : ∃ ao cap, v = .slice ao xs.length cap := by
  obtain ⟨ao, cap, h, _⟩ := h
  exact ⟨ao, cap, h⟩
theorem SlV.cap {ao : Option Addr} {n c : Nat} (h : SlV sz E z w (.slice ao n c) xs) : n = xs.length ∧ n ≤ c ∧ c ≤ maxLen ∧ (ao = none → c = 0) := by
  obtain ⟨ao', cap, h1, h2, h3, h4, _⟩ := h
  simp only [Value.slice.injEq] at h1
  obtain ⟨rfl, rfl, rfl⟩ := h1
  exact ⟨rfl, h2, h3, h4⟩
theorem SlV.at {ao : Option Addr} {n c : Nat} (h : SlV sz E z w (.slice ao n c) xs) (j : Nat) (hj : j < xs.length) : ∃ b off, ao = some ⟨b, off, none⟩ ∧ E w b (off + j * sz) (xs.getD j z) := by
  obtain ⟨ao', cap, h1, _, _, _, h5⟩ := h
  obtain ⟨b, off, e, hc⟩ := h5 (by omega)
  simp only [Value.slice.injEq] at h1
  exact ⟨b, off, h1.1.trans e, hc j hj⟩
/-- The same place for all. -/
theorem SlV.all {ao : Option Addr} {n c : Nat} (h : SlV sz E z w (.slice ao n c) xs) (h0 : 0 < xs.length) : ∃ b off, ao = some ⟨b, off, none⟩ ∧ ∀ j, j < xs.length → E w b (off + j * sz) (xs.getD j z) := by
  obtain ⟨ao', cap, h1, _, _, _, h5⟩ := h
  obtain ⟨b, off, e, hc⟩ := h5 h0
  simp only [Value.slice.injEq] at h1
  exact ⟨b, off, h1.1.trans e, hc⟩
theorem SlV.nil : SlV sz E z w (.slice none 0 0) [] := ⟨none, 0, rfl, Nat.le_refl _, by simp [maxLen], fun _ => rfl, fun h => by simp at h⟩
theorem SlV.len_le (h : SlV sz E z w v xs) : xs.length ≤ maxLen := by
  obtain ⟨ao, cap, _, h2, h3, _⟩ := h
  omega
end

def IntAt (w : World) (b off : Nat) (x : Int) : Prop := w.cell? ⟨b, off, none⟩ = some (.int .i64 x)
def IntsV (w : World) (v : Value) (xs : List Int) : Prop := SlV 1 IntAt 0 w v xs
theorem IntsV.below {w w' : World} {v : Value} {xs : List Int} (h : IntsV w v xs) (hB : Below w.heap.size w w') : IntsV w' v xs := SlV.mono h fun _ _ _ => cell_below hB
theorem IntsV.drew {w : World} {v : Value} {xs : List Int} (h : IntsV w v xs) : IntsV w.drew v xs := h.below (Below.refl _ _).drew
theorem IntsV.slice {w : World} {v : Value} {xs : List Int} (h : IntsV w v xs) : ∃ ao cap, v = .slice ao xs.length cap := SlV.slice h
theorem IntsV.at {w : World} {ao : Option Addr} {n c : Nat} {xs : List Int} (h : IntsV w (.slice ao n c) xs) (j : Nat) (hj : j < xs.length) : ∃ b off, ao = some ⟨b, off, none⟩ ∧ w.cell? ⟨b, off + j, none⟩ = some (.int .i64 (xs.getD j 0)) := by
  obtain ⟨b, off, e, h⟩ := SlV.at h j hj
  rw [Nat.mul_one] at h
  exact ⟨b, off, e, h⟩

theorem owns_kept {w w' : World} {B : Nat} {e : TypeId} {size : Nat} {v : Value} {n : Nat} {xs : List Value} (h : w.ownsRow B e size v n xs) (hk : Below w.heap.size w w') : w'.ownsRow B e size v n xs :=
  h.kept (gb_of hk) (by cases v.ownBlock <;> simp)
theorem owns_mono {w : World} {B B' : Nat} {e : TypeId} {size : Nat} {v : Value} {n : Nat} {xs : List Value} (h : w.ownsRow B e size v n xs) (hB : B' ≤ B) : w.ownsRow B' e size v n xs := by
  refine ⟨h.1, ?_⟩
  rcases h.2 with h | ⟨g, cap, cur, hv, hb, r⟩
  · exact .inl h
  · exact .inr ⟨g, cap, cur, hv, by omega, r⟩
def ArgsO (B : Nat) (w : World) (v : Value) (xs : List Int) : Prop := w.ownsRow B 3 1 v xs.length (xs.map (Value.int .i64))
theorem ArgsO.nil (B : Nat) (w : World) : ArgsO B w (.slice none 0 0) [] := World.ownsRow_nil _ _ _ _
theorem ArgsO.v {B : Nat} {w : World} {v : Value} {xs : List Int} (h : ArgsO B w v xs) : IntsV w v xs := by
  rcases h.2 with ⟨rfl, h0⟩ | ⟨g, cap, cur, rfl, _, hg, hnc, hcm, _, ht⟩
  · have : xs = [] := List.eq_nil_of_length_eq_zero h0
    subst this
    exact SlV.nil
  · refine ⟨_, cap, rfl, hnc, hcm, fun e => by simp at e, fun _ => ⟨g, 0, rfl, fun j hj => ?_⟩⟩
    show w.cell? _ = _
    rw [Nat.zero_add, Nat.mul_one, cell_of_row w g j cur _ _ hg]
    have h1 : (cur.toList.take (xs.length * 1))[j]? = some (Value.int .i64 (xs.getD j 0)) := by
      rw [ht]
      simp [List.getElem?_eq_getElem hj]
    rw [List.getElem?_take, if_pos (by omega)] at h1
    simpa using h1

section
variable {P : Program} {ops : Array Oper} {rest : List Oper} {o : Oper} {a : Act} {w : World} {Q : Exit → Act → World → Prop}
/-- A new block, its pointer in temporary d. -/
theorem wpList_new (d : Tmp) (hd : o.dst = some d) (hgd : o.guard = none) (t : TypeId) (ho : o.op = .alloc t) (Z : Array Value) (hz : ∀ W, (zeroValue t).run P W = .ok (.agg Z) W) (hK : ∀ (g : Nat) (w' : World), Hid (g = w.heap.size ∧ w'.heap[g]? = some (Obj.cells Z t (0, 0)) ∧ Below g w w') → wpList P ops Q rest (a.put (some d) (.pointer (some ⟨g, 0, none⟩))) w') : wpList P ops Q (o :: rest) a w := by
  refine wpList_alloc' hgd t ho Z hz ?_
  rw [hd]
  exact hK
end
theorem cells_at {w w' : World} {g : Nat} {cs : Array Value} {t : TypeId} {r : Option Nat} (h : w.heap[g]? = some (.cells cs t (0, 0))) (hg : w.grownBy w' r) (hne : some g ≠ r) : w'.heap[g]? = some (.cells cs t (0, 0)) :=
  (hg.block g (Array.getElem?_eq_some_iff.1 h).1 hne).trans h
/-- The numbers that a list lays. -/
def ofL (xs : List Int) : Nat → Bool := xs.foldl ins (fun _ => false)
theorem ofL_take (xs : List Int) (i : Nat) (hi : i < xs.length) : ofL (xs.take (i + 1)) = ins (ofL (xs.take i)) (xs.getD i 0) := by
  unfold ofL
  rw [List.take_add_one, List.getElem?_eq_getElem hi, Option.toList_some, List.foldl_append]
  simp [hi]
set_option maxHeartbeats 4000000 in
set_option maxRecDepth 100000 in
theorem of_any (v : Value) (xs : List Int) (w : World) (h : IntsV w v xs) (hl : xs.length ≤ 1000000000) : Calls Try.prog 17 #[v] w fun e w' => ∃ u, e = .returned u ∧ SetV u (ofL xs) ∧ w.grownBy w' none := by
  obtain ⟨ao, cap, rfl⟩ := h.slice
  have HU := hide h
  clear h
  go_enter Try.func17, Try.ntmps17
  go_wp2_with (first | (refine wpList_new 2 rfl rfl 40 rfl z64 z27 ?_; intro g w1 h1) | (refine wpList_new 3 rfl rfl 40 rfl z64 z27 ?_; intro s w2 h2))
  have G1 := hide ((gb_at h1.out).trans (gb_at h2.out))
  have HS0 : Hid (SetAt w2 s (ofL (xs.take 0))) := hide ⟨z64, 40, h2.out.2.1, z64_set⟩
  have hgs : g < s := by
    have := h2.out.1
    have := (Array.getElem?_eq_some_iff.1 h1.out.2.1).1
    omega
  have HS1 := hide hgs
  have HN := hide (show w.heap.size ≤ s by have := h1.out.1; omega)
  clear hgs
  go_loopw [5, 8] (fun _ iv wr => ∃ i : Nat, i ≤ xs.length ∧ iv = .int .i64 i ∧ Hid (SetAt wr s (ofL (xs.take i))) ∧ Hid (w2.grownBy wr (some s))) (fun _ iv _ => xs.length - (intOf iv).toNat)
  case atStart => exact ⟨0, by omega, rfl, HS0, hide (gb_refl _ _)⟩
  case round =>
    rename World => wq
    obtain ⟨i, hi, rfl, HS, HG⟩ := hrel
    by_cases hlt : i < xs.length
    · have hB := bel_gb (bel_of (gb_to G1.out) (Below.refl _ _)) HG.out G1.out.size (fun k e => by cases e; exact HN.out)
      obtain ⟨b, off, rfl, hc⟩ := (HU.out.below hB).at i hlt
      have hst := hide (ofL_take xs i hlt)
      have hlt' : (i : Int) < (xs.length : Int) := by omega
      generalize xs.getD i 0 = x at *
      clear hB
      go_wp2_with (go_at_call 45; refine (put_any s x _ _ HS.out).mono ?_; rintro e w3 ⟨rfl, hs3, hg3⟩)
      have HS3 := hide hs3
      have HG3 := hide hg3
      clear hs3 hg3
      go_roundw
      case rel => exact ⟨i + 1, by omega, by go_num, hide (by rw [hst.out]; exact HS3.out), hide (HG.out.trans HG3.out)⟩
      case measure => simp [intOf]; omega
    · obtain rfl : i = xs.length := by omega
      rw [List.take_length] at HS
      obtain ⟨cs, t, e1, e2⟩ := HS.out
      have E1 := hide e1
      clear e1
      have hgq := hide (cells_at (cells_at h1.out.2.1 (gb_at h2.out) (by simp)) HG.out (by have := HS1.out; simp; omega))
      go_wp2_with (first | (refine wpList_load_row rfl 40 (.tmp 3) rfl s rfl t cs _ E1.out Try.underlying40 rfl (by rw [e2.1]; exact info27) ?_) | (refine wpList_store_whole rfl 40 (.tmp 2) (.tmp 15) rfl g 40 z64 cs rfl rfl hgq.out (by rw [e2.1]; exact info27) (by rw [e2.1]; rfl) e2.cells ?_; intro w3 h3 h4 h5))
      refine bodyPost_ret (v := .agg cs) (results_cell_row Try.results17 _ w3 g 40 cs (0, 0) _ rfl h3.out Try.underlying40 rfl (by rw [e2.1]; exact info27)) rfl ?_
      exact ⟨_, rfl, ⟨cs, rfl, e2⟩, (G1.out.andThen HG.out (fun j e => by cases e; exact .inl HN.out)).andThen h4.out (fun j e => by cases e; exact .inl (by rw [h1.out.1]; exact Nat.le_refl _))⟩
end Go.Proofs.Ytblcbccchlljhaa.Bg
