/- Turned: bytes with bits turned, or left out: bytes again. -/
import Derived.Deep.AppendSrc
import Derived.BigRegion
import Derived.Test.YtbjnhicikkjadaaAny
import Derived.Test.YtbjnhicikkjadaaPw
import Derived.Test.YtbjnhicikkjadaaRp
namespace Go.Proofs.Ytbjnhicikkjadaa
open Go.RowKit Ir

/-- Bytes of the call's own; what lies behind them in the row, or how long it is, is not said. -/
def Tw (B : Nat) (w : World) (v : Value) (xs : List Int) : Prop := (∀ x ∈ xs, 0 ≤ x ∧ x < 256) ∧ ((v = .slice none 0 0 ∧ xs = []) ∨ ∃ (g cap : Nat) (cur : Array Value), v = .slice (some ⟨g, 0, none⟩) xs.length cap ∧ B ≤ g ∧ w.heap[g]? = some (Obj.cells cur 5 (0, 0)) ∧ xs.length ≤ cap ∧ cap ≤ maxLen ∧ ∀ j, j < xs.length → cur[j]? = some (.int .u8 (xs.getD j 0)))
section
variable {B : Nat} {w w' : World} {v : Value} {xs : List Int}
theorem Tw.of_owns (h0 : ∀ x ∈ xs, 0 ≤ x ∧ x < 256) (h : w.ownsRow B 5 1 v xs.length (xs.map (Value.int .u8))) : Tw B w v xs := by
  refine ⟨h0, ?_⟩
  rcases h.2 with ⟨rfl, h1⟩ | ⟨g, cap, cur, rfl, hb, hg, h1, h2, h3, h4⟩
  · exact .inl ⟨rfl, List.eq_nil_of_length_eq_zero h1⟩
  · refine .inr ⟨g, cap, cur, rfl, hb, hg, h1, h2, fun j hj => ?_⟩
    have h5 := congrArg (fun l => l[j]?) h4
    simp [hj] at h5
    rw [h5]
    simp [hj]
theorem Tw.byt (h : Tw B w v xs) : Lb.Byt w v xs := by
  obtain ⟨h0, ⟨rfl, rfl⟩ | ⟨g, cap, cur, rfl, hb, hg, h1, h2, h3⟩⟩ := h
  · exact Lb.Byt.nil w
  · refine ⟨g, h0, some ⟨g, 0, none⟩, cap, rfl, h1, h2, (fun h => by cases h), fun _ => ⟨0, rfl, fun j hj => ?_⟩⟩
    rw [cell_of_row _ _ _ _ _ _ hg, Nat.zero_add]
    exact h3 j hj
theorem Tw.below (h : Tw B w v xs) (hB : Below w.heap.size w w') : Tw B w' v xs := by
  obtain ⟨h0, ⟨rfl, rfl⟩ | ⟨g, cap, cur, rfl, hb, hg, h1⟩⟩ := h
  · exact ⟨h0, .inl ⟨rfl, rfl⟩⟩
  · exact ⟨h0, .inr ⟨g, cap, cur, rfl, hb, (hB.block g (Array.getElem?_eq_some_iff.1 hg).1).trans hg, h1⟩⟩
theorem Tw.set {g cap k : Nat} {cur : Array Value} {x : Int} (h0 : ∀ x ∈ xs, 0 ≤ x ∧ x < 256) (hb : B ≤ g) (hg : w.heap[g]? = some (Obj.cells cur 5 (0, 0))) (h1 : xs.length ≤ cap) (h2 : cap ≤ maxLen) (h3 : ∀ j, j < xs.length → cur[j]? = some (.int .u8 (xs.getD j 0))) (hk : k < xs.length) (hx : 0 ≤ x ∧ x < 256) :
    Tw B (w.setCell ⟨g, k, none⟩ (.int .u8 x)) (.slice (some ⟨g, 0, none⟩) xs.length cap) (xs.set k x) := by
  have hks : k < cur.size := (Array.getElem?_eq_some_iff.1 (h3 k hk)).1
  refine ⟨fun y hy => ?_, .inr ⟨g, cap, cur.setIfInBounds k (.int .u8 x), by simp, hb, heap_setCell_same w g k _ _ _ hg, by simpa using h1, h2, fun j hj => ?_⟩⟩
  · rcases List.mem_or_eq_of_mem_set hy with h | h
    · exact h0 y h
    · subst h; exact hx
  · rw [List.length_set] at hj
    by_cases e : j = k
    · subst e
      simp [hks, hj]
    · rw [Array.getElem?_setIfInBounds_ne (fun h => e h.symm), h3 j hj]
      simp [List.getD_eq_getElem?_getD, List.getElem?_set_ne (fun h => e h.symm)]
/-- 'append(out[:k:k], out[k+1:]...)'. -/
theorem run_cutout {g k m c : Nat} {ad : Addr} {cur : Array Value} {ty : TypeId} (had : 0 < m → ad = ⟨g, k + 1, none⟩) (h0 : ∀ x ∈ xs, 0 ≤ x ∧ x < 256) (hg : w.heap[g]? = some (Obj.cells cur 5 (0, 0))) (hl : xs.length ≤ 1000000000) (h3 : ∀ j, j < xs.length → cur[j]? = some (.int .u8 (xs.getD j 0))) (hk : k + 1 + m = xs.length) (hb : B ≤ g) (hB : B ≤ w.heap.size) :
    ∃ v' w', (Builtin.append_ #[25, 25] ty #[.slice (some ⟨g, 0, none⟩) k k, .slice (some ad) m c]).run Try.prog w = .ok v' w' ∧ Tw B w' v' (xs.take k ++ xs.drop (k + 1)) ∧ Below w.heap.size w w' := by
  obtain ⟨i0, hi, hz0, hz1, hz2⟩ := info_parts Lb.info5
  have hbts : ∀ x ∈ xs.take k ++ xs.drop (k + 1), 0 ≤ x ∧ x < 256 := fun x hx => by
    rcases List.mem_append.1 hx with h | h
    · exact h0 x (List.mem_of_mem_take h)
    · exact h0 x (List.mem_of_mem_drop h)
  have hcell : ∀ j, j < xs.length → w.cell? ⟨g, j, none⟩ = some (.int .u8 (xs.getD j 0)) := fun j hj => by rw [cell_of_row _ _ _ _ _ _ hg]; exact h3 j hj
  by_cases hm : m = 0
  · subst hm
    have hs : Src Try.prog i0.size 25 (.slice (some ad) 0 c) 0 [] w := Src.ofSlice w Try.underlying25 _ 0 c [] (by simp) (fun j u h => by simp at h) (fun u h => by simp at h)
    have hr := run_append_room_src (P := Try.prog) w 25 25 ty 5 i0 Try.underlying25 hi g 0 k k _ 0 [] hs (by omega) (fun j h => by simp at h) (fun j h => by simp at h)
    refine ⟨_, _, hr, ?_, ?_⟩
    · have e : xs.drop (k + 1) = [] := List.drop_eq_nil_of_le (by omega)
      rw [e, List.append_nil] at hbts ⊢
      have hl2 : (xs.take k).length = k := by simp; omega
      refine ⟨hbts, .inr ⟨g, k, cur, by rw [hl2]; rfl, hb, hg, by rw [hl2]; omega, by simp [maxLen]; omega, fun j hj => ?_⟩⟩
      rw [hl2] at hj
      rw [h3 j (by omega)]
      simp [List.getD_eq_getElem?_getD, hj]
    · exact Below.refl _ _
  · obtain rfl := had (by omega)
    have hml : k + m ≤ maxLen := by simp [maxLen]; omega
    have hlo : ((xs.take k).map (Value.int .u8)).length = k * i0.size := by rw [hz1]; simp; omega
    have hln : ((xs.drop (k + 1)).map (Value.int .u8)).length = m * i0.size := by rw [hz1]; simp; omega
    have hr := run_append_grow (P := Try.prog) w 25 ty 5 i0 (.int .u8 0) Try.underlying25 hi hz0 ⟨g, 0, none⟩ k k ((xs.take k).map (Value.int .u8)) hlo (fun j u h => by
        have hj : j < k := by
          have := (List.getElem?_eq_some_iff.1 h).1
          simp at this; omega
        rw [Addr.add_lit, Nat.zero_add, hcell j (by omega)]
        simp [hj, List.getElem?_eq_getElem (show j < xs.length by omega)] at h
        rw [← h]
        simp [List.getElem?_eq_getElem (show j < xs.length by omega)]) ⟨g, k + 1, none⟩ m c ((xs.drop (k + 1)).map (Value.int .u8)) hln (fun j u h => by
        have hj : j < m := by
          have := (List.getElem?_eq_some_iff.1 h).1
          simp at this; omega
        rw [Addr.add_lit, hcell (k + 1 + j) (by omega)]
        simp [List.getElem?_drop, List.getElem?_eq_getElem (show k + 1 + j < xs.length by omega)] at h
        rw [← h]
        simp [List.getElem?_eq_getElem (show k + 1 + j < xs.length by omega)]) (by omega) (by omega) (growslice_fits (by omega) (by rw [hz2]; omega))
    refine ⟨_, _, hr, ?_, ?_⟩
    · have hge := grownCap_ge w (k + m) k 5
      have hcm := grownCap_le_maxLen w (k + m) k 5 hml
      have hl2 : (xs.take k ++ xs.drop (k + 1)).length = k + m := by simp; omega
      refine ⟨hbts, .inr ⟨w.heap.size, _, _, by rw [hl2], hB, heap_alloc_new w.drew _, by rw [hl2]; exact hge, hcm, fun j hj => ?_⟩⟩
      have hj2 : j < ((xs.take k).map (Value.int .u8) ++ (xs.drop (k + 1)).map (Value.int .u8)).length := by rw [← List.map_append, List.length_map]; exact hj
      rw [Array.getElem?_append_left (by simpa using hj2)]
      simp only [List.append_toArray, ← List.map_append, List.getElem?_toArray, List.getElem?_map]
      simp [List.getD_eq_getElem?_getD, List.getElem?_eq_getElem hj]
    · exact ((Below.refl _ _).drew).alloc (Nat.le_refl _) _
theorem tail_run {g n cap k : Nat} (hk : k < n) (hn : n ≤ cap) : ∃ (ad : Addr) (m c : Nat), (0 < m → ad = ⟨g, k + 1, none⟩) ∧ k + 1 + m = n ∧ ∀ W, (Instr.sliceAt 25 (.slice (some ⟨g, 0, none⟩) n cap) (some (.int .i64 ((k + 1 : Nat) : Int))) none none).run Try.prog W = .ok (.slice (some ad) m c) W := by
  refine ⟨if cap = k + 1 then ⟨g, 0, none⟩ else ⟨g, k + 1, none⟩, n - (k + 1), cap - (k + 1), fun h => by rw [if_neg (by omega)], by omega, fun W => ?_⟩
  have h0 : (0 : Int) ≤ ((k + 1 : Nat) : Int) := by omega
  have h1 : ((k + 1 : Nat) : Int) ≤ (n : Int) := by omega
  generalize k + 1 = K at *
  go_simp
  by_cases e : cap = K
  · simp [e]
  · simp [e]
theorem step_cutout {o : Oper} {a : Act} {K : Act → World → Prop} {Q : Exit → Act → World → Prop} {E : Prop} {ops : Array Oper} (hgd : o.guard = none) (s x : Operand) (ho : o.op = .call { callee := .builtin .append, args := #[s, x], argTypes := #[25, 25] })
    {g k m c : Nat} {ad : Addr} {cur : Array Value} (hs : a.eval s = .slice (some ⟨g, 0, none⟩) k k) (hx : a.eval x = .slice (some ad) m c) (had : 0 < m → ad = ⟨g, k + 1, none⟩) (h0 : ∀ x ∈ xs, 0 ≤ x ∧ x < 256) (hg : w.heap[g]? = some (Obj.cells cur 5 (0, 0))) (hl : xs.length ≤ 1000000000) (h3 : ∀ j, j < xs.length → cur[j]? = some (.int .u8 (xs.getD j 0))) (hk : k + 1 + m = xs.length) (hb : B ≤ g) (hB : B ≤ w.heap.size)
    (h : ∀ v' w', Tw B w' v' (xs.take k ++ xs.drop (k + 1)) → Below w.heap.size w w' → K (a.put o.dst v') w') : if Region.wanted o (yielded ops a.tmps) = true then Oper.wp Try.prog o a w K Q else E := by
  have hw : Region.wanted o (yielded ops a.tmps) = true := by simp [Region.wanted, hgd]
  rw [if_pos hw]
  obtain ⟨v', w', hr, h1, h2⟩ := run_cutout (ty := o.type) (c := c) had h0 hg hl h3 hk hb hB
  refine wp_value ?_ (h v' w' h1 h2)
  unfold execOp
  simp only [ho, resolve, invoke, builtin, Sem.run_bind, Sem.run_pure, Result.andThen_ok, List.map_toArray, List.map_cons, List.map_nil, hs, hx, hr]
end
end Go.Proofs.Ytbjnhicikkjadaa
