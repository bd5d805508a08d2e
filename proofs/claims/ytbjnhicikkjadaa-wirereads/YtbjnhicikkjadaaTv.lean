/- Turned: bytes with bits turned, or left out: bytes again. -/
import Derived.Deep.AppendSrc
import Derived.BigRegion
import Derived.Test.YtbjnhicikkjadaaAny
import Derived.Test.YtbjnhicikkjadaaPw
import Derived.Test.YtbjnhicikkjadaaRp
import Derived.Deep.Cut
import Derived.OpenShut
import Derived.Deep.RegionHeld3
namespace Go.Proofs.Ytbjnhicikkjadaa
open Go.RowKit Ir

/-- Bytes of the call's own; what lies behind them in the row, or how long it is, is not said. -/
def Tw (B : Nat) (w : World) (v : Value) (xs : List Int) : Prop := (∀ x ∈ xs, 0 ≤ x ∧ x < 256) ∧ ((v = .slice none 0 0 ∧ xs = []) ∨ ∃ (g cap : Nat) (cur : Array Value), v = .slice (some ⟨g, 0, none⟩) xs.length cap ∧ B ≤ g ∧ w.heap[g]? = some (Obj.cells cur 5 (0, 0)) ∧ xs.length ≤ cap ∧ cap ≤ maxLen ∧ ∀ j, j < xs.length → cur[j]? = some (.int .u8 (xs.getD j 0)))
section
variable {B : Nat} {w w' : World} {v : Value} {xs : List Int}
theorem Tw.of_owns (h0 : ∀ x ∈ xs, 0 ≤ x ∧ x < 256) (h : w.ownsRow B 5 1 v xs.length (xs.map (Value.int .u8))) : Tw B w v xs := by
  refine ⟨h0, ?_⟩
  rcases h.2 with ⟨rfl, h1⟩ | ⟨g, cap, cur, rfl, hb, hg, h1, h2, h3, h4⟩
  · exact .inl ⟨rfl, List.eq_nil_of_length_eq_zero h1⟩
  · refine .inr ⟨g, cap, cur, rfl, hb, hg, h1, h2, fun j hj => ?_⟩
    have h5 := congrArg (fun l => l[j]?) h4
    simp [hj] at h5
    rw [h5]
    simp [hj]
theorem Tw.byt (h : Tw B w v xs) : Lb.Byt w v xs := by
  obtain ⟨h0, ⟨rfl, rfl⟩ | ⟨g, cap, cur, rfl, hb, hg, h1, h2, h3⟩⟩ := h
  · exact Lb.Byt.nil w
  · refine ⟨g, h0, some ⟨g, 0, none⟩, cap, rfl, h1, h2, (fun h => by cases h), fun _ => ⟨0, rfl, fun j hj => ?_⟩⟩
    rw [cell_of_row _ _ _ _ _ _ hg, Nat.zero_add]
    exact h3 j hj
theorem Tw.below (h : Tw B w v xs) (hB : Below w.heap.size w w') : Tw B w' v xs := by
  obtain ⟨h0, ⟨rfl, rfl⟩ | ⟨g, cap, cur, rfl, hb, hg, h1⟩⟩ := h
  · exact ⟨h0, .inl ⟨rfl, rfl⟩⟩
  · exact ⟨h0, .inr ⟨g, cap, cur, rfl, hb, (hB.block g (Array.getElem?_eq_some_iff.1 hg).1).trans hg, h1⟩⟩
theorem Tw.set {g cap k : Nat} {cur : Array Value} {x : Int} (h0 : ∀ x ∈ xs, 0 ≤ x ∧ x < 256) (hb : B ≤ g) (hg : w.heap[g]? = some (Obj.cells cur 5 (0, 0))) (h1 : xs.length ≤ cap) (h2 : cap ≤ maxLen) (h3 : ∀ j, j < xs.length → cur[j]? = some (.int .u8 (xs.getD j 0))) (hk : k < xs.length) (hx : 0 ≤ x ∧ x < 256) :
    Tw B (w.setCell ⟨g, k, none⟩ (.int .u8 x)) (.slice (some ⟨g, 0, none⟩) xs.length cap) (xs.set k x) := by
  have hks : k < cur.size := (Array.getElem?_eq_some_iff.1 (h3 k hk)).1
  refine ⟨fun y hy => ?_, .inr ⟨g, cap, cur.setIfInBounds k (.int .u8 x), by simp, hb, heap_setCell_same w g k _ _ _ hg, by simpa using h1, h2, fun j hj => ?_⟩⟩
  · rcases List.mem_or_eq_of_mem_set hy with h | h
    · exact h0 y h
    · subst h; exact hx
  · rw [List.length_set] at hj
    by_cases e : j = k
    · subst e
      simp [hks, hj]
    · rw [Array.getElem?_setIfInBounds_ne (fun h => e h.symm), h3 j hj]
      simp [List.getD_eq_getElem?_getD, List.getElem?_set_ne (fun h => e h.symm)]
/-- 'append(out[:k:k], out[k+1:]...)'. -/
theorem run_cutout {g k m c : Nat} {ad : Addr} {cur : Array Value} {ty : TypeId} (had : 0 < m → ad = ⟨g, k + 1, none⟩) (h0 : ∀ x ∈ xs, 0 ≤ x ∧ x < 256) (hg : w.heap[g]? = some (Obj.cells cur 5 (0, 0))) (hl : xs.length ≤ 1000000000) (h3 : ∀ j, j < xs.length → cur[j]? = some (.int .u8 (xs.getD j 0))) (hk : k + 1 + m = xs.length) (hb : B ≤ g) (hB : B ≤ w.heap.size) :
    ∃ v' w', (Builtin.append_ #[25, 25] ty #[.slice (some ⟨g, 0, none⟩) k k, .slice (some ad) m c]).run Try.prog w = .ok v' w' ∧ Tw B w' v' (xs.take k ++ xs.drop (k + 1)) ∧ Below w.heap.size w w' := by
  obtain ⟨i0, hi, hz0, hz1, hz2⟩ := info_parts Lb.info5
  have hbts : ∀ x ∈ xs.take k ++ xs.drop (k + 1), 0 ≤ x ∧ x < 256 := fun x hx => by
    rcases List.mem_append.1 hx with h | h
    · exact h0 x (List.mem_of_mem_take h)
    · exact h0 x (List.mem_of_mem_drop h)
  have hcell : ∀ j, j < xs.length → w.cell? ⟨g, j, none⟩ = some (.int .u8 (xs.getD j 0)) := fun j hj => by rw [cell_of_row _ _ _ _ _ _ hg]; exact h3 j hj
  by_cases hm : m = 0
  · subst hm
    have hs : Src Try.prog i0.size 25 (.slice (some ad) 0 c) 0 [] w := Src.ofSlice w Try.underlying25 _ 0 c [] (by simp) (fun j u h => by simp at h) (fun u h => by simp at h)
    have hr := run_append_room_src (P := Try.prog) w 25 25 ty 5 i0 Try.underlying25 hi g 0 k k _ 0 [] hs (by omega) (fun j h => by simp at h) (fun j h => by simp at h)
    refine ⟨_, _, hr, ?_, ?_⟩
    · have e : xs.drop (k + 1) = [] := List.drop_eq_nil_of_le (by omega)
      rw [e, List.append_nil] at hbts ⊢
      have hl2 : (xs.take k).length = k := by simp; omega
      refine ⟨hbts, .inr ⟨g, k, cur, by rw [hl2]; rfl, hb, hg, by rw [hl2]; omega, by simp [maxLen]; omega, fun j hj => ?_⟩⟩
      rw [hl2] at hj
      rw [h3 j (by omega)]
      simp [List.getD_eq_getElem?_getD, hj]
    · exact Below.refl _ _
  · obtain rfl := had (by omega)
    have hml : k + m ≤ maxLen := by simp [maxLen]; omega
    have hlo : ((xs.take k).map (Value.int .u8)).length = k * i0.size := by rw [hz1]; simp; omega
    have hln : ((xs.drop (k + 1)).map (Value.int .u8)).length = m * i0.size := by rw [hz1]; simp; omega
    have hr := run_append_grow (P := Try.prog) w 25 ty 5 i0 (.int .u8 0) Try.underlying25 hi hz0 ⟨g, 0, none⟩ k k ((xs.take k).map (Value.int .u8)) hlo (fun j u h => by
        have hj : j < k := by
          have := (List.getElem?_eq_some_iff.1 h).1
          simp at this; omega
        rw [Addr.add_lit, Nat.zero_add, hcell j (by omega)]
        simp [hj, List.getElem?_eq_getElem (show j < xs.length by omega)] at h
        rw [← h]
        simp [List.getElem?_eq_getElem (show j < xs.length by omega)]) ⟨g, k + 1, none⟩ m c ((xs.drop (k + 1)).map (Value.int .u8)) hln (fun j u h => by
        have hj : j < m := by
          have := (List.getElem?_eq_some_iff.1 h).1
          simp at this; omega
        rw [Addr.add_lit, hcell (k + 1 + j) (by omega)]
        simp [List.getElem?_drop, List.getElem?_eq_getElem (show k + 1 + j < xs.length by omega)] at h
        rw [← h]
        simp [List.getElem?_eq_getElem (show k + 1 + j < xs.length by omega)]) (by omega) (by omega) (growslice_fits (by omega) (by rw [hz2]; omega))
    refine ⟨_, _, hr, ?_, ?_⟩
    · have hge := grownCap_ge w (k + m) k 5
      have hcm := grownCap_le_maxLen w (k + m) k 5 hml
      have hl2 : (xs.take k ++ xs.drop (k + 1)).length = k + m := by simp; omega
      refine ⟨hbts, .inr ⟨w.heap.size, _, _, by rw [hl2], hB, heap_alloc_new w.drew _, by rw [hl2]; exact hge, hcm, fun j hj => ?_⟩⟩
      have hj2 : j < ((xs.take k).map (Value.int .u8) ++ (xs.drop (k + 1)).map (Value.int .u8)).length := by rw [← List.map_append, List.length_map]; exact hj
      rw [Array.getElem?_append_left (by simpa using hj2)]
      simp only [List.append_toArray, ← List.map_append, List.getElem?_toArray, List.getElem?_map]
      simp [List.getD_eq_getElem?_getD, List.getElem?_eq_getElem hj]
    · exact ((Below.refl _ _).drew).alloc (Nat.le_refl _) _
theorem tail_run {g n cap k : Nat} (hk : k < n) (hn : n ≤ cap) : ∃ (ad : Addr) (m c : Nat), (0 < m → ad = ⟨g, k + 1, none⟩) ∧ k + 1 + m = n ∧ ∀ W, (Instr.sliceAt 25 (.slice (some ⟨g, 0, none⟩) n cap) (some (.int .i64 ((k + 1 : Nat) : Int))) none none).run Try.prog W = .ok (.slice (some ad) m c) W := by
  refine ⟨if cap = k + 1 then ⟨g, 0, none⟩ else ⟨g, k + 1, none⟩, n - (k + 1), cap - (k + 1), fun h => by rw [if_neg (by omega)], by omega, fun W => ?_⟩
  have h0 : (0 : Int) ≤ ((k + 1 : Nat) : Int) := by omega
  have h1 : ((k + 1 : Nat) : Int) ≤ (n : Int) := by omega
  generalize k + 1 = K at *
  go_simp
  by_cases e : cap = K
  · simp [e]
  · simp [e]
theorem step_cutout {o : Oper} {a : Act} {K : Act → World → Prop} {Q : Exit → Act → World → Prop} {E : Prop} {ops : Array Oper} (hgd : o.guard = none) (s x : Operand) (ho : o.op = .call { callee := .builtin .append, args := #[s, x], argTypes := #[25, 25] })
    {g k m c : Nat} {ad : Addr} {cur : Array Value} (hs : a.eval s = .slice (some ⟨g, 0, none⟩) k k) (hx : a.eval x = .slice (some ad) m c) (had : 0 < m → ad = ⟨g, k + 1, none⟩) (h0 : ∀ x ∈ xs, 0 ≤ x ∧ x < 256) (hg : w.heap[g]? = some (Obj.cells cur 5 (0, 0))) (hl : xs.length ≤ 1000000000) (h3 : ∀ j, j < xs.length → cur[j]? = some (.int .u8 (xs.getD j 0))) (hk : k + 1 + m = xs.length) (hb : B ≤ g) (hB : B ≤ w.heap.size)
    (h : ∀ v' w', Tw B w' v' (xs.take k ++ xs.drop (k + 1)) → Below w.heap.size w w' → K (a.put o.dst v') w') : if Region.wanted o (yielded ops a.tmps) = true then Oper.wp Try.prog o a w K Q else E := by
  have hw : Region.wanted o (yielded ops a.tmps) = true := by simp [Region.wanted, hgd]
  rw [if_pos hw]
  obtain ⟨v', w', hr, h1, h2⟩ := run_cutout (ty := o.type) (c := c) had h0 hg hl h3 hk hb hB
  refine wp_value ?_ (h v' w' h1 h2)
  unfold execOp
  simp only [ho, resolve, invoke, builtin, Sem.run_bind, Sem.run_pure, Result.andThen_ok, List.map_toArray, List.map_cons, List.map_nil, hs, hx, hr]
end
end Go.Proofs.Ytbjnhicikkjadaa
namespace Go.Proofs.Ytbjnhicikkjadaa
open Go.RowKit Ir

theorem cut_kT (cut : Int) (n : Nat) (h : 0 < n) (hn : n ≤ 1000000000) : ∃ k : Nat, k < n ∧ IntKind.u64.wrap (n : Int) = (n : Int) ∧ wrap64 ((IntKind.u64.wrap cut).tmod (n : Int)) = (k : Int) := by
  have h1 : 0 ≤ IntKind.u64.wrap cut := by rw [IntKind.wrap_u64]; omega
  have h2 := Int.emod_nonneg (IntKind.u64.wrap cut) (b := (n : Int)) (by omega)
  have h3 := Int.emod_lt_of_pos (IntKind.u64.wrap cut) (b := (n : Int)) (by omega)
  refine ⟨((IntKind.u64.wrap cut) % (n : Int)).toNat, by omega, by rw [IntKind.wrap_u64]; omega, ?_⟩
  rw [Int.tmod_eq_emod_of_nonneg h1]
  generalize (IntKind.u64.wrap cut) % (n : Int) = y at *
  unfold wrap64
  omega
theorem byt_cell {w : World} {a : Option Addr} {n c : Nat} {xs : List Int} (h : Lb.Byt w (.slice a n c) xs) : n = xs.length ∧ ∀ j, j < xs.length → ∃ b off, a = some ⟨b, off, none⟩ ∧ w.cell? ⟨b, off + j, none⟩ = some (.int .u8 (xs.getD j 0)) ∧ 0 ≤ xs.getD j 0 ∧ xs.getD j 0 < 256 := by
  obtain ⟨b, h0, ao, c', e, h2, h3, h4, h5⟩ := h
  simp only [Value.slice.injEq] at e
  obtain ⟨rfl, rfl, rfl⟩ := e
  refine ⟨rfl, fun j hj => ?_⟩
  obtain ⟨off, e, hc⟩ := h5 (by omega)
  have h6 := h0 xs[j] (List.getElem_mem hj)
  exact ⟨b, off, e, hc j hj, by simpa [List.getD_eq_getElem?_getD, List.getElem?_eq_getElem hj] using h6⟩
set_option maxHeartbeats 4000000 in
set_option maxRecDepth 100000 in
theorem turned_any (v av bv : Value) (xs ns bs : List Int) (w : World) (hv : Lb.Byt w v xs) (ha : IntsV w av ns) (hb : Lb.Byt w bv bs) (hx : xs.length ≤ 1000000000) :
    Calls Try.prog 20 #[v, av, bv] w fun e w' => ∃ u zs, e = .returned u ∧ Lb.Byt w' u zs ∧ zs.length ≤ xs.length ∧ Below w.heap.size w w' := by
  have hb0 : Hid (∀ x ∈ xs, 0 ≤ x ∧ x < 256) := by obtain ⟨_, h, _⟩ := hv; exact h
  obtain ⟨ao, xn, xc, rfl⟩ := bysnd _ _ _ hv
  obtain ⟨aa, ac, rfl⟩ := ha.slice
  obtain ⟨ba, bn, bc, rfl⟩ := bysnd _ _ _ hb
  have HA := hide ha
  have HB := hide hb
  have Hbn := hide (byt_cell hb).1
  obtain ⟨i0, hi, hz0, hz1, hz2⟩ := info_parts Lb.info5
  have hE := Lb.owns_empty w w.heap.size (Nat.le_refl _)
  have hBE := (Below.refl w.heap.size w).alloc (Nat.le_refl _) (.cells #[] 5)
  clear ha hb
  go_enter Try.func20, Try.ntmps20
  go_wp2_with (at_builtin; go_must (refine Lb.wpList_append_byt _ rfl (.tmp 10) (.tmp 11) 25 rfl w.heap.size i0 Try.underlying25 hi hz0 hz1 hz2 _ _ _ rfl hE _ xs rfl (hv.below hBE) (by omega) (by simp) ?_))
  intro v2 w2 hown hg2
  have hT : Hid (Tw w.heap.size w2 v2 xs) := Tw.of_owns hb0.out (owns_cast hown (by simp) (by simp))
  have HB2 : Hid (Below w.heap.size w w2) := hBE.grown hg2 (by simp) (fun k hk => (hE.lt k hk).1)
  clear hown hg2 hE hBE hi hz0 hz1 hz2 hv
  go_wp2_with fail
  go_loopw [7, 8, 9] (fun ov iv _ wr => ∃ (i : Nat) (zs : List Int), i ≤ 4 ∧ iv = .int .i64 i ∧ Tw w.heap.size wr ov zs ∧ zs.length ≤ xs.length ∧ Below w.heap.size w wr) (fun _ iv _ _ => 4 - (intOf iv).toNat)
  case atStart => exact ⟨0, xs, by omega, rfl, hT.out, Nat.le_refl _, HB2.out⟩
  case round =>
    rename World => ws
    obtain ⟨i, zs, hi4, rfl, hTw, hzl, hBw⟩ := hrel
    obtain ⟨za, zn, zc, hz⟩ := bysnd _ _ _ hTw.byt
    subst hz
    have Hzn := hide (byt_cell hTw.byt).1
    have HT := hide hTw
    have HBW := hide hBw
    clear hTw hBw
    by_cases h1 : i < ns.length
    · by_cases h2 : i < bn
      · by_cases h3 : i < 4
        · by_cases h4 : 0 < zn
          · have g1 : (i : Int) < (ns.length : Int) := by omega
            have g2 : (i : Int) < (bn : Int) := by omega
            have g3 : (i : Int) < 4 := by omega
            have g4 : (0 : Int) < (zn : Int) := by omega
            have g5 : (0 : Int) ≤ (i : Int) := by omega
            obtain ⟨ab, aoff, rfl, hac⟩ := (HA.out.below HBW.out).at i h1
            obtain ⟨bb, boff, rfl, hbc, hy0, hy1⟩ := (byt_cell (HB.out.below HBW.out)).2 i (by have := Hbn.out; omega)
            obtain ⟨k, hk, e1, e2⟩ := cut_kT (ns.getD i 0) zn h4 (by have := Hzn.out; omega)
            have e3 : ((zn : Int) == 0) = false := by simp; omega
            have e6 : ¬ zn = 0 := by omega
            have e7 : ¬ (zn : Int) = 0 := by omega
            have e8 : (zn == 0) = false := by simp; omega
            generalize bs.getD i 0 = Y at *
            generalize ns.getD i 0 = A at *
            have tY : Y.tmod 9 = Y % 9 := Int.tmod_eq_emod_of_nonneg hy0
            by_cases hy : Y % 9 = 8
            · obtain ⟨hz0, ⟨hzv, hznil⟩ | ⟨g, cap, cur, hzv, hBg, hg, hzc, hcm, h3⟩⟩ := HT.out
              · have := Hzn.out
                rw [hznil] at this
                simp at this
                omega
              simp only [Value.slice.injEq] at hzv
              obtain ⟨rfl, hzn', rfl⟩ := hzv
              have Hg := hide (And.intro hz0 (And.intro hBg (And.intro hg h3)))
              have Hk := hide (And.intro hk (And.intro hzn' e2))
              clear hzn' hz0 hBg hg h3 hi4
              go_upto_region 7 with fail
              rw [e2]
              have f1 : (0 : Int) ≤ (k : Int) := by omega
              have f2 : (k : Int) ≤ (zc : Int) := by have := Hk.out.2.1; omega
              have f3 : IntKind.i64.wrap ((k : Int) + 1) = ((k + 1 : Nat) : Int) := by rw [IntKind.wrap_i64]; have := Hzn.out; omega
              obtain ⟨ad, tm, tc, had, htm, hrun⟩ := tail_run (g := g) (cap := zc) hk (by have := Hk.out.2.1; omega)
              generalize ((k + 1 : Nat) : Int) = K1 at f3 hrun
              have Had := hide (And.intro had htm)
              have f4 : wrap64 ((k : Int) + 1) = K1 := by rw [← f3]; exact (IntWalk.i64_left _).symm
              clear had htm
              clear hk e1 e2 e3 e6 e7 e8 hzc hcm tY hy hy0 hy1
              go_region_held3 (fun _ => True) (trivial)
                (first
                  | (refine step_cutout rfl (.tmp 53) (.tmp 57) rfl rfl rfl Had.out.1 Hg.out.1 Hg.out.2.2.1 (by have := Hk.out.2.1; omega) Hg.out.2.2.2 (by have := Hk.out.2.1; have := Had.out.2; omega) Hg.out.2.1 (HBW.out.size) ?_; intro v7 w7 hT7 hB7))
              have HB7 := hide (HBW.out.drew.trans (hB7.mono HBW.out.size))
              have HT7 := hide hT7
              clear hT7 hB7
              go_wp2_with fail
              go_roundw
              case rel => exact ⟨i + 1, _, by omega, by first | go_num | (simp; omega), HT7.out, by have := Hk.out.2.1; have := Had.out.2; simp; omega, HB7.out⟩
              case measure => simp [intOf]; omega
            · obtain ⟨hz0, ⟨hzv, hznil⟩ | ⟨g, cap, cur, hzv, hBg, hg, hzc, hcm, h3⟩⟩ := HT.out
              · have := Hzn.out
                rw [hznil] at this
                simp at this
                omega
              simp only [Value.slice.injEq] at hzv
              obtain ⟨rfl, hzn', rfl⟩ := hzv
              have c0 : ws.cell? ⟨g, k, none⟩ = some (.int .u8 (zs.getD k 0)) := by rw [cell_of_row _ _ _ _ _ _ hg]; exact h3 k (by omega)
              have d0 : ws.frozen? ⟨g, k, none⟩ = false := frozen_of_row _ _ _ _ _ hg
              have Hset := hide (fun x (hx : 0 ≤ x ∧ x < 256) => Tw.set (x := x) (k := k) hz0 hBg hg hzc hcm h3 (by omega) hx)
              have Hset2 := hide (fun x => (HBW.out.setCell (p := ⟨g, k, none⟩) hBg x))
              have Hk := hide (And.intro hk (And.intro hzn' e2))
              have b1 : (0 : Int) ≤ (k : Int) := by omega
              have b2 : (k : Int) < (zn : Int) := by omega
              have b3 : 0 ≤ Y % 9 ∧ Y % 9 < 9 := by omega
              clear hzn' hz0 hBg hg h3 hzc hcm
              generalize zs.getD k 0 = Z at *
              go_upto_region 8 with fail
              rw [e2]
              clear e1 e2 e3 e6 e7 e8 hk
              go_region
              have hX : 0 ≤ bits BinOp.xor IntKind.u8 Z (2 ^ (Y % 9).toNat % 256) ∧ bits BinOp.xor IntKind.u8 Z (2 ^ (Y % 9).toNat % 256) < 256 := by
                have h := wf_bits .xor .u8 Z (2 ^ (Y % 9).toNat % 256)
                generalize bits BinOp.xor IntKind.u8 Z (2 ^ (Y % 9).toNat % 256) = q at *
                simp [Lit.wf, IntKind.min, IntKind.max, IntKind.signed, IntKind.bits] at h
                omega
              generalize bits BinOp.xor IntKind.u8 Z (2 ^ (Y % 9).toNat % 256) = q at *
              have HT8 := hide ((Hset.out q hX).below (Below.refl _ _).drew)
              have HB8 := hide (Hset2.out (.int .u8 q)).drew
              clear hX
              have Hv : Hid (zs.length = zn) := hide Hk.out.2.1.symm
              rw [Hv.out] at HT8
              go_wp2_with fail
              go_roundw
              case rel => exact ⟨i + 1, _, by omega, by first | go_num | (simp; omega), HT8.out, by simp; omega, HB8.out⟩
              case measure => simp [intOf]; omega
          · obtain rfl : zn = 0 := by omega
            have g1 : (i : Int) < (ns.length : Int) := by omega
            have g2 : (i : Int) < (bn : Int) := by omega
            have g3 : (i : Int) < 4 := by omega
            go_wp2_with fail
            go_ret
            first | exact ⟨_, zs, rfl, HT.out.byt, hzl, HBW.out⟩ | exact ⟨zs, rfl, HT.out.byt, hzl, HBW.out⟩ | exact ⟨_, rfl, zs, HT.out.byt, hzl, HBW.out⟩
        · have g1 : (i : Int) < (ns.length : Int) := by omega
          have g2 : (i : Int) < (bn : Int) := by omega
          have g3 : ¬ (i : Int) < 4 := by omega
          go_wp2_with fail
          go_ret
          first | exact ⟨_, zs, rfl, HT.out.byt, hzl, HBW.out⟩ | exact ⟨zs, rfl, HT.out.byt, hzl, HBW.out⟩ | exact ⟨_, rfl, zs, HT.out.byt, hzl, HBW.out⟩
      · have g1 : (i : Int) < (ns.length : Int) := by omega
        have g2 : ¬ (i : Int) < (bn : Int) := by omega
        go_wp2_with fail
        go_ret
        first | exact ⟨_, zs, rfl, HT.out.byt, hzl, HBW.out⟩ | exact ⟨zs, rfl, HT.out.byt, hzl, HBW.out⟩ | exact ⟨_, rfl, zs, HT.out.byt, hzl, HBW.out⟩
    · have g1 : ¬ (i : Int) < (ns.length : Int) := by omega
      go_wp2_with fail
      go_ret
      first | exact ⟨_, zs, rfl, HT.out.byt, hzl, HBW.out⟩ | exact ⟨zs, rfl, HT.out.byt, hzl, HBW.out⟩ | exact ⟨_, rfl, zs, HT.out.byt, hzl, HBW.out⟩
end Go.Proofs.Ytbjnhicikkjadaa
