/- BagQueues: the walk. -/
import Derived.Test.YtdeebmpmfedjbaaDoorTn
import Derived.Test.YtdeebmpmfedjbaaDoorAw
namespace Go.Proofs.YtdeebmpmfedjbaaDoor
open Go Go.RowKit Bag
set_option linter.unusedVariables false
theorem zero71 (W : World) : (zeroValue 71).run Tryd.prog W = .ok (.agg #[.int .u8 0, .string ⟨#[]⟩, .int .i64 0]) W := by kernel_rfl
theorem size71 (a b c : Value) : (Tryd.prog.info? 71).map (·.size) = some (#[a, b, c] : Array Value).size := by kernel_rfl
theorem cells3 {w : World} {g : Nat} {a b c : Value} {t : TypeId} (h : w.heap[g]? = some (.cells #[a, b, c] t (0, 0))) : w.cell? ⟨g, 0, none⟩ = some a ∧ w.cell? ⟨g, 1, none⟩ = some b ∧ w.cell? ⟨g, 2, none⟩ = some c :=
  ⟨(cell_of_row w g 0 _ _ _ h).trans rfl, (cell_of_row w g 1 _ _ _ h).trans rfl, (cell_of_row w g 2 _ _ _ h).trans rfl⟩
theorem has9_take (l : List ByteArray) (k : ByteArray) (j : Nat) (hj : j < l.length) : has9 (l.take (j + 1)) k = (has9 (l.take j) k || (l.getD j ⟨#[]⟩).toList == k.toList) := by
  unfold has9
  rw [List.take_add_one, List.any_append]
  simp [hj]
theorem row_cap {w : World} {e : TypeId} {sz n cap : Nat} {ao : Option Addr} {xs : List Value} (h : RowW w e sz (.slice ao n cap) n xs) : n ≤ cap ∧ cap ≤ maxLen := by
  rcases h.2 with ⟨e, h0⟩ | ⟨g', off', cap', cur, e1, hg, hnc, hcm, _⟩
  · cases e
    exact ⟨Nat.le_refl _, by simp [maxLen]⟩
  · simp only [Value.slice.injEq] at e1
    omega
theorem qx_tail {B : Nat} {w : World} {gq g off cap n : Nat} {x : ByteArray} {t l : List ByteArray} (h : QX B w gq (.slice (some ⟨g, off, none⟩) (x :: t).length cap) l (x :: t) n) : QX B w gq (.slice (if cap = 1 then some ⟨g, off, none⟩ else some ⟨g, off + 1, none⟩) t.length (cap - 1)) l t n := by
  have hl := h.len.2
  have hr : RowW w 9 1 (.slice (some ⟨g, off, none⟩) (t.length + 1) cap) (t.length + 1) ((x :: t).map Value.string) := h.rowW
  refine h.same (by simpa using hr.tail) ?_ (by simp at hl; omega)
  by_cases e : cap = 1 <;> simp [e, Value.ownBlock]
theorem qx_app {B : Nat} {w w' : World} {gq n : Nat} {rv v' : Value} {s : ByteArray} {l r : List ByteArray} {o : Obj} (h : QX B w gq rv l r n) (hr : RowW w' 9 1 v' (r.length + 1) (r.map Value.string ++ [.string s])) (hg : (w.alloc o).grownBy w' rv.ownBlock) (hl : v'.ownBlock = rv.ownBlock ∨ v'.ownBlock = some (w.alloc o).heap.size) (hn : r.length + 1 ≤ n) : QX B w' gq v' l (r ++ [s]) n :=
  (h.grow (World.grownBy_alloc w o none)).turn (by simpa using hr) hg hl (by simpa using hn)
theorem qx_below {B : Nat} {w0 w w' : World} {gq n : Nat} {rv : Value} {l r : List ByteArray} {o : Obj} (h : QX B w gq rv l r n) (hB : Below B w0 w) (hg : (w.alloc o).grownBy w' rv.ownBlock) : Below B w0 w' := by
  obtain ⟨qv, mo, N, D, h⟩ := h
  exact bel_gb (hB.trans ((bel1' w o).mono h.hB)) hg (Nat.le_trans h.hB (World.grownBy_alloc w o none).size) (fun k e => (h.rB k e).1)
theorem qx_new {B gq : Nat} {w : World} {t : TypeId} (h : w.heap[gq]? = some (.cells #[.slice none 0 0, .map none] t (0, 0))) (hB : B ≤ w.heap.size) (hg : B ≤ gq) : QX B w gq (.slice none 0 0) [] [] 0 :=
  ⟨_, none, 0, _, que_new h, RowW.nil _ _ _, hB, hg, fun k e => by simp [Value.ownBlock] at e, fun k e => by simp [Value.ownBlock] at e, fun k e => by (cases e), fun x hx => by simp at hx, Nat.le_refl _, Nat.le_refl _, Nat.le_refl _⟩
set_option maxHeartbeats 16000000 in
set_option maxRecDepth 100000 in
theorem queues_any (v : Value) (xs : List TurnD) (w : World) (hT : Tab w) (hx : TurnsV w v xs) : Calls Tryd.prog 5 #[v] w fun e w' => e = .returned (.bool true) ∧ w.grownBy w' none := by
  obtain ⟨i0, hi0, hz0, hz1, hz2⟩ := info_parts info9
  obtain ⟨ao0, cap0, rfl⟩ := SlV.slice hx
  have HT := hide hT
  have HX := hide hx
  clear hT hx
  go_enter Tryd.func5, Tryd.ntmps5
  go_wp2_with (first | (go_at_call 9; refine (awake_any _ HT.out).mono ?_; rintro e w1 ⟨rfl, hg1⟩; have HG1 := hide hg1; clear hg1) | (refine wpList_newv 3 rfl rfl 69 rfl _ zero69 ?_; intro gq w2 h2))
  have HB2 := hide (show Below w.heap.size w w2 from (gb_to HG1.out).trans ((gb_to (gb_at h2.out)).mono HG1.out.size))
  have HQ2 : Hid (QX w.heap.size w2 gq (.slice none 0 0) [] [] 0) := hide (qx_new h2.out.2.1 HB2.out.size (by rw [h2.out.1]; exact HG1.out.size))
  clear h2 HG1
  go_loopw [4, 16] (fun rv iv wr => ∃ (i : Nat) (l : List ByteArray) (ao : Option Addr) (cap : Nat), i ≤ xs.length ∧ i ≤ 201 ∧ rv = .slice ao l.length cap ∧ iv = .int .i64 i ∧ Hid (QX w.heap.size wr gq (.slice ao l.length cap) l l i) ∧ Hid (Below w.heap.size w wr)) (fun _ iv _ => xs.length - (intOf iv).toNat)
  case atStart => exact ⟨0, [], none, 0, by omega, by omega, rfl, rfl, HQ2, HB2⟩
  case round =>
    rename World => wq
    obtain ⟨i, l, ao, cap, hiL, hi2, rfl, rfl, HQ, HB⟩ := hrel
    by_cases hlt : i < xs.length
    · obtain ⟨b0, off, rfl, hat⟩ := TurnsV.at (HX.out.below HB.out) i hlt
      obtain ⟨⟨ca, cb, cc⟩, hk, hwf⟩ := hat
      generalize xs.getD i turnZ = a at ca cb cc hk hwf
      obtain ⟨k, s, vv⟩ := a
      simp only at ca cb cc hk hwf
      have hlt' : (i : Int) < (xs.length : Int) := by omega
      have hB0 := hide HQ.out.hb
      by_cases h200 : i ≤ 200
      · by_cases h100 : s.size ≤ 100
        · by_cases hk3 : k % 3 < 2
          · have hk3' : (k : Int) % 3 < 2 := by omega
            have h100' : ¬ (100 : Int) < (s.size : Int) := by omega
            have h200' : ¬ (200 : Int) < (i : Int) := by omega
            have hl2 := HQ.out.len.1
            go_wp2_with (first | (refine wpList_newv 6 rfl rfl 71 rfl _ zero71 ?_; intro g6 w6 h6) | (refine wpList_store_whole rfl 71 (.tmp 6) (.tmp 20) rfl g6 71 _ _ rfl rfl h6.out.2.1 (size71 _ _ _) rfl (by simp [Value.oneCell']) ?_; intro w7 h7 hg7 hs7; obtain ⟨d0, d1, d2⟩ := cells3 h7.out; have G7 := hide ((gb_at h6.out).andThen hg7.out (fun j e => by cases e; exact .inl (by rw [h6.out.1]; exact Nat.le_refl _))); have HQ7 := hide (HQ.out.grow G7.out); have HB7 := hide (HB.out.trans ((gb_to G7.out).mono hB0.out)); have HQ0 := hide HQ.out; clear HQ HB))
            go_loop [7, 9, 35] (fun tv _ jv => ∃ j : Nat, j ≤ l.length ∧ jv = .int .i64 j ∧ tv = .bool (has9 (l.take j) s)) (fun _ _ jv => l.length - (intOf jv).toNat)
            case atStart => exact ⟨0, by omega, rfl, rfl⟩
            case round =>
              obtain ⟨j, hjl, rfl, rfl⟩ := hrel
              by_cases hj : j < l.length
              · obtain ⟨gr, offr, capr, er, hxr⟩ := HQ7.out.rowW.cell j hj
                simp only [Value.slice.injEq, true_and] at er
                obtain ⟨rfl, rfl⟩ := er
                obtain ⟨cr, fr⟩ := hxr 0 (by decide)
                simp [hj] at cr fr
                have hst := hide (has9_take l s j hj)
                have hj' : (j : Int) < (l.length : Int) := by omega
                rw [show l.getD j ⟨#[]⟩ = l[j] by simp [hj]] at hst
                clear hxr
                generalize l[j] = y at *
                cases hh : has9 (l.take j) s
                · go_wp2
                  go_round
                  case rel => exact ⟨j + 1, by omega, by go_num, by rw [hst.out, hh]; rfl⟩
                  case measure => simp [intOf]; omega
                · go_wp2
                  go_round
                  case rel => exact ⟨j + 1, by omega, by go_num, by rw [hst.out, hh]; rfl⟩
                  case measure => simp [intOf]; omega
              · obtain rfl : j = l.length := by omega
                rw [List.take_length]
                cases hh : has9 l s
                · go_wp2_with (first | (go_at_call 30; refine (qx_put HQ0.out G7.out h100 (by omega)).mono ?_; rintro e w8 ⟨rfl, hq8, hb8, hk8⟩; rw [hh] at hq8; rw [if_neg Bool.false_ne_true] at hq8; rw [hh]; obtain ⟨_, c8, _⟩ := cells3 ((hk8 g6 (by rw [h6.out.1]; exact Nat.le_refl _) (Array.getElem?_eq_some_iff.1 h7.out).1).trans h7.out); have HQ8 := hide hq8; have HB8 := hide (HB7.out.trans hb8); clear hq8 hb8 HQ7 HB7 HQ0) | (at_builtin; go_must (refine wpList_append_row _ rfl (.tmp 54) (.tmp 57) 46 rfl 9 i0 (.string ⟨#[]⟩) 1 16 Tryd.underlying46 hi0 hz0 hz1 hz2 rfl (by decide) (.slice ao l.length cap) l.length (l.map Value.string) rfl (HQ8.out.grow (World.grownBy_alloc w8 _ none)).rowW ⟨w8.heap.size, 0, none⟩ 1 1 [.string s] rfl (by decide) rfl ?c1 ?c2 ?c3 ?c4 ?_)))
                  case c1 =>
                    intro j u hj
                    match j, hj with
                    | 0, hj => simp at hj; subst hj; simp [Addr.add]
                  case c2 => intro u hu; simp at hu; subst hu; rfl
                  case c3 => unfold maxLen; omega
                  case c4 => omega
                  intro v' w9 hr9 hg9 hl9
                  obtain ⟨ao9, cap9, rfl⟩ := hr9.slice
                  have HQ9 := hide (qx_app HQ8.out hr9 hg9 (by simpa using hl9) (by omega))
                  have HB9 := hide (qx_below HQ8.out HB8.out hg9)
                  clear hr9 hg9 hl9 HQ8 HB8
                  go_wp2_with (first | (go_at_call 32; refine (qx_len HQ9.out).mono ?_; rintro e w32 ⟨rfl, rfl⟩))
                  go_roundw
                  case rel => exact ⟨i + 1, l ++ [s], ao9, cap9, by omega, by omega, by simp, by go_num, by simpa using HQ9, HB9⟩
                  case measure => simp [intOf]; omega
                · go_wp2_with (first | (go_at_call 30; refine (qx_put HQ0.out G7.out h100 (by omega)).mono ?_; rintro e w8 ⟨rfl, hq8, hb8, hk8⟩; rw [hh] at hq8; rw [if_pos rfl] at hq8; rw [hh]; have HQ8 := hide hq8; have HB8 := hide (HB7.out.trans hb8); clear hq8 hb8 HQ7 HB7 HQ0) | (go_at_call 32; refine (qx_len HQ8.out).mono ?_; rintro e w32 ⟨rfl, rfl⟩))
                  go_roundw
                  case rel => exact ⟨i + 1, l, ao, cap, by omega, by omega, rfl, by go_num, HQ8, HB8⟩
                  case measure => simp [intOf]; omega
          · have hk3' : ¬ (k : Int) % 3 < 2 := by omega
            have h100' : ¬ (100 : Int) < (s.size : Int) := by omega
            have h200' : ¬ (200 : Int) < (i : Int) := by omega
            cases l with
            | nil =>
              go_wp2_with (first | (refine wpList_newv 6 rfl rfl 71 rfl _ zero71 ?_; intro g6 w6 h6) | (refine wpList_store_whole rfl 71 (.tmp 6) (.tmp 20) rfl g6 71 _ _ rfl rfl h6.out.2.1 (size71 _ _ _) rfl (by simp [Value.oneCell']) ?_; intro w7 h7 hg7 hs7; obtain ⟨d0, d1, d2⟩ := cells3 h7.out; have G7 := hide ((gb_at h6.out).andThen hg7.out (fun j e => by cases e; exact .inl (by rw [h6.out.1]; exact Nat.le_refl _))); have HQ7 := hide (HQ.out.grow G7.out); have HB7 := hide (HB.out.trans ((gb_to G7.out).mono hB0.out)); have HQ0 := hide HQ.out; clear HQ HB) | (go_at_call 31; refine (qx_take HQ7.out).mono ?_; rintro e w8 ⟨rfl, hq8, hb8⟩; have HQ8 := hide hq8; have HB8 := hide (HB7.out.trans hb8); clear hq8 hb8 HQ7 HB7 HQ0) | (go_at_call 32; refine (qx_len HQ8.out).mono ?_; rintro e w32 ⟨rfl, rfl⟩))
              go_roundw
              case rel => exact ⟨i + 1, [], ao, cap, by omega, by omega, rfl, by go_num, hide (HQ8.out.more (by omega)), HB8⟩
              case measure => simp [intOf]; omega
            | cons x t =>
              obtain ⟨gr, offr, capr, er, _⟩ := HQ.out.rowW.cell 0 (by simp)
              simp only [Value.slice.injEq, true_and] at er
              obtain ⟨rfl, rfl⟩ := er
              have hcp := row_cap HQ.out.rowW
              simp only [List.length_cons] at hcp
              have hcap1 : 1 ≤ cap := by omega
              have hcap2 : cap ≤ 9223372036854775807 := by have := hcp.2; unfold maxLen at this; omega
              clear hcp
              go_wp2_with (first | (refine wpList_newv 6 rfl rfl 71 rfl _ zero71 ?_; intro g6 w6 h6) | (refine wpList_store_whole rfl 71 (.tmp 6) (.tmp 20) rfl g6 71 _ _ rfl rfl h6.out.2.1 (size71 _ _ _) rfl (by simp [Value.oneCell']) ?_; intro w7 h7 hg7 hs7; obtain ⟨d0, d1, d2⟩ := cells3 h7.out; have G7 := hide ((gb_at h6.out).andThen hg7.out (fun j e => by cases e; exact .inl (by rw [h6.out.1]; exact Nat.le_refl _))); have HQ7 := hide (HQ.out.grow G7.out); have HB7 := hide (HB.out.trans ((gb_to G7.out).mono hB0.out)); have HQ0 := hide HQ.out; clear HQ HB) | (go_at_call 31; refine (qx_take HQ7.out).mono ?_; rintro e w8 ⟨rfl, hq8, hb8⟩; obtain ⟨g', o', c', er, hxr⟩ := hq8.rowW.cell 0 (by simp); simp only [Value.slice.injEq, Option.some.injEq, Addr.mk.injEq, true_and, and_true] at er; obtain ⟨⟨rfl, rfl⟩, rfl⟩ := er; have cr := (hxr 0 (by decide)).1; simp at cr; have HQ8 := hide hq8; have HB8 := hide (HB7.out.trans hb8); clear hq8 hb8 HQ7 HB7 HQ0 hxr) | (go_at_call 32; refine (qx_len HQ8.out).mono ?_; rintro e w32 ⟨rfl, rfl⟩))
              go_roundw
              case rel => exact ⟨i + 1, t, _, _, by omega, by omega, rfl, by go_num, hide ((qx_tail HQ8.out).more (by omega)), HB8⟩
              case measure => simp [intOf]; omega
        · have h100' : (100 : Int) < (s.size : Int) := by omega
          have h200' : ¬ (200 : Int) < (i : Int) := by omega
          go_wp2_with (first | (refine wpList_newv 6 rfl rfl 71 rfl _ zero71 ?_; intro g6 w6 h6) | (refine wpList_store_whole rfl 71 (.tmp 6) (.tmp 20) rfl g6 71 _ _ rfl rfl h6.out.2.1 (size71 _ _ _) rfl (by simp [Value.oneCell']) ?_; intro w7 h7 hg7 hs7; obtain ⟨d0, d1, d2⟩ := cells3 h7.out; have G7 := hide ((gb_at h6.out).andThen hg7.out (fun j e => by cases e; exact .inl (by rw [h6.out.1]; exact Nat.le_refl _))); have HQ7 := hide (HQ.out.grow G7.out); have HB7 := hide (HB.out.trans ((gb_to G7.out).mono hB0.out)); have HQ0 := hide HQ.out; clear HQ HB))
          go_ret
          exact ⟨rfl, gb_of HB7.out⟩
      · have h200' : (200 : Int) < (i : Int) := by omega
        go_wp2_with (first | (refine wpList_newv 6 rfl rfl 71 rfl _ zero71 ?_; intro g6 w6 h6) | (refine wpList_store_whole rfl 71 (.tmp 6) (.tmp 20) rfl g6 71 _ _ rfl rfl h6.out.2.1 (size71 _ _ _) rfl (by simp [Value.oneCell']) ?_; intro w7 h7 hg7 hs7; obtain ⟨d0, d1, d2⟩ := cells3 h7.out; have G7 := hide ((gb_at h6.out).andThen hg7.out (fun j e => by cases e; exact .inl (by rw [h6.out.1]; exact Nat.le_refl _))); have HQ7 := hide (HQ.out.grow G7.out); have HB7 := hide (HB.out.trans ((gb_to G7.out).mono hB0.out)); have HQ0 := hide HQ.out; clear HQ HB))
        go_ret
        exact ⟨rfl, gb_of HB7.out⟩
    · obtain rfl : i = xs.length := by omega
      go_wp2_with fail
      go_ret
      exact ⟨rfl, gb_of HB.out⟩
end Go.Proofs.YtdeebmpmfedjbaaDoor
