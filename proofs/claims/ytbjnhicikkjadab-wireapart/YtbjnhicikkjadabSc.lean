/- The document's SameInts, SameBlocks, SameFuncs: whether two are the same. -/
import Derived.Test.YtbjnhicikkjadabBx
namespace Go.Proofs.Ytbjnhicikkjadab
open Go.RowKit Ir
/-- Answers whether it is so; leaves what there was. -/
def Dec (c : Prop) (w : World) : Ending → World → Prop := fun e w' => ∃ b : Bool, e = .returned (.bool b) ∧ (b = true ↔ c) ∧ Below w.heap.size w w'
theorem dec_no {c : Prop} {w w' : World} (h : ¬ c) (hB : Below w.heap.size w w') : Dec c w (.returned (.bool false)) w' := ⟨false, rfl, ⟨(fun h => by cases h), fun e => absurd e h⟩, hB⟩
theorem dec_yes {c : Prop} {w w' : World} (h : c) (hB : Below w.heap.size w w') : Dec c w (.returned (.bool true)) w' := ⟨true, rfl, ⟨fun _ => h, fun _ => rfl⟩, hB⟩
theorem bx7 {w : World} {g : Nat} {a0 a1 a2 a3 a4 a5 a6 : Value} {t : TypeId} (h : w.heap[g]? = some (Obj.cells #[a0, a1, a2, a3, a4, a5, a6] t (0, 0))) : w.cell? ⟨g, 0, none⟩ = some a0 ∧ w.cell? ⟨g, 1, none⟩ = some a1 ∧ w.cell? ⟨g, 2, none⟩ = some a2 ∧ w.cell? ⟨g, 3, none⟩ = some a3 ∧ w.cell? ⟨g, 4, none⟩ = some a4 ∧ w.cell? ⟨g, 5, none⟩ = some a5 ∧ w.cell? ⟨g, 6, none⟩ = some a6 := by
  refine ⟨?_, ?_, ?_, ?_, ?_, ?_, ?_⟩ <;> (rw [cell_of_row _ _ _ _ _ _ h]; rfl)
theorem getD_ext {α : Type} {z : α} {l m : List α} (hl : l.length = m.length) (h : ∀ k, k < l.length → l.getD k z = m.getD k z) : l = m := by
  refine List.ext_getElem? fun k => ?_
  by_cases hk : k < l.length
  · have := h k hk
    rw [List.getD_eq_getElem?_getD, List.getD_eq_getElem?_getD] at this
    rw [List.getElem?_eq_getElem hk, List.getElem?_eq_getElem (by omega)] at this ⊢
    simpa using this
  · rw [List.getElem?_eq_none (by omega), List.getElem?_eq_none (by omega)]
set_option maxRecDepth 100000 in
theorem sameInts_dec (u v : Value) (xs ys : List Int) (w : World) (hu : IntsV w u xs) (hv : IntsV w v ys) (hl : xs.length ≤ 1000000000) :
    Calls Try.prog 19 #[u, v] w (Dec (xs = ys) w) := by
  obtain ⟨ao, cap, rfl⟩ := hu.slice
  obtain ⟨ao2, cap2, rfl⟩ := hv.slice
  have HU := hide hu
  have HV := hide hv
  clear hu hv
  by_cases hlen : xs.length = ys.length
  · have HLen := hide hlen
    rw [← hlen] at HV ⊢
    clear hlen
    go_enter Try.func19, Try.ntmps19
    go_wp2_with fail
    go_loopw [5] (fun iv wr => ∃ i : Nat, i ≤ xs.length ∧ iv = .int .i64 i ∧ Below w.heap.size w wr ∧ Hid (∀ m, m < i → xs.getD m 0 = ys.getD m 0)) (fun iv _ => xs.length - (intOf iv).toNat)
    case atStart => exact ⟨0, by omega, rfl, Below.refl _ _, hide (fun m hm => by omega)⟩
    case round =>
      obtain ⟨i, hi, rfl, hBr, hpre⟩ := hrel
      by_cases hlt : i < xs.length
      · obtain ⟨b, off, rfl, hc⟩ := (HU.out.below hBr).at i hlt
        obtain ⟨b2, off2, rfl, hc2⟩ := (HV.out.below hBr).at i (by have := HLen.out; omega)
        have hlt' : (i : Int) < (xs.length : Int) := by omega
        have HEQ : Hid (xs.getD i 0 = ys.getD i 0 → ∀ m, m < i + 1 → xs.getD m 0 = ys.getD m 0) := hide (fun h m hm => by
          by_cases e : m = i
          · rw [e]; exact h
          · exact hpre.out m (by omega))
        have HNE : Hid (xs.getD i 0 ≠ ys.getD i 0 → xs ≠ ys) := hide (fun h e => h (by rw [e]))
        generalize xs.getD i 0 = x at *
        generalize ys.getD i 0 = y at *
        by_cases hxy : x = y
        · subst hxy
          have hp2 := hide (HEQ.out rfl)
          clear hpre HEQ HNE
          go_wp2_with fail
          go_quiet (fail)
          go_wp2
          go_roundw
          case rel => exact ⟨i + 1, by omega, by go_num, hBr.trans ⟨rfl, rfl, rfl, Nat.le_refl _, fun _ _ => rfl⟩, hp2⟩
          case measure => simp [intOf]; omega
        · have hb : (x == y) = false := by simp [hxy]
          have hne := hide (HNE.out hxy)
          clear hpre HEQ HNE hxy
          go_wp2_with fail
          go_quiet (fail)
          go_wp2
          go_ret
          exact dec_no hne.out (hBr.trans ⟨rfl, rfl, rfl, Nat.le_refl _, fun _ _ => rfl⟩)
      · obtain rfl : i = xs.length := by omega
        have he := hide (getD_ext HLen.out hpre.out : xs = ys)
        clear hpre
        go_wp2_with fail
        go_ret
        exact dec_yes he.out hBr
  · have hle : ((xs.length : Int) == (ys.length : Int)) = false := by simp; omega
    have hne : Hid (xs ≠ ys) := hide (fun e => hlen (by rw [e]))
    clear hlen
    go_enter Try.func19, Try.ntmps19
    go_wp2_with fail
    go_ret
    exact dec_no hne.out (Below.refl _ _)
theorem neqE (e f : En) : ∃ c : Bool, c = false ↔ e = f := by
  by_cases he : e = f
  · exact ⟨false, by simp [he]⟩
  · exact ⟨true, by simp [he]⟩
theorem run_neqE {a : Act} {w : World} {o : Oper} {x y : Operand} {t : TypeId} {e f : En} {c : Bool} (hop : o.op = .binOp .neq 37 x y t) (ex : a.eval x = endV e) (ey : a.eval y = endV f) (hc : c = false ↔ e = f) : (execOp a.eval o).run Try.prog w = .ok (.value (.bool c)) w := by
  unfold endV at ex ey
  generalize a.eval = ρ at ex ey ⊢
  unfold execOp
  rw [hop]
  simp only [ex, ey]
  by_cases h : e = f
  · subst h
    have : c = false := hc.2 rfl
    subst this
    go_simp
  · have : c = true := by
      cases c with
      | false => exact absurd (hc.1 rfl) h
      | true => rfl
    subst this
    have hn : ¬ (e.k = f.k ∧ e.a = f.a ∧ e.to = f.to ∧ e.el = f.el) := fun ⟨h1, h2, h3, h4⟩ => h (by cases e; cases f; simp_all)
    clear hc
    go_simp
    exact fun h1 h2 h3 h4 => hn ⟨h1, h2, h3, h4⟩
theorem run_neqN {a : Act} {w : World} {o : Oper} {x y : Operand} {t : TypeId} {m q : Nat} {c : Bool} (hop : o.op = .binOp .neq 3 x y t) (ex : a.eval x = .int .i64 (m : Nat)) (ey : a.eval y = .int .i64 (q : Nat)) (h : (!((m : Int) == (q : Int))) = c) : (execOp a.eval o).run Try.prog w = .ok (.value (.bool c)) w := by
  subst h
  generalize a.eval = ρ at ex ey ⊢
  unfold execOp
  rw [hop]
  simp only [ex, ey]
  go_simp
  rfl
/-- What is known of each temporary of 'a[j].End != b[j].End || len(..) != len(..)'. -/
def G26d (ga oa gv ov n ca cv j : Nat) (e f : En) (ai bi : Option Addr) (m q ci di : Nat) (c1 c2 : Bool) : Tmp → Value → World → Prop
  | 20, xx, _ => xx = .slice (some ⟨ga, oa, none⟩) n ca
  | 21, xx, _ => xx = .int .i64 (j : Nat)
  | 22, xx, _ => xx = .pointer (some ⟨ga, oa + j * 5, none⟩)
  | 23, xx, _ => xx = .pointer (some ⟨ga, oa + j * 5 + 1, none⟩)
  | 24, xx, _ => xx = endV e
  | 25, xx, _ => xx = .slice (some ⟨gv, ov, none⟩) n cv
  | 26, xx, _ => xx = .int .i64 (j : Nat)
  | 27, xx, _ => xx = .pointer (some ⟨gv, ov + j * 5, none⟩)
  | 28, xx, _ => xx = .pointer (some ⟨gv, ov + j * 5 + 1, none⟩)
  | 29, xx, _ => xx = endV f
  | 30, xx, _ => xx = .bool (c1)
  | 31, xx, _ => xx = .bool (c1)
  | 32, xx, _ => xx = if (!(c1)) = true then .slice (some ⟨ga, oa, none⟩) n ca else undef
  | 33, xx, _ => xx = if (!(c1)) = true then .int .i64 (j : Nat) else undef
  | 34, xx, _ => xx = if (!(c1)) = true then .pointer (some ⟨ga, oa + j * 5, none⟩) else undef
  | 35, xx, _ => xx = if (!(c1)) = true then .pointer (some ⟨ga, oa + j * 5, none⟩) else undef
  | 36, xx, _ => xx = if (!(c1)) = true then .slice ai m ci else undef
  | 37, xx, _ => xx = if (!(c1)) = true then .int .i64 (m : Nat) else undef
  | 38, xx, _ => xx = if (!(c1)) = true then .slice (some ⟨gv, ov, none⟩) n cv else undef
  | 39, xx, _ => xx = if (!(c1)) = true then .int .i64 (j : Nat) else undef
  | 40, xx, _ => xx = if (!(c1)) = true then .pointer (some ⟨gv, ov + j * 5, none⟩) else undef
  | 41, xx, _ => xx = if (!(c1)) = true then .pointer (some ⟨gv, ov + j * 5, none⟩) else undef
  | 42, xx, _ => xx = if (!(c1)) = true then .slice bi q di else undef
  | 43, xx, _ => xx = if (!(c1)) = true then .int .i64 (q : Nat) else undef
  | 44, xx, _ => xx = if (!(c1)) = true then .bool (c2) else undef
  | 45, xx, _ => xx = .bool (c1 || c2)
  | _, _, _ => True

set_option maxHeartbeats 16000000 in
set_option maxRecDepth 100000 in
theorem sameBlocks_dec (u v : Value) (bs cs : List Blk) (w : World) (hu : BlksV w u bs) (hv : BlksV w v cs) (hsm : ∀ b ∈ bs, ∀ i ∈ b.ins, i.args.length ≤ 1000000000) (hsm2 : ∀ b ∈ cs, ∀ i ∈ b.ins, i.args.length ≤ 1000000000) :
    Calls Try.prog 13 #[u, v] w (Dec (bs = cs) w) := by
  have hml := SlV.len_le hu
  have hml' : bs.length ≤ 9223372036854775807 := by simp [maxLen] at hml; omega
  obtain ⟨ua, ca, rfl⟩ := hu.slice
  obtain ⟨va, cv, rfl⟩ := hv.slice
  have HU := hide hu
  have HV := hide hv
  have HSM0 := hide hsm
  have HSM1 := hide hsm2
  clear hu hv hsm hml hsm2
  by_cases hlen : bs.length = cs.length
  · have HLen := hide hlen
    rw [← hlen] at HV ⊢
    clear hlen
    go_enter Try.func13, Try.ntmps13
    go_wp2_with fail
    go_loopw [5, 6] (fun iv _ wr => ∃ j : Nat, j ≤ bs.length ∧ iv = .int .i64 j ∧ Below w.heap.size w wr ∧ Hid (∀ m, m < j → bs.getD m Blk.zero = cs.getD m Blk.zero)) (fun iv _ _ => bs.length - (intOf iv).toNat)
    case atStart => exact ⟨0, by omega, rfl, Below.refl _ _, hide (fun m hm => by omega)⟩
    case round =>
      rename World => wo
      obtain ⟨j, hj, rfl, hBr, hpreB⟩ := hrel
      by_cases hlt : j < bs.length
      · have hlt2 : j < cs.length := by rw [← HLen.out]; exact hlt
        obtain ⟨ga, oa, rfl, ui, ⟨k0, k1, k2, k3, k4⟩, hui⟩ := SlV.at (HU.out.below hBr) j hlt
        obtain ⟨gv, ov, rfl, vi, ⟨d0, d1, d2, d3, d4⟩, hvi⟩ := SlV.at (HV.out.below hBr) j hlt2
        have HSM := hide (HSM0.out _ (getD_memB4 j hlt))
        have HSM2 := hide (HSM1.out _ (getD_memB4 j hlt2))
        have HNB0 : Hid (bs.getD j Blk.zero ≠ cs.getD j Blk.zero → bs ≠ cs) := hide (fun h e => h (by rw [e]))
        have HEB0 : Hid (bs.getD j Blk.zero = cs.getD j Blk.zero → ∀ m, m < j + 1 → bs.getD m Blk.zero = cs.getD m Blk.zero) := hide (fun h m hm => by
          by_cases e : m = j
          · rw [e]; exact h
          · exact hpreB.out m (by omega))
        clear hpreB
        generalize bs.getD j Blk.zero = b at *
        generalize cs.getD j Blk.zero = b2 at *
        obtain ⟨is, e⟩ := b
        obtain ⟨js, f⟩ := b2
        simp only at k1 k2 k3 k4 d1 d2 d3 d4 hui hvi HSM HSM2
        have hmi := SlV.len_le hui
        have hmi' : is.length ≤ 9223372036854775807 := by simp [maxLen] at hmi; omega
        obtain ⟨ai, ci, rfl⟩ := hui.slice
        obtain ⟨bi, di, rfl⟩ := hvi.slice
        have HI0 := hide hui
        have HJ0 := hide hvi
        have hlt' : (j : Int) < (bs.length : Int) := by omega
        have HBr := hide hBr
        obtain ⟨c1, hE2⟩ := neqE e f
        obtain ⟨c2, hL⟩ : ∃ c, (!((is.length : Int) == (js.length : Int))) = c := ⟨_, rfl⟩
        have hL2 : c2 = false ↔ is.length = js.length := by rw [← hL]; simp; omega
        have HC1 := hide hE2
        have HL := hide hL
        have HC2 := hide hL2
        clear hui hvi hmi hBr hE2 hL hL2
        go_wp2_with fail
        refine wp_region_each (by kernel_rfl) (fun d x _ => G26d ga oa gv ov bs.length ca cv j e f ai bi is.length js.length ci di c1 c2 d x wo) (fun _ W => Below wo.heap.size wo W) (by kernel_rfl) (Below.refl _ _).drew ?_ ?_
        · refine And.intro ?_ (And.intro ?_ (And.intro ?_ (And.intro ?_ (And.intro ?_ (And.intro ?_ (And.intro ?_ (And.intro ?_ (And.intro ?_ (And.intro ?_ (And.intro ?_ (And.intro ?_ (And.intro ?_ (And.intro ?_ (And.intro ?_ (And.intro ?_ (And.intro ?_ (And.intro ?_ (And.intro ?_ (And.intro ?_ (And.intro ?_ (And.intro ?_ (And.intro ?_ (And.intro ?_ (And.intro ?_ (And.intro ?_ trivial)))))))))))))))))))))))))
          · refine asked_pure rfl rfl (fun _ _ h => h) (fun _ _ _ => rfl) (fun l a W H => ?_)
            have e0 : a.eval (.tmp 0) = .slice (some ⟨ga, oa, none⟩) bs.length ca := H.base 0 rfl
            exact run_move rfl e0
          · refine asked_pure rfl rfl (fun _ _ h => h) (fun _ _ _ => rfl) (fun l a W H => ?_)
            have e5 : a.eval (.tmp 5) = .int .i64 (j : Nat) := H.base 5 rfl
            exact run_move rfl e5
          · refine asked_pure rfl rfl (fun _ _ h => h) (fun _ _ _ => rfl) (fun l a W H => ?_)
            have e20 : a.eval (.tmp 20) = .slice (some ⟨ga, oa, none⟩) bs.length ca := H.facts 20 rfl
            have e21 : a.eval (.tmp 21) = .int .i64 (j : Nat) := H.facts 21 rfl
            have hjn' : (j : Int) < (bs.length : Int) := by omega
            (simp only [execOp]; try simp only [Option.map]); (try simp only [List.map_toArray, List.map_cons, List.map_nil]); (simp only [e20, e21]; go_simp)
          · refine asked_pure rfl rfl (fun _ _ h => h) (fun _ _ _ => rfl) (fun l a W H => ?_)
            have e22 : a.eval (.tmp 22) = .pointer (some ⟨ga, oa + j * 5, none⟩) := H.facts 22 rfl
            (simp only [execOp]; try simp only [Option.map]); (try simp only [List.map_toArray, List.map_cons, List.map_nil]); (simp only [e22]; go_simp)
          · refine asked_pure rfl rfl (fun _ _ h => h) (fun _ _ _ => rfl) (fun l a W H => ?_)
            have e23 : a.eval (.tmp 23) = .pointer (some ⟨ga, oa + j * 5 + 1, none⟩) := H.facts 23 rfl
            exact run_load39 rfl e23 (cell_below H.s k1) (cell_below H.s k2) (cell_below H.s k3) (cell_below H.s k4)
          · refine asked_pure rfl rfl (fun _ _ h => h) (fun _ _ _ => rfl) (fun l a W H => ?_)
            have e1 : a.eval (.tmp 1) = .slice (some ⟨gv, ov, none⟩) bs.length cv := H.base 1 rfl
            exact run_move rfl e1
          · refine asked_pure rfl rfl (fun _ _ h => h) (fun _ _ _ => rfl) (fun l a W H => ?_)
            have e5 : a.eval (.tmp 5) = .int .i64 (j : Nat) := H.base 5 rfl
            exact run_move rfl e5
          · refine asked_pure rfl rfl (fun _ _ h => h) (fun _ _ _ => rfl) (fun l a W H => ?_)
            have e25 : a.eval (.tmp 25) = .slice (some ⟨gv, ov, none⟩) bs.length cv := H.facts 25 rfl
            have e26 : a.eval (.tmp 26) = .int .i64 (j : Nat) := H.facts 26 rfl
            have hjn' : (j : Int) < (bs.length : Int) := by omega
            (simp only [execOp]; try simp only [Option.map]); (try simp only [List.map_toArray, List.map_cons, List.map_nil]); (simp only [e25, e26]; go_simp)
          · refine asked_pure rfl rfl (fun _ _ h => h) (fun _ _ _ => rfl) (fun l a W H => ?_)
            have e27 : a.eval (.tmp 27) = .pointer (some ⟨gv, ov + j * 5, none⟩) := H.facts 27 rfl
            (simp only [execOp]; try simp only [Option.map]); (try simp only [List.map_toArray, List.map_cons, List.map_nil]); (simp only [e27]; go_simp)
          · refine asked_pure rfl rfl (fun _ _ h => h) (fun _ _ _ => rfl) (fun l a W H => ?_)
            have e28 : a.eval (.tmp 28) = .pointer (some ⟨gv, ov + j * 5 + 1, none⟩) := H.facts 28 rfl
            exact run_load39 rfl e28 (cell_below H.s d1) (cell_below H.s d2) (cell_below H.s d3) (cell_below H.s d4)
          · refine asked_pure rfl rfl (fun _ _ h => h) (fun _ _ _ => rfl) (fun l a W H => ?_)
            have e24 : a.eval (.tmp 24) = endV e := H.facts 24 rfl
            have e29 : a.eval (.tmp 29) = endV f := H.facts 29 rfl
            exact run_neqE rfl e24 e29 HC1.out
          · refine asked_pure rfl rfl (fun _ _ h => h) (fun _ _ _ => rfl) (fun l a W H => ?_)
            have e30 : a.eval (.tmp 30) = .bool (c1) := H.facts 30 rfl
            exact run_move rfl e30
          · refine asked_guard (c := (!(c1))) (v := .slice (some ⟨ga, oa, none⟩) bs.length ca) rfl rfl rfl rfl (fun _ _ h => h) ?_ (fun _ _ _ => rfl) ?_
            · intro l u W _ hu
              have hu : u = .bool (c1) := hu
              exact want_f hu
            intro hc l a W H
            have e0 : a.eval (.tmp 0) = .slice (some ⟨ga, oa, none⟩) bs.length ca := H.base 0 rfl
            exact run_move rfl e0
          · refine asked_guard (c := (!(c1))) (v := .int .i64 (j : Nat)) rfl rfl rfl rfl (fun _ _ h => h) ?_ (fun _ _ _ => rfl) ?_
            · intro l u W _ hu
              have hu : u = .bool (c1) := hu
              exact want_f hu
            intro hc l a W H
            have e5 : a.eval (.tmp 5) = .int .i64 (j : Nat) := H.base 5 rfl
            exact run_move rfl e5
          · refine asked_guard (c := (!(c1))) (v := .pointer (some ⟨ga, oa + j * 5, none⟩)) rfl rfl rfl rfl (fun _ _ h => h) ?_ (fun _ _ _ => rfl) ?_
            · intro l u W _ hu
              have hu : u = .bool (c1) := hu
              exact want_f hu
            intro hc l a W H
            have e32 : a.eval (.tmp 32) = .slice (some ⟨ga, oa, none⟩) bs.length ca := by
              have e : a.eval (.tmp 32) = if (!(c1)) = true then .slice (some ⟨ga, oa, none⟩) bs.length ca else undef := H.facts 32 rfl
              rw [if_pos hc] at e
              exact e
            have e33 : a.eval (.tmp 33) = .int .i64 (j : Nat) := by
              have e : a.eval (.tmp 33) = if (!(c1)) = true then .int .i64 (j : Nat) else undef := H.facts 33 rfl
              rw [if_pos hc] at e
              exact e
            have hjn' : (j : Int) < (bs.length : Int) := by omega
            (simp only [execOp]; try simp only [Option.map]); (try simp only [List.map_toArray, List.map_cons, List.map_nil]); (simp only [e32, e33]; go_simp)
          · refine asked_guard (c := (!(c1))) (v := .pointer (some ⟨ga, oa + j * 5, none⟩)) rfl rfl rfl rfl (fun _ _ h => h) ?_ (fun _ _ _ => rfl) ?_
            · intro l u W _ hu
              have hu : u = .bool (c1) := hu
              exact want_f hu
            intro hc l a W H
            have e34 : a.eval (.tmp 34) = .pointer (some ⟨ga, oa + j * 5, none⟩) := by
              have e : a.eval (.tmp 34) = if (!(c1)) = true then .pointer (some ⟨ga, oa + j * 5, none⟩) else undef := H.facts 34 rfl
              rw [if_pos hc] at e
              exact e
            (simp only [execOp]; try simp only [Option.map]); (try simp only [List.map_toArray, List.map_cons, List.map_nil]); (simp only [e34]; go_simp)
          · refine asked_guard (c := (!(c1))) (v := .slice ai is.length ci) rfl rfl rfl rfl (fun _ _ h => h) ?_ (fun _ _ _ => rfl) ?_
            · intro l u W _ hu
              have hu : u = .bool (c1) := hu
              exact want_f hu
            intro hc l a W H
            have e35 : a.eval (.tmp 35) = .pointer (some ⟨ga, oa + j * 5, none⟩) := by
              have e : a.eval (.tmp 35) = if (!(c1)) = true then .pointer (some ⟨ga, oa + j * 5, none⟩) else undef := H.facts 35 rfl
              rw [if_pos hc] at e
              exact e
            have k0 := cell_below H.s k0
            (simp only [execOp]; try simp only [Option.map]); (try simp only [List.map_toArray, List.map_cons, List.map_nil]); (simp only [e35]; go_simp)
          · refine asked_guard (c := (!(c1))) (v := .int .i64 (is.length : Nat)) rfl rfl rfl rfl (fun _ _ h => h) ?_ (fun _ _ _ => rfl) ?_
            · intro l u W _ hu
              have hu : u = .bool (c1) := hu
              exact want_f hu
            intro hc l a W H
            have e36 : a.eval (.tmp 36) = .slice ai is.length ci := by
              have e : a.eval (.tmp 36) = if (!(c1)) = true then .slice ai is.length ci else undef := H.facts 36 rfl
              rw [if_pos hc] at e
              exact e
            exact run_len rfl e36 Try.underlying38
          · refine asked_guard (c := (!(c1))) (v := .slice (some ⟨gv, ov, none⟩) bs.length cv) rfl rfl rfl rfl (fun _ _ h => h) ?_ (fun _ _ _ => rfl) ?_
            · intro l u W _ hu
              have hu : u = .bool (c1) := hu
              exact want_f hu
            intro hc l a W H
            have e1 : a.eval (.tmp 1) = .slice (some ⟨gv, ov, none⟩) bs.length cv := H.base 1 rfl
            exact run_move rfl e1
          · refine asked_guard (c := (!(c1))) (v := .int .i64 (j : Nat)) rfl rfl rfl rfl (fun _ _ h => h) ?_ (fun _ _ _ => rfl) ?_
            · intro l u W _ hu
              have hu : u = .bool (c1) := hu
              exact want_f hu
            intro hc l a W H
            have e5 : a.eval (.tmp 5) = .int .i64 (j : Nat) := H.base 5 rfl
            exact run_move rfl e5
          · refine asked_guard (c := (!(c1))) (v := .pointer (some ⟨gv, ov + j * 5, none⟩)) rfl rfl rfl rfl (fun _ _ h => h) ?_ (fun _ _ _ => rfl) ?_
            · intro l u W _ hu
              have hu : u = .bool (c1) := hu
              exact want_f hu
            intro hc l a W H
            have e38 : a.eval (.tmp 38) = .slice (some ⟨gv, ov, none⟩) bs.length cv := by
              have e : a.eval (.tmp 38) = if (!(c1)) = true then .slice (some ⟨gv, ov, none⟩) bs.length cv else undef := H.facts 38 rfl
              rw [if_pos hc] at e
              exact e
            have e39 : a.eval (.tmp 39) = .int .i64 (j : Nat) := by
              have e : a.eval (.tmp 39) = if (!(c1)) = true then .int .i64 (j : Nat) else undef := H.facts 39 rfl
              rw [if_pos hc] at e
              exact e
            have hjn' : (j : Int) < (bs.length : Int) := by omega
            (simp only [execOp]; try simp only [Option.map]); (try simp only [List.map_toArray, List.map_cons, List.map_nil]); (simp only [e38, e39]; go_simp)
          · refine asked_guard (c := (!(c1))) (v := .pointer (some ⟨gv, ov + j * 5, none⟩)) rfl rfl rfl rfl (fun _ _ h => h) ?_ (fun _ _ _ => rfl) ?_
            · intro l u W _ hu
              have hu : u = .bool (c1) := hu
              exact want_f hu
            intro hc l a W H
            have e40 : a.eval (.tmp 40) = .pointer (some ⟨gv, ov + j * 5, none⟩) := by
              have e : a.eval (.tmp 40) = if (!(c1)) = true then .pointer (some ⟨gv, ov + j * 5, none⟩) else undef := H.facts 40 rfl
              rw [if_pos hc] at e
              exact e
            (simp only [execOp]; try simp only [Option.map]); (try simp only [List.map_toArray, List.map_cons, List.map_nil]); (simp only [e40]; go_simp)
          · refine asked_guard (c := (!(c1))) (v := .slice bi js.length di) rfl rfl rfl rfl (fun _ _ h => h) ?_ (fun _ _ _ => rfl) ?_
            · intro l u W _ hu
              have hu : u = .bool (c1) := hu
              exact want_f hu
            intro hc l a W H
            have e41 : a.eval (.tmp 41) = .pointer (some ⟨gv, ov + j * 5, none⟩) := by
              have e : a.eval (.tmp 41) = if (!(c1)) = true then .pointer (some ⟨gv, ov + j * 5, none⟩) else undef := H.facts 41 rfl
              rw [if_pos hc] at e
              exact e
            have d0 := cell_below H.s d0
            (simp only [execOp]; try simp only [Option.map]); (try simp only [List.map_toArray, List.map_cons, List.map_nil]); (simp only [e41]; go_simp)
          · refine asked_guard (c := (!(c1))) (v := .int .i64 (js.length : Nat)) rfl rfl rfl rfl (fun _ _ h => h) ?_ (fun _ _ _ => rfl) ?_
            · intro l u W _ hu
              have hu : u = .bool (c1) := hu
              exact want_f hu
            intro hc l a W H
            have e42 : a.eval (.tmp 42) = .slice bi js.length di := by
              have e : a.eval (.tmp 42) = if (!(c1)) = true then .slice bi js.length di else undef := H.facts 42 rfl
              rw [if_pos hc] at e
              exact e
            exact run_len rfl e42 Try.underlying38
          · refine asked_guard (c := (!(c1))) (v := .bool (c2)) rfl rfl rfl rfl (fun _ _ h => h) ?_ (fun _ _ _ => rfl) ?_
            · intro l u W _ hu
              have hu : u = .bool (c1) := hu
              exact want_f hu
            intro hc l a W H
            have e37 : a.eval (.tmp 37) = .int .i64 (is.length : Nat) := by
              have e : a.eval (.tmp 37) = if (!(c1)) = true then .int .i64 (is.length : Nat) else undef := H.facts 37 rfl
              rw [if_pos hc] at e
              exact e
            have e43 : a.eval (.tmp 43) = .int .i64 (js.length : Nat) := by
              have e : a.eval (.tmp 43) = if (!(c1)) = true then .int .i64 (js.length : Nat) else undef := H.facts 43 rfl
              rw [if_pos hc] at e
              exact e
            exact run_neqN rfl e37 e43 HL.out
          · refine asked_pure rfl rfl (fun _ _ h => h) (fun _ _ _ => rfl) (fun l a W H => ?_)
            have e31 : a.eval (.tmp 31) = .bool (c1) := H.facts 31 rfl
            exact run_pick_or rfl e31 (fun hb => by
              have hc : (!(c1)) = true := by simp_all
              have e44 : a.eval (.tmp 44) = .bool (c2) := by
                have e : a.eval (.tmp 44) = if (!(c1)) = true then .bool (c2) else undef := H.facts 44 rfl
                rw [if_pos hc] at e
                exact e
              exact e44)
        · intro l s W _ hS hs
          have h45 : s 45 = .bool (c1 || c2) := hs 45 rfl
          have c0 := cell_below hS k0
          have d0 := cell_below hS d0
          have C0 := hide c0
          have D0 := hide d0
          have HI := hide (HI0.out.below hS)
          have HJ := hide (HJ0.out.below hS)
          have HBW := hide (bel_of HBr.out hS)
          clear k0 k1 k2 k3 k4 d1 d2 d3 d4
          clear hs hS
          cases c1 with
          | true =>
            have hne : Hid (bs ≠ cs) := hide (HNB0.out (fun h => by injection h with _ h; exact absurd (HC1.out.2 h) (by decide)))
            simp [overlay, dstsOf, h45]
            go_wp2_with fail
            go_ret
            exact dec_no hne.out (HBW.out)
          | false =>
          cases c2 with
          | true =>
            have hne : Hid (bs ≠ cs) := hide (HNB0.out (fun h => by injection h with h _; exact absurd (HC2.out.2 (by rw [h])) (by decide)))
            simp [overlay, dstsOf, h45]
            go_wp2_with fail
            go_ret
            exact dec_no hne.out (HBW.out)
          | false =>
          have hee : e = f := HC1.out.1 rfl
          have hll : Hid (is.length = js.length) := hide (HC2.out.1 rfl)
          subst hee
          have HNB : Hid (is ≠ js → bs ≠ cs) := hide (fun h => HNB0.out (fun e => h (by injection e)))
          have HEB : Hid (is = js → ∀ m, m < j + 1 → bs.getD m Blk.zero = cs.getD m Blk.zero) := hide (fun h => HEB0.out (by rw [h]))
          clear HNB0 HEB0 HC1 HC2 HL
          simp [overlay, dstsOf, h45]
          go_wp2_with fail
          go_loopw [6] (fun kv wr => ∃ k : Nat, k ≤ is.length ∧ kv = .int .i64 k ∧ Below W.heap.size W wr ∧ Hid (∀ m, m < k → is.getD m Ins.zero = js.getD m Ins.zero)) (fun kv _ => is.length - (intOf kv).toNat)
          case atStart => exact ⟨0, by omega, rfl, Below.refl _ _, hide (fun m hm => by omega)⟩
          case round =>
            rename World => ws
            obtain ⟨k, hk, rfl, hBs, hpre⟩ := hrel
            have c0 := cell_below hBs C0.out
            have d0 := cell_below hBs D0.out
            by_cases hltk : k < is.length
            · have hltj : k < js.length := by rw [← hll.out]; exact hltk
              obtain ⟨gi, oi, rfl, uu, hac, huu⟩ := SlV.at (HI.out.below hBs) k hltk
              obtain ⟨gj, oj, rfl, vv, hbc, hvv⟩ := SlV.at (HJ.out.below hBs) k hltj
              have hal := HSM.out _ (getD_memI4 k hltk)
              have hal2 := HSM2.out _ (getD_memI4 k hltj)
              have HNE : Hid (is.getD k Ins.zero ≠ js.getD k Ins.zero → bs ≠ cs) := hide (fun h => HNB.out (fun e => h (by rw [e])))
              have HEQ : Hid (is.getD k Ins.zero = js.getD k Ins.zero → ∀ m, m < k + 1 → is.getD m Ins.zero = js.getD m Ins.zero) := hide (fun h m hm => by
                by_cases e : m = k
                · rw [e]; exact h
                · exact hpre.out m (by omega))
              clear hpre
              generalize is.getD k Ins.zero = i at *
              generalize js.getD k Ins.zero = i2 at *
              obtain ⟨au, cu, rfl⟩ := huu.slice
              obtain ⟨av, cv2, rfl⟩ := hvv.slice
              have hltk' : (k : Int) < (is.length : Int) := by omega
              have hltj' : (k : Int) < (js.length : Int) := by omega
              have HUU := hide huu
              have HVV := hide hvv
              have HBS := hide hBs
              clear huu hvv
              obtain ⟨ik, iop, id, ia, ib, inn, iargs⟩ := i
              obtain ⟨gk, gop, gd, gaa, gb, gn, gargs⟩ := i2
              simp only at hal hal2 HUU HVV
              go_wp2_with fail
              refine r11_ok rfl rfl rfl rfl rfl hlt' hltk' hltj' c0 d0 hac hbc ⟨_, _, _, rfl⟩ ⟨_, _, _, rfl⟩ ?_
              intro s2 W3 g7 g8 h7 h8 hr7 hr8 hB3w
              simp [overlay, dstsOf, ops11, h7, h8]
              unfold insA at hr7 hr8
              obtain ⟨x0, x1, x2, x3, x4, x5, x6⟩ := bx7 hr7
              obtain ⟨y0, y1, y2, y3, y4, y5, y6⟩ := bx7 hr8
              have HB3 := hide hB3w
              clear hBs c0 d0 hac hbc h7 h8 hr7 hr8 hB3w
              by_cases h0 : ik = gk
              · subst h0
                have hb0 : (ik == ik) = true := by simp
                by_cases h1 : iop = gop
                · subst h1
                  have hb1 : (iop == iop) = true := by simp
                  by_cases h2 : id = gd
                  · subst h2
                    have hb2 : (id == id) = true := by simp
                    by_cases h3 : ia = gaa
                    · subst h3
                      have hb3 : (ia == ia) = true := by simp
                      by_cases h4 : ib = gb
                      · subst h4
                        have hb4 : (ib == ib) = true := by simp
                        by_cases h5 : inn = gn
                        · subst h5
                          have hb5 : (inn == inn) = true := by simp
                          go_wp2_with fail
                          refine (sameInts_dec _ _ iargs gargs _ (HUU.out.below HB3.out) (HVV.out.below HB3.out) (by omega)).mono ?_
                          rintro r w3 ⟨bb, rfl, hbb, hB3⟩
                          have hBf := bel_of HBS.out (bel_of HB3.out hB3)
                          cases bb with
                          | false =>
                            have hne : Hid (bs ≠ cs) := hide (HNE.out (fun e => by injection e with _ _ _ _ _ _ e; exact absurd (hbb.2 e) (by decide)))
                            have hBw := bel_of HBW.out hBf
                            clear hB3 hbb
                            go_wp2_with fail
                            go_ret
                            exact dec_no hne.out (hBw)
                          | true =>
                            have hpre2 := hide (HEQ.out (by rw [hbb.1 rfl]))
                            clear hB3 hbb
                            go_wp2_with fail
                            go_roundw
                            case rel => exact ⟨k + 1, by omega, by go_num, hBf, hpre2⟩
                            case measure => simp [intOf]; omega
                        · have hb5 : (inn == gn) = false := by simp [h5]
                          have hne : Hid (bs ≠ cs) := hide (HNE.out (fun e => by injection e; contradiction))
                          have hBw := bel_of HBW.out (bel_of HBS.out HB3.out)
                          go_wp2_with fail
                          all_goals first | exact absurd (by assumption) h5 | (go_ret; exact dec_no hne.out hBw)
                      · have hb4 : (ib == gb) = false := by simp [h4]
                        have hne : Hid (bs ≠ cs) := hide (HNE.out (fun e => by injection e; contradiction))
                        have hBw := bel_of HBW.out (bel_of HBS.out HB3.out)
                        go_wp2_with fail
                        all_goals first | exact absurd (by assumption) h4 | (go_ret; exact dec_no hne.out hBw)
                    · have hb3 : (ia == gaa) = false := by simp [h3]
                      have hne : Hid (bs ≠ cs) := hide (HNE.out (fun e => by injection e; contradiction))
                      have hBw := bel_of HBW.out (bel_of HBS.out HB3.out)
                      go_wp2_with fail
                      all_goals first | exact absurd (by assumption) h3 | (go_ret; exact dec_no hne.out hBw)
                  · have hb2 : (id == gd) = false := by simp [h2]
                    have hne : Hid (bs ≠ cs) := hide (HNE.out (fun e => by injection e; contradiction))
                    have hBw := bel_of HBW.out (bel_of HBS.out HB3.out)
                    go_wp2_with fail
                    all_goals first | exact absurd (by assumption) h2 | (go_ret; exact dec_no hne.out hBw)
                · have hb1 : (iop == gop) = false := by simp [h1]
                  have hne : Hid (bs ≠ cs) := hide (HNE.out (fun e => by injection e; contradiction))
                  have hBw := bel_of HBW.out (bel_of HBS.out HB3.out)
                  go_wp2_with fail
                  all_goals first | exact absurd (by assumption) h1 | (go_ret; exact dec_no hne.out hBw)
              · have hb0 : (ik == gk) = false := by simp [h0]
                have hne : Hid (bs ≠ cs) := hide (HNE.out (fun e => by injection e; contradiction))
                have hBw := bel_of HBW.out (bel_of HBS.out HB3.out)
                go_wp2_with fail
                all_goals first | exact absurd (by assumption) h0 | (go_ret; exact dec_no hne.out hBw)
            · obtain rfl : k = is.length := by omega
              have hBf := bel_of HBW.out hBs
              have heb := hide (HEB.out (getD_ext hll.out hpre.out))
              clear hpre
              go_wp2_with fail
              go_roundw
              case rel => exact ⟨j + 1, by omega, by go_num, hBf, heb⟩
              case measure => simp [intOf]; omega
      · obtain rfl : j = bs.length := by omega
        have he := hide (getD_ext HLen.out hpreB.out : bs = cs)
        clear hpreB
        go_wp2_with fail
        go_ret
        exact dec_yes he.out hBr
  · have hle : ((bs.length : Int) == (cs.length : Int)) = false := by simp; omega
    have hne : Hid (bs ≠ cs) := hide (fun e => hlen (by rw [e]))
    clear hlen
    go_enter Try.func13, Try.ntmps13
    go_wp2_with fail
    go_ret
    exact dec_no hne.out (Below.refl _ _)
set_option maxHeartbeats 2000000 in
set_option maxRecDepth 100000 in
theorem sameFuncs_dec (M L : Fun) (u v : Value) (w : World) (hu : BlksV w u M.bs) (hv : BlksV w v L.bs) (hsm : ∀ b ∈ M.bs, ∀ i ∈ b.ins, i.args.length ≤ 1000000000) (hsm2 : ∀ b ∈ L.bs, ∀ i ∈ b.ins, i.args.length ≤ 1000000000) :
    Calls Try.prog 7 #[.agg #[.int .i64 M.p, .int .i64 M.v, u], .agg #[.int .i64 L.p, .int .i64 L.v, v]] w (Dec (M = L) w) := by
  obtain ⟨ua, ca, rfl⟩ := hu.slice
  obtain ⟨va, cv, rfl⟩ := hv.slice
  have hB := bel2 w (.cells #[.int .i64 M.p, .int .i64 M.v, .slice ua M.bs.length ca] 28) (.cells #[.int .i64 L.p, .int .i64 L.v, .slice va L.bs.length cv] 28)
  have hC := hide (sameBlocks_dec _ _ M.bs L.bs _ (hu.below hB) (hv.below hB) hsm hsm2)
  have HB := hide hB
  clear hu hv hsm hsm2 hB
  obtain ⟨mp, mv, mb⟩ := M
  obtain ⟨lp, lv, lb⟩ := L
  simp only at hC HB
  by_cases h1 : mp = lp
  · subst h1
    by_cases h2 : mv = lv
    · subst h2
      go_enter Try.func7, Try.ntmps7
      go_wp2_with fail
      refine hC.out.mono ?_
      rintro r w1 ⟨b, rfl, hb, hB1⟩
      have hBf := bel_of HB.out hB1
      clear hC HB hB1
      go_wp2_with fail
      go_ret
      exact ⟨b, rfl, by rw [hb]; simp, hBf⟩
    · have hb : (mv == lv) = false := by simp [h2]
      have hne : Hid (¬ (⟨mp, mv, mb⟩ : Fun) = ⟨mp, lv, lb⟩) := hide (fun e => h2 (by injection e))
      clear hC
      go_enter Try.func7, Try.ntmps7
      go_wp2_with fail
      all_goals first | exact absurd (by assumption) h2 | (go_ret; exact dec_no hne.out HB.out)
  · have hb : (mp == lp) = false := by simp [h1]
    have hne : Hid (¬ (⟨mp, mv, mb⟩ : Fun) = ⟨lp, lv, lb⟩) := hide (fun e => h1 (by injection e))
    clear hC
    go_enter Try.func7, Try.ntmps7
    go_wp2_with fail
    all_goals first | exact absurd (by assumption) h1 | (go_ret; exact dec_no hne.out HB.out)
end Go.Proofs.Ytbjnhicikkjadab
