/- The document's SameBlocks, SameFuncs: of two that read alike they answer true. -/
import Derived.BigRegion
import Derived.Test.YtbjnhicikkjadabCheck
import Derived.Test.YtbjnhicikkjadabInts
import Derived.Test.YtbjnhicikkjadabAny
import Derived.Test.YtbjnhicikkjadabOps
namespace Go.Proofs.Ytbjnhicikkjadab
open Go.RowKit Ir
set_option maxRecDepth 100000 in
theorem sameInts_any (u v : Value) (xs : List Int) (w : World) (hu : IntsV w u xs) (hv : IntsV w v xs) (hl : xs.length ≤ 1000000000) :
    Calls Try.prog 19 #[u, v] w fun e w' => e = .returned (.bool true) ∧ Below w.heap.size w w' := by
  obtain ⟨ao, cap, rfl⟩ := hu.slice
  obtain ⟨ao2, cap2, rfl⟩ := hv.slice
  have HU := hide hu
  have HV := hide hv
  clear hu hv
  go_enter Try.func19, Try.ntmps19
  go_wp2_with fail
  go_loopw [5] (fun iv wr => ∃ i : Nat, i ≤ xs.length ∧ iv = .int .i64 i ∧ Below w.heap.size w wr) (fun iv _ => xs.length - (intOf iv).toNat)
  case atStart => exact ⟨0, by omega, rfl, Below.refl _ _⟩
  case round =>
    obtain ⟨i, hi, rfl, hBr⟩ := hrel
    by_cases hlt : i < xs.length
    · obtain ⟨b, off, rfl, hc⟩ := (HU.out.below hBr).at i hlt
      obtain ⟨b2, off2, rfl, hc2⟩ := (HV.out.below hBr).at i hlt
      have hlt' : (i : Int) < (xs.length : Int) := by omega
      generalize xs.getD i 0 = x at *
      go_wp2_with fail
      go_quiet (fail)
      go_wp2
      go_roundw
      case rel => exact ⟨i + 1, by omega, by go_num, hBr.trans ⟨rfl, rfl, rfl, Nat.le_refl _, fun _ _ => rfl⟩⟩
      case measure => simp [intOf]; omega
    · obtain rfl : i = xs.length := by omega
      go_wp2_with fail
      go_ret
      exact ⟨rfl, hBr⟩
theorem getD_memI4 {l : List Ins} (m : Nat) (h : m < l.length) : l.getD m Ins.zero ∈ l := by simp [h]
theorem getD_memB4 {l : List Blk} (m : Nat) (h : m < l.length) : l.getD m Blk.zero ∈ l := by simp [h]
theorem eq64 (e : En) (w : World) : (Op.equalIn 10000 37 (endV e) (endV e)).run Try.prog w = .ok true w := by
  unfold endV
  rw [show (10000 : Nat) = 9999 + 1 from rfl, Op.equalIn]
  simp only [Sem.run_bind, run_underlying Try.underlying37, Result.andThen_ok]
  go_simp
theorem run_neq64_same {a : Act} {w : World} {o : Oper} {x y : Operand} {t : TypeId} {e : En} (hop : o.op = .binOp .neq 37 x y t) (ex : a.eval x = endV e) (ey : a.eval y = endV e) : (execOp a.eval o).run Try.prog w = .ok (.value (.bool false)) w := by
  have h : (binOp .neq 37 (endV e) (endV e)).run Try.prog w = .ok (.bool false) w := by
    have h0 := eq64 e w
    unfold endV at h0 ⊢
    simp [binOp, Op.equal, Op.maxDepth, h0]
  unfold endV at h ex ey
  generalize a.eval = ρ at ex ey ⊢
  unfold execOp
  rw [hop]
  simp only [ex, ey]
  go_simp
/-- What is known of each temporary of 'a[j].End != b[j].End || len(..) != len(..)'. -/
def G26 (ga oa gv ov n ca cv j : Nat) (e : En) (ai bi : Option Addr) (m ci di : Nat) : Tmp → Value → World → Prop
  | 20, xx, _ => xx = .slice (some ⟨ga, oa, none⟩) n ca
  | 21, xx, _ => xx = .int .i64 (j : Nat)
  | 22, xx, _ => xx = .pointer (some ⟨ga, oa + j * 5, none⟩)
  | 23, xx, _ => xx = .pointer (some ⟨ga, oa + j * 5 + 1, none⟩)
  | 24, xx, _ => xx = endV e
  | 25, xx, _ => xx = .slice (some ⟨gv, ov, none⟩) n cv
  | 26, xx, _ => xx = .int .i64 (j : Nat)
  | 27, xx, _ => xx = .pointer (some ⟨gv, ov + j * 5, none⟩)
  | 28, xx, _ => xx = .pointer (some ⟨gv, ov + j * 5 + 1, none⟩)
  | 29, xx, _ => xx = endV e
  | 30, xx, _ => xx = .bool (false)
  | 31, xx, _ => xx = .bool (false)
  | 32, xx, _ => xx = if (!(false)) = true then .slice (some ⟨ga, oa, none⟩) n ca else undef
  | 33, xx, _ => xx = if (!(false)) = true then .int .i64 (j : Nat) else undef
  | 34, xx, _ => xx = if (!(false)) = true then .pointer (some ⟨ga, oa + j * 5, none⟩) else undef
  | 35, xx, _ => xx = if (!(false)) = true then .pointer (some ⟨ga, oa + j * 5, none⟩) else undef
  | 36, xx, _ => xx = if (!(false)) = true then .slice ai m ci else undef
  | 37, xx, _ => xx = if (!(false)) = true then .int .i64 (m : Nat) else undef
  | 38, xx, _ => xx = if (!(false)) = true then .slice (some ⟨gv, ov, none⟩) n cv else undef
  | 39, xx, _ => xx = if (!(false)) = true then .int .i64 (j : Nat) else undef
  | 40, xx, _ => xx = if (!(false)) = true then .pointer (some ⟨gv, ov + j * 5, none⟩) else undef
  | 41, xx, _ => xx = if (!(false)) = true then .pointer (some ⟨gv, ov + j * 5, none⟩) else undef
  | 42, xx, _ => xx = if (!(false)) = true then .slice bi m di else undef
  | 43, xx, _ => xx = if (!(false)) = true then .int .i64 (m : Nat) else undef
  | 44, xx, _ => xx = if (!(false)) = true then .bool (false) else undef
  | 45, xx, _ => xx = .bool (false || false)
  | _, _, _ => True

set_option maxHeartbeats 8000000 in
set_option maxRecDepth 100000 in
theorem sameBlocks_any (u v : Value) (bs : List Blk) (w : World) (hu : BlksV w u bs) (hv : BlksV w v bs) (hsm : ∀ b ∈ bs, ∀ i ∈ b.ins, i.args.length ≤ 1000000000) :
    Calls Try.prog 13 #[u, v] w fun r w' => r = .returned (.bool true) ∧ Below w.heap.size w w' := by
  have hml := SlV.len_le hu
  have hml' : bs.length ≤ 9223372036854775807 := by simp [maxLen] at hml; omega
  obtain ⟨ua, ca, rfl⟩ := hu.slice
  obtain ⟨va, cv, rfl⟩ := hv.slice
  have HU := hide hu
  have HV := hide hv
  have HSM0 := hide hsm
  clear hu hv hsm hml
  go_enter Try.func13, Try.ntmps13
  go_wp2_with fail
  go_loopw [5, 6] (fun iv _ wr => ∃ j : Nat, j ≤ bs.length ∧ iv = .int .i64 j ∧ Below w.heap.size w wr) (fun iv _ _ => bs.length - (intOf iv).toNat)
  case atStart => exact ⟨0, by omega, rfl, Below.refl _ _⟩
  case round =>
    rename World => wo
    obtain ⟨j, hj, rfl, hBr⟩ := hrel
    by_cases hlt : j < bs.length
    · obtain ⟨ga, oa, rfl, ui, ⟨c0, c1, c2, c3, c4⟩, hui⟩ := SlV.at (HU.out.below hBr) j hlt
      obtain ⟨gv, ov, rfl, vi, ⟨d0, d1, d2, d3, d4⟩, hvi⟩ := SlV.at (HV.out.below hBr) j hlt
      have HSM := hide (HSM0.out _ (getD_memB4 j hlt))
      generalize bs.getD j Blk.zero = b at *
      obtain ⟨is, e⟩ := b
      simp only at c1 c2 c3 c4 d1 d2 d3 d4 hui hvi HSM
      have hmi := SlV.len_le hui
      have hmi' : is.length ≤ 9223372036854775807 := by simp [maxLen] at hmi; omega
      obtain ⟨ai, ci, rfl⟩ := hui.slice
      obtain ⟨bi, di, rfl⟩ := hvi.slice
      have HI0 := hide hui
      have HJ0 := hide hvi
      have hlt' : (j : Int) < (bs.length : Int) := by omega
      have HBr := hide hBr
      clear hui hvi hmi hBr
      go_wp2_with fail
      refine wp_region_each (by kernel_rfl) (fun d x _ => G26 ga oa gv ov bs.length ca cv j e ai bi is.length ci di d x wo) (fun _ W => Below wo.heap.size wo W) (by kernel_rfl) (Below.refl _ _).drew ?_ ?_
      · refine And.intro ?_ (And.intro ?_ (And.intro ?_ (And.intro ?_ (And.intro ?_ (And.intro ?_ (And.intro ?_ (And.intro ?_ (And.intro ?_ (And.intro ?_ (And.intro ?_ (And.intro ?_ (And.intro ?_ (And.intro ?_ (And.intro ?_ (And.intro ?_ (And.intro ?_ (And.intro ?_ (And.intro ?_ (And.intro ?_ (And.intro ?_ (And.intro ?_ (And.intro ?_ (And.intro ?_ (And.intro ?_ (And.intro ?_ trivial)))))))))))))))))))))))))
        · refine asked_pure rfl rfl (fun _ _ h => h) (fun _ _ _ => rfl) (fun l a W H => ?_)
          have e0 : a.eval (.tmp 0) = .slice (some ⟨ga, oa, none⟩) bs.length ca := H.base 0 rfl
          exact run_move rfl e0
        · refine asked_pure rfl rfl (fun _ _ h => h) (fun _ _ _ => rfl) (fun l a W H => ?_)
          have e5 : a.eval (.tmp 5) = .int .i64 (j : Nat) := H.base 5 rfl
          exact run_move rfl e5
        · refine asked_pure rfl rfl (fun _ _ h => h) (fun _ _ _ => rfl) (fun l a W H => ?_)
          have e20 : a.eval (.tmp 20) = .slice (some ⟨ga, oa, none⟩) bs.length ca := H.facts 20 rfl
          have e21 : a.eval (.tmp 21) = .int .i64 (j : Nat) := H.facts 21 rfl
          have hjn' : (j : Int) < (bs.length : Int) := by omega
          (simp only [execOp]; try simp only [Option.map]); (try simp only [List.map_toArray, List.map_cons, List.map_nil]); (simp only [e20, e21]; go_simp)
        · refine asked_pure rfl rfl (fun _ _ h => h) (fun _ _ _ => rfl) (fun l a W H => ?_)
          have e22 : a.eval (.tmp 22) = .pointer (some ⟨ga, oa + j * 5, none⟩) := H.facts 22 rfl
          (simp only [execOp]; try simp only [Option.map]); (try simp only [List.map_toArray, List.map_cons, List.map_nil]); (simp only [e22]; go_simp)
        · refine asked_pure rfl rfl (fun _ _ h => h) (fun _ _ _ => rfl) (fun l a W H => ?_)
          have e23 : a.eval (.tmp 23) = .pointer (some ⟨ga, oa + j * 5 + 1, none⟩) := H.facts 23 rfl
          exact run_load39 rfl e23 (cell_below H.s c1) (cell_below H.s c2) (cell_below H.s c3) (cell_below H.s c4)
        · refine asked_pure rfl rfl (fun _ _ h => h) (fun _ _ _ => rfl) (fun l a W H => ?_)
          have e1 : a.eval (.tmp 1) = .slice (some ⟨gv, ov, none⟩) bs.length cv := H.base 1 rfl
          exact run_move rfl e1
        · refine asked_pure rfl rfl (fun _ _ h => h) (fun _ _ _ => rfl) (fun l a W H => ?_)
          have e5 : a.eval (.tmp 5) = .int .i64 (j : Nat) := H.base 5 rfl
          exact run_move rfl e5
        · refine asked_pure rfl rfl (fun _ _ h => h) (fun _ _ _ => rfl) (fun l a W H => ?_)
          have e25 : a.eval (.tmp 25) = .slice (some ⟨gv, ov, none⟩) bs.length cv := H.facts 25 rfl
          have e26 : a.eval (.tmp 26) = .int .i64 (j : Nat) := H.facts 26 rfl
          have hjn' : (j : Int) < (bs.length : Int) := by omega
          (simp only [execOp]; try simp only [Option.map]); (try simp only [List.map_toArray, List.map_cons, List.map_nil]); (simp only [e25, e26]; go_simp)
        · refine asked_pure rfl rfl (fun _ _ h => h) (fun _ _ _ => rfl) (fun l a W H => ?_)
          have e27 : a.eval (.tmp 27) = .pointer (some ⟨gv, ov + j * 5, none⟩) := H.facts 27 rfl
          (simp only [execOp]; try simp only [Option.map]); (try simp only [List.map_toArray, List.map_cons, List.map_nil]); (simp only [e27]; go_simp)
        · refine asked_pure rfl rfl (fun _ _ h => h) (fun _ _ _ => rfl) (fun l a W H => ?_)
          have e28 : a.eval (.tmp 28) = .pointer (some ⟨gv, ov + j * 5 + 1, none⟩) := H.facts 28 rfl
          exact run_load39 rfl e28 (cell_below H.s d1) (cell_below H.s d2) (cell_below H.s d3) (cell_below H.s d4)
        · refine asked_pure rfl rfl (fun _ _ h => h) (fun _ _ _ => rfl) (fun l a W H => ?_)
          have e24 : a.eval (.tmp 24) = endV e := H.facts 24 rfl
          have e29 : a.eval (.tmp 29) = endV e := H.facts 29 rfl
          exact run_neq64_same rfl e24 e29
        · refine asked_pure rfl rfl (fun _ _ h => h) (fun _ _ _ => rfl) (fun l a W H => ?_)
          have e30 : a.eval (.tmp 30) = .bool (false) := H.facts 30 rfl
          exact run_move rfl e30
        · refine asked_guard (c := (!(false))) (v := .slice (some ⟨ga, oa, none⟩) bs.length ca) rfl rfl rfl rfl (fun _ _ h => h) ?_ (fun _ _ _ => rfl) ?_
          · intro l u W _ hu
            have hu : u = .bool (false) := hu
            exact want_f hu
          intro hc l a W H
          have e0 : a.eval (.tmp 0) = .slice (some ⟨ga, oa, none⟩) bs.length ca := H.base 0 rfl
          exact run_move rfl e0
        · refine asked_guard (c := (!(false))) (v := .int .i64 (j : Nat)) rfl rfl rfl rfl (fun _ _ h => h) ?_ (fun _ _ _ => rfl) ?_
          · intro l u W _ hu
            have hu : u = .bool (false) := hu
            exact want_f hu
          intro hc l a W H
          have e5 : a.eval (.tmp 5) = .int .i64 (j : Nat) := H.base 5 rfl
          exact run_move rfl e5
        · refine asked_guard (c := (!(false))) (v := .pointer (some ⟨ga, oa + j * 5, none⟩)) rfl rfl rfl rfl (fun _ _ h => h) ?_ (fun _ _ _ => rfl) ?_
          · intro l u W _ hu
            have hu : u = .bool (false) := hu
            exact want_f hu
          intro hc l a W H
          have e32 : a.eval (.tmp 32) = .slice (some ⟨ga, oa, none⟩) bs.length ca := by
            have e : a.eval (.tmp 32) = if (!(false)) = true then .slice (some ⟨ga, oa, none⟩) bs.length ca else undef := H.facts 32 rfl
            rw [if_pos hc] at e
            exact e
          have e33 : a.eval (.tmp 33) = .int .i64 (j : Nat) := by
            have e : a.eval (.tmp 33) = if (!(false)) = true then .int .i64 (j : Nat) else undef := H.facts 33 rfl
            rw [if_pos hc] at e
            exact e
          have hjn' : (j : Int) < (bs.length : Int) := by omega
          (simp only [execOp]; try simp only [Option.map]); (try simp only [List.map_toArray, List.map_cons, List.map_nil]); (simp only [e32, e33]; go_simp)
        · refine asked_guard (c := (!(false))) (v := .pointer (some ⟨ga, oa + j * 5, none⟩)) rfl rfl rfl rfl (fun _ _ h => h) ?_ (fun _ _ _ => rfl) ?_
          · intro l u W _ hu
            have hu : u = .bool (false) := hu
            exact want_f hu
          intro hc l a W H
          have e34 : a.eval (.tmp 34) = .pointer (some ⟨ga, oa + j * 5, none⟩) := by
            have e : a.eval (.tmp 34) = if (!(false)) = true then .pointer (some ⟨ga, oa + j * 5, none⟩) else undef := H.facts 34 rfl
            rw [if_pos hc] at e
            exact e
          (simp only [execOp]; try simp only [Option.map]); (try simp only [List.map_toArray, List.map_cons, List.map_nil]); (simp only [e34]; go_simp)
        · refine asked_guard (c := (!(false))) (v := .slice ai is.length ci) rfl rfl rfl rfl (fun _ _ h => h) ?_ (fun _ _ _ => rfl) ?_
          · intro l u W _ hu
            have hu : u = .bool (false) := hu
            exact want_f hu
          intro hc l a W H
          have e35 : a.eval (.tmp 35) = .pointer (some ⟨ga, oa + j * 5, none⟩) := by
            have e : a.eval (.tmp 35) = if (!(false)) = true then .pointer (some ⟨ga, oa + j * 5, none⟩) else undef := H.facts 35 rfl
            rw [if_pos hc] at e
            exact e
          have c0 := cell_below H.s c0
          (simp only [execOp]; try simp only [Option.map]); (try simp only [List.map_toArray, List.map_cons, List.map_nil]); (simp only [e35]; go_simp)
        · refine asked_guard (c := (!(false))) (v := .int .i64 (is.length : Nat)) rfl rfl rfl rfl (fun _ _ h => h) ?_ (fun _ _ _ => rfl) ?_
          · intro l u W _ hu
            have hu : u = .bool (false) := hu
            exact want_f hu
          intro hc l a W H
          have e36 : a.eval (.tmp 36) = .slice ai is.length ci := by
            have e : a.eval (.tmp 36) = if (!(false)) = true then .slice ai is.length ci else undef := H.facts 36 rfl
            rw [if_pos hc] at e
            exact e
          exact run_len rfl e36 Try.underlying38
        · refine asked_guard (c := (!(false))) (v := .slice (some ⟨gv, ov, none⟩) bs.length cv) rfl rfl rfl rfl (fun _ _ h => h) ?_ (fun _ _ _ => rfl) ?_
          · intro l u W _ hu
            have hu : u = .bool (false) := hu
            exact want_f hu
          intro hc l a W H
          have e1 : a.eval (.tmp 1) = .slice (some ⟨gv, ov, none⟩) bs.length cv := H.base 1 rfl
          exact run_move rfl e1
        · refine asked_guard (c := (!(false))) (v := .int .i64 (j : Nat)) rfl rfl rfl rfl (fun _ _ h => h) ?_ (fun _ _ _ => rfl) ?_
          · intro l u W _ hu
            have hu : u = .bool (false) := hu
            exact want_f hu
          intro hc l a W H
          have e5 : a.eval (.tmp 5) = .int .i64 (j : Nat) := H.base 5 rfl
          exact run_move rfl e5
        · refine asked_guard (c := (!(false))) (v := .pointer (some ⟨gv, ov + j * 5, none⟩)) rfl rfl rfl rfl (fun _ _ h => h) ?_ (fun _ _ _ => rfl) ?_
          · intro l u W _ hu
            have hu : u = .bool (false) := hu
            exact want_f hu
          intro hc l a W H
          have e38 : a.eval (.tmp 38) = .slice (some ⟨gv, ov, none⟩) bs.length cv := by
            have e : a.eval (.tmp 38) = if (!(false)) = true then .slice (some ⟨gv, ov, none⟩) bs.length cv else undef := H.facts 38 rfl
            rw [if_pos hc] at e
            exact e
          have e39 : a.eval (.tmp 39) = .int .i64 (j : Nat) := by
            have e : a.eval (.tmp 39) = if (!(false)) = true then .int .i64 (j : Nat) else undef := H.facts 39 rfl
            rw [if_pos hc] at e
            exact e
          have hjn' : (j : Int) < (bs.length : Int) := by omega
          (simp only [execOp]; try simp only [Option.map]); (try simp only [List.map_toArray, List.map_cons, List.map_nil]); (simp only [e38, e39]; go_simp)
        · refine asked_guard (c := (!(false))) (v := .pointer (some ⟨gv, ov + j * 5, none⟩)) rfl rfl rfl rfl (fun _ _ h => h) ?_ (fun _ _ _ => rfl) ?_
          · intro l u W _ hu
            have hu : u = .bool (false) := hu
            exact want_f hu
          intro hc l a W H
          have e40 : a.eval (.tmp 40) = .pointer (some ⟨gv, ov + j * 5, none⟩) := by
            have e : a.eval (.tmp 40) = if (!(false)) = true then .pointer (some ⟨gv, ov + j * 5, none⟩) else undef := H.facts 40 rfl
            rw [if_pos hc] at e
            exact e
          (simp only [execOp]; try simp only [Option.map]); (try simp only [List.map_toArray, List.map_cons, List.map_nil]); (simp only [e40]; go_simp)
        · refine asked_guard (c := (!(false))) (v := .slice bi is.length di) rfl rfl rfl rfl (fun _ _ h => h) ?_ (fun _ _ _ => rfl) ?_
          · intro l u W _ hu
            have hu : u = .bool (false) := hu
            exact want_f hu
          intro hc l a W H
          have e41 : a.eval (.tmp 41) = .pointer (some ⟨gv, ov + j * 5, none⟩) := by
            have e : a.eval (.tmp 41) = if (!(false)) = true then .pointer (some ⟨gv, ov + j * 5, none⟩) else undef := H.facts 41 rfl
            rw [if_pos hc] at e
            exact e
          have d0 := cell_below H.s d0
          (simp only [execOp]; try simp only [Option.map]); (try simp only [List.map_toArray, List.map_cons, List.map_nil]); (simp only [e41]; go_simp)
        · refine asked_guard (c := (!(false))) (v := .int .i64 (is.length : Nat)) rfl rfl rfl rfl (fun _ _ h => h) ?_ (fun _ _ _ => rfl) ?_
          · intro l u W _ hu
            have hu : u = .bool (false) := hu
            exact want_f hu
          intro hc l a W H
          have e42 : a.eval (.tmp 42) = .slice bi is.length di := by
            have e : a.eval (.tmp 42) = if (!(false)) = true then .slice bi is.length di else undef := H.facts 42 rfl
            rw [if_pos hc] at e
            exact e
          exact run_len rfl e42 Try.underlying38
        · refine asked_guard (c := (!(false))) (v := .bool (false)) rfl rfl rfl rfl (fun _ _ h => h) ?_ (fun _ _ _ => rfl) ?_
          · intro l u W _ hu
            have hu : u = .bool (false) := hu
            exact want_f hu
          intro hc l a W H
          have e37 : a.eval (.tmp 37) = .int .i64 (is.length : Nat) := by
            have e : a.eval (.tmp 37) = if (!(false)) = true then .int .i64 (is.length : Nat) else undef := H.facts 37 rfl
            rw [if_pos hc] at e
            exact e
          have e43 : a.eval (.tmp 43) = .int .i64 (is.length : Nat) := by
            have e : a.eval (.tmp 43) = if (!(false)) = true then .int .i64 (is.length : Nat) else undef := H.facts 43 rfl
            rw [if_pos hc] at e
            exact e
          (simp only [execOp]; try simp only [Option.map]); (try simp only [List.map_toArray, List.map_cons, List.map_nil]); (simp only [e37, e43]; go_simp)
        · refine asked_pure rfl rfl (fun _ _ h => h) (fun _ _ _ => rfl) (fun l a W H => ?_)
          have e31 : a.eval (.tmp 31) = .bool (false) := H.facts 31 rfl
          exact run_pick_or rfl e31 (fun hb => by
            have hc : (!(false)) = true := by simp_all
            have e44 : a.eval (.tmp 44) = .bool (false) := by
              have e : a.eval (.tmp 44) = if (!(false)) = true then .bool (false) else undef := H.facts 44 rfl
              rw [if_pos hc] at e
              exact e
            exact e44)
      · intro l s W _ hS hs
        have h45 : s 45 = .bool false := hs 45 rfl
        have c0 := cell_below hS c0
        have d0 := cell_below hS d0
        have C0 := hide c0
        have D0 := hide d0
        have HI := hide (HI0.out.below hS)
        have HJ := hide (HJ0.out.below hS)
        have HBW := hide (bel_of HBr.out hS)
        clear c1 c2 c3 c4 d1 d2 d3 d4
        clear hs hS
        simp [overlay, dstsOf, h45]
        go_wp2_with fail
        go_loopw [6] (fun kv wr => ∃ k : Nat, k ≤ is.length ∧ kv = .int .i64 k ∧ Below W.heap.size W wr) (fun kv _ => is.length - (intOf kv).toNat)
        case atStart => exact ⟨0, by omega, rfl, Below.refl _ _⟩
        case round =>
          rename World => ws
          obtain ⟨k, hk, rfl, hBs⟩ := hrel
          have c0 := cell_below hBs C0.out
          have d0 := cell_below hBs D0.out
          by_cases hltk : k < is.length
          · obtain ⟨gi, oi, rfl, uu, hac, huu⟩ := SlV.at (HI.out.below hBs) k hltk
            obtain ⟨gj, oj, rfl, vv, hbc, hvv⟩ := SlV.at (HJ.out.below hBs) k hltk
            have hal := HSM.out _ (getD_memI4 k hltk)
            generalize is.getD k Ins.zero = i at *
            obtain ⟨au, cu, rfl⟩ := huu.slice
            obtain ⟨av, cv2, rfl⟩ := hvv.slice
            obtain ⟨p0, p1, p2, p3, p4, p5, p6⟩ := hac
            obtain ⟨q0, q1, q2, q3, q4, q5, q6⟩ := hbc
            have hltk' : (k : Int) < (is.length : Int) := by omega
            have HUU := hide huu
            have HVV := hide hvv
            clear huu hvv
            go_wp2_with fail
            have c0a := fun o => cell_below (bel1 ws o) c0
            have c0b := fun o o' => cell_below (bel2 ws o o') c0
            have d0a := fun o => cell_below (bel1 ws o) d0
            have d0b := fun o o' => cell_below (bel2 ws o o') d0
            have p0a := fun o => cell_below (bel1 ws o) p0
            have p0b := fun o o' => cell_below (bel2 ws o o') p0
            have p1a := fun o => cell_below (bel1 ws o) p1
            have p1b := fun o o' => cell_below (bel2 ws o o') p1
            have p2a := fun o => cell_below (bel1 ws o) p2
            have p2b := fun o o' => cell_below (bel2 ws o o') p2
            have p3a := fun o => cell_below (bel1 ws o) p3
            have p3b := fun o o' => cell_below (bel2 ws o o') p3
            have p4a := fun o => cell_below (bel1 ws o) p4
            have p4b := fun o o' => cell_below (bel2 ws o o') p4
            have p5a := fun o => cell_below (bel1 ws o) p5
            have p5b := fun o o' => cell_below (bel2 ws o o') p5
            have p6a := fun o => cell_below (bel1 ws o) p6
            have p6b := fun o o' => cell_below (bel2 ws o o') p6
            have q0a := fun o => cell_below (bel1 ws o) q0
            have q0b := fun o o' => cell_below (bel2 ws o o') q0
            have q1a := fun o => cell_below (bel1 ws o) q1
            have q1b := fun o o' => cell_below (bel2 ws o o') q1
            have q2a := fun o => cell_below (bel1 ws o) q2
            have q2b := fun o o' => cell_below (bel2 ws o o') q2
            have q3a := fun o => cell_below (bel1 ws o) q3
            have q3b := fun o o' => cell_below (bel2 ws o o') q3
            have q4a := fun o => cell_below (bel1 ws o) q4
            have q4b := fun o o' => cell_below (bel2 ws o o') q4
            have q5a := fun o => cell_below (bel1 ws o) q5
            have q5b := fun o o' => cell_below (bel2 ws o o') q5
            have q6a := fun o => cell_below (bel1 ws o) q6
            have q6b := fun o o' => cell_below (bel2 ws o o') q6
            go_region
            all_goals
              clear c0 c0a c0b d0 d0a d0b p0 p0a p0b p1 p1a p1b p2 p2a p2b p3 p3a p3b p4 p4a p4b p5 p5a p5b p6 p6a p6b q0 q0a q0b q1 q1a q1b q2 q2a q2b q3 q3a q3b q4 q4a q4b q5 q5a q5b q6 q6a q6b
              go_wp2_with fail
              refine (sameInts_any _ _ i.args _ (HUU.out.below ((bel2 ws _ _).drew)) (HVV.out.below ((bel2 ws _ _).drew)) (by omega)).mono ?_
              rintro r w3 ⟨rfl, hB3⟩
              have hBf := bel_of hBs (bel_of ((bel2 ws _ _).drew) hB3)
              clear hB3 hBs
              go_wp2_with fail
              go_roundw
              case rel => exact ⟨k + 1, by omega, by go_num, hBf⟩
              case measure => simp [intOf]; omega
          · obtain rfl : k = is.length := by omega
            have hBf := bel_of HBW.out hBs
            go_wp2_with fail
            go_roundw
            case rel => exact ⟨j + 1, by omega, by go_num, hBf⟩
            case measure => simp [intOf]; omega
    · obtain rfl : j = bs.length := by omega
      go_wp2_with fail
      go_ret
      exact ⟨rfl, hBr⟩
end Go.Proofs.Ytbjnhicikkjadab
namespace Go.Proofs.Ytbjnhicikkjadab
open Go.RowKit Ir
set_option maxHeartbeats 2000000 in
set_option maxRecDepth 100000 in
theorem sameFuncs_any (M : Fun) (u v : Value) (w : World) (hu : BlksV w u M.bs) (hv : BlksV w v M.bs) (hsm : ∀ b ∈ M.bs, ∀ i ∈ b.ins, i.args.length ≤ 1000000000) :
    Calls Try.prog 7 #[.agg #[.int .i64 M.p, .int .i64 M.v, u], .agg #[.int .i64 M.p, .int .i64 M.v, v]] w fun r w' => r = .returned (.bool true) ∧ Below w.heap.size w w' := by
  obtain ⟨ua, ca, rfl⟩ := hu.slice
  obtain ⟨va, cv, rfl⟩ := hv.slice
  have hB := bel2 w (.cells #[.int .i64 M.p, .int .i64 M.v, .slice ua M.bs.length ca] 28) (.cells #[.int .i64 M.p, .int .i64 M.v, .slice va M.bs.length cv] 28)
  have hC := hide (sameBlocks_any _ _ M.bs _ (hu.below hB) (hv.below hB) hsm)
  have HB := hide hB
  clear hu hv hsm hB
  go_enter Try.func7, Try.ntmps7
  go_wp2_with fail
  refine hC.out.mono ?_
  rintro r w1 ⟨rfl, hB1⟩
  have hBf := bel_of HB.out hB1
  clear hC HB hB1
  go_wp2_with fail
  go_ret
  exact ⟨rfl, hBf⟩
end Go.Proofs.Ytbjnhicikkjadab
