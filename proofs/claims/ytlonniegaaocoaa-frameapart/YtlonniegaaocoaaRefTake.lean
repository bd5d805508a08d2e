/- The document's Take: the same answer. -/
import Derived.Test.YtlonniegaaocoaaTake
import Derived.Test.YtlonniegaaocoaaRefLay
import Derived.Test.YtlonniegaaocoaaRefNum
namespace Go.Proofs.Ytlonniegaaocoaa
open Go.RowKit

section
variable {a : Act} {w : World} {o : Oper}
/-- 'string(x)' of bytes. -/
theorem run_conv {x : Operand} {v : Value} {xs : List Int} (hop : o.op = .convert 22 9 x) (e : a.eval x = v) (h : Byt w v xs) :
    (execOp a.eval o).run Try.prog w = .ok (.value (.string (strOfNums xs))) w := by
  have hc := h.str 22 5 9 Try.underlying22 Try.underlying5 Try.underlying9
  unfold execOp
  rw [hop]
  simp only [e]
  simp [hc, Result.andThen]
theorem run_neqS {x y : Operand} {l m : List Int} {t : TypeId} (hop : o.op = .binOp .neq 9 x y t) (e : a.eval x = .string (strOfNums l)) (ey : a.eval y = .string (strOfNums m)) (hl : Frm.Bts l) (hm : Frm.Bts m) :
    (execOp a.eval o).run Try.prog w = .ok (.value (.bool (decide (l ≠ m)))) w := by
  have hd : (decide (l ≠ m)) = !((strOfNums l).toList == (strOfNums m).toList) := by rw [str_beq hl hm]; simp
  unfold execOp
  rw [hop]
  simp only [e, ey]
  rw [hd]
  go_simp
theorem run_add4 {x : Operand} {n : Nat} {t : TypeId} (hop : o.op = .binOp .add 3 x (.const (.int .i64 4)) t) (e : a.eval x = .int .i64 n) (hn : n ≤ 1000000000) :
    (execOp a.eval o).run Try.prog w = .ok (.value (.int .i64 (n + 4 : Nat))) w := by
  unfold execOp
  rw [hop]
  simp only [e]
  go_simp
  simp [IntKind.wrap, IntKind.bits, IntKind.signed]
  omega
end

theorem Byt.inBlock {w : World} {v : Value} {ys : List Int} (h : Byt w v ys) (g : Nat) (hg : g < w.heap.size) : ∃ b, b < w.heap.size ∧ BytAt b w v ys := by
  obtain ⟨b, h⟩ := h
  by_cases h0 : 0 < ys.length
  · exact ⟨b, h.lt h0, h⟩
  · obtain ⟨h1, ao, cap, h2, h3, h4, h5, h6⟩ := h
    exact ⟨g, hg, h1, ao, cap, h2, h3, h4, h5, fun hp => absurd hp h0⟩

set_option maxHeartbeats 400000 in
set_option maxRecDepth 100000 in
theorem refTake_short (B : Nat) (v : Value) (xs : List Int) (w : World) (hv : Byt w v xs) (h : xs.length < 2) : Calls Try.prog 13 #[v] w (TookS B w xs) := by
  have hT := Frm.tk_short h
  obtain ⟨ao, cap, rfl⟩ := hv.slice
  clear hv
  have HT := hide hT
  clear hT
  go_enter Try.func13, Try.ntmps13
  go_wp2_with fail
  refine bodyPost_ret (v := .tuple #[.int .u8 0, .slice none 0 0, .int .i64 0, .int .i64 3]) (by simp [results, Try.results13, go_sem]) rfl ?_
  exact TookS.fault HT.out (Below.refl _ _)

set_option maxHeartbeats 400000 in
set_option maxRecDepth 100000 in
theorem refTake_magic (B : Nat) (v : Value) (xs : List Int) (w : World) (hv : Byt w v xs) (h : ¬ xs.length < 2) (h1 : xs.getD 0 0 ≠ 111) : Calls Try.prog 13 #[v] w (TookS B w xs) := by
  have HT := hide (Frm.tk_magic h h1)
  obtain ⟨b, off, cap, rfl, hlc, hcm, _⟩ := hv.head (by omega)
  have hc := hv.cellAt 0 (by omega)
  rw [Nat.add_zero] at hc
  have hl : (2 : Int) ≤ (xs.length : Int) := by omega
  have hb : (xs.getD 0 0 == 111) = false := by simpa using h1
  generalize xs.getD 0 0 = c at *
  clear hv h1
  go_enter Try.func13, Try.ntmps13
  go_wp2_with fail
  refine bodyPost_ret (v := .tuple #[.int .u8 0, .slice none 0 0, .int .i64 0, .int .i64 7]) (by simp [results, Try.results13, go_sem]) rfl ?_
  exact TookS.fault HT.out (Below.refl _ _)

set_option maxHeartbeats 1000000 in
set_option maxRecDepth 100000 in
theorem refTake_bad (B : Nat) (v : Value) (xs : List Int) (w : World) (hv : Byt w v xs) (h : ¬ xs.length < 2) (h1 : ¬ xs.getD 0 0 ≠ 111) (hc : Frm.lc xs ≠ 0 ∨ 65536 < Frm.ln xs) : Calls Try.prog 13 #[v] w (TookS B w xs) := by
  have HTN := hide (Frm.tk_num h h1)
  have HTL := hide (Frm.tk_long h h1)
  have HC := hide hc
  obtain ⟨b, off, cap, rfl, hlc, hcm, hbw⟩ := hv.head (by omega)
  have hcl := hv.cellAt 0 (by omega)
  have h1' : xs.getD 0 0 = 111 := by simpa using h1
  rw [Nat.add_zero, h1'] at hcl
  have hl : (2 : Int) ≤ (xs.length : Int) := by omega
  obtain ⟨m, hm⟩ : ∃ m, m = min xs.length 12 := ⟨_, rfl⟩
  have hcut := hv.cut (i := 2) (j := m) (by omega) (by omega)
  have hrun : ∀ W, (Instr.sliceAt 22 (.slice (some ⟨b, off, none⟩) xs.length cap) (some (.int .i64 2)) (some (.int .i64 (m : Int))) none).run Try.prog W = .ok (cutV (some ⟨b, off, none⟩) cap 2 m) W := fun W => run_lh (i := 2) (j := m) (by omega) (by omega) W
  rw [hm, front_cut] at hcut
  rw [← hm] at hcut
  generalize cutV (some ⟨b, off, none⟩) cap 2 m = u at *
  obtain ⟨g, hg, hba⟩ := hcut.inBlock b hbw
  obtain ⟨a', c', rfl⟩ := hcut.slice
  have hR := RdrAt.new (t := 55) (code := 0) hba hg
  have hB := (Below.refl w.heap.size w).alloc (Nat.le_refl _) (.cells #[.slice a' (Frm.front xs).length c', .int .i64 0] 55)
  have eA : Hid (Leb.numA (Frm.front xs) 0 = Frm.ln xs) := rfl
  have eC : Hid (Leb.numC (Frm.front xs) 0 = Frm.lc xs) := rfl
  have hN := hide (refNum_any _ _ _ _ _ hR)
  have HB := hide hB
  have hm12 : (12 < xs.length ∧ m = 12) ∨ (xs.length ≤ 12 ∧ m = xs.length) := by omega
  clear hcut hm hc hv hba h1 h1' hR hB
  rcases hm12 with ⟨h12, rfl⟩ | ⟨h12, rfl⟩
  · have hrun : ∀ W, (Instr.sliceAt 22 (.slice (some ⟨b, off, none⟩) xs.length cap) (some (.int .i64 2)) (some (.int .i64 12)) none).run Try.prog W = .ok (.slice a' (Frm.front xs).length c') W := hrun
    go_enter Try.func13, Try.ntmps13
    go_wp2_with fail
    refine hN.out.mono ?_
    rintro e w2 ⟨rfl, hR2, hG2⟩
    have hB2 : Below w.heap.size w w2 := HB.out.grown hG2 HB.out.size (fun k hk => by simp at hk; omega)
    rw [eA.out]
    rw [eC.out] at hR2
    obtain ⟨v2, r1, r2, r3, r4, r5, r6⟩ := hR2
    clear hN hG2 hcl r5 HB
    by_cases hlc0 : Frm.lc xs = 0
    · have hln : (65536 : Int) < (Frm.ln xs : Int) := by
        rcases HC.out with h | h
        · exact absurd hlc0 h
        · omega
      have HT := hide (HTL.out (by simp [hlc0]) (by omega))
      rw [hlc0] at r2
      clear hlc0
      go_wp2_with fail
      refine bodyPost_ret (v := .tuple #[.int .u8 0, .slice none 0 0, .int .i64 0, .int .i64 4]) (by simp [results, Try.results13, go_sem]) rfl ?_
      exact TookS.fault HT.out hB2
    · have HT := hide (HTN.out hlc0)
      have hbf : (Frm.lc xs == 0) = false := by simp [hlc0]
      clear hlc0
      generalize Frm.lc xs = c at *
      go_wp2_with fail
      go_region
      go_wp2_with fail
      refine bodyPost_ret (v := .tuple #[.int .u8 0, .slice none 0 0, .int .i64 0, .int .i64 c]) (by simp [results, Try.results13, go_sem]) rfl ?_
      exact TookS.fault HT.out hB2.drew
  · go_enter Try.func13, Try.ntmps13
    go_wp2_with fail
    refine hN.out.mono ?_
    rintro e w2 ⟨rfl, hR2, hG2⟩
    have hB2 : Below w.heap.size w w2 := HB.out.grown hG2 HB.out.size (fun k hk => by simp at hk; omega)
    rw [eA.out]
    rw [eC.out] at hR2
    obtain ⟨v2, r1, r2, r3, r4, r5, r6⟩ := hR2
    clear hN hG2 hcl r5 HB
    by_cases hlc0 : Frm.lc xs = 0
    · have hln : (65536 : Int) < (Frm.ln xs : Int) := by
        rcases HC.out with h | h
        · exact absurd hlc0 h
        · omega
      have HT := hide (HTL.out (by simp [hlc0]) (by omega))
      rw [hlc0] at r2
      clear hlc0
      go_wp2_with fail
      refine bodyPost_ret (v := .tuple #[.int .u8 0, .slice none 0 0, .int .i64 0, .int .i64 4]) (by simp [results, Try.results13, go_sem]) rfl ?_
      exact TookS.fault HT.out hB2
    · have HT := hide (HTN.out hlc0)
      have hbf : (Frm.lc xs == 0) = false := by simp [hlc0]
      clear hlc0
      generalize Frm.lc xs = c at *
      go_wp2_with fail
      go_region
      go_wp2_with fail
      refine bodyPost_ret (v := .tuple #[.int .u8 0, .slice none 0 0, .int .i64 0, .int .i64 c]) (by simp [results, Try.results13, go_sem]) rfl ?_
      exact TookS.fault HT.out hB2.drew

/-- What is known of each temporary that the comparison of the sums writes, once it is written. -/
def Gr (b off len cap at0 : Nat) (k : Int) (sm ck : List Int) (u u4 : Value) (bad : Bool) : Tmp → Value → World → Prop
  | 64, v, _ => v = .slice (some ⟨b, off, none⟩) len cap
  | 65, v, _ => v = .pointer (some ⟨b, off + 1, none⟩)
  | 66, v, _ => v = .int .u8 k
  | 67, v, _ => v = u
  | 68, v, w => Byt w v ck
  | 69, v, _ => v = .string (strOfNums ck)
  | 70, v, _ => v = .slice (some ⟨b, off, none⟩) len cap
  | 71, v, _ => v = .int .i64 (at0 : Nat)
  | 72, v, _ => v = .int .i64 (at0 : Nat)
  | 73, v, _ => v = .int .i64 (at0 + 4 : Nat)
  | 74, v, _ => v = u4
  | 75, v, _ => v = .string (strOfNums sm)
  | 76, v, _ => v = .bool bad
  | _, _, _ => True

theorem Gr_below {b off len cap at0 : Nat} {k : Int} {sm ck : List Int} {u u4 : Value} {bad : Bool} {d : Tmp} {x : Value} {W W' : World} (h : Gr b off len cap at0 k sm ck u u4 bad d x W) (hB : Below W.heap.size W W') : Gr b off len cap at0 k sm ck u u4 bad d x W' := by
  unfold Gr at *
  split
  all_goals
    first
      | exact h
      | exact h.below hB
      | trivial

theorem cutV_at {W : World} {b off cap i j : Nat} {ys : List Int} (h : Byt W (cutV (some ⟨b, off, none⟩) cap i j) ys) : BytAt b W (cutV (some ⟨b, off, none⟩) cap i j) ys := by
  unfold cutV at *
  split at h
  · rename_i h1
    rw [if_pos h1]
    exact h.atBlock
  · rename_i h1
    rw [if_neg h1]
    rw [Option.map_some, Addr.add_lit] at *
    exact h.atBlock

set_option maxHeartbeats 1000000 in
set_option maxRecDepth 100000 in
theorem refTake_cut (B : Nat) (v : Value) (xs : List Int) (w : World) (hv : Byt w v xs) (hx : xs.length ≤ 1000000000) (h : ¬ xs.length < 2) (h1 : ¬ xs.getD 0 0 ≠ 111) (h2 : ¬ Frm.lc xs ≠ 0) (h3 : ¬ 65536 < Frm.ln xs) (h4 : xs.length < 2 + Frm.ls xs + 4 + Frm.ln xs) : Calls Try.prog 13 #[v] w (TookS B w xs) := by
  have HT := hide (Frm.tk_cut h h1 h2 h3 h4)
  obtain ⟨b, off, cap, rfl, hlc, hcm, hbw⟩ := hv.head (by omega)
  have hcl := hv.cellAt 0 (by omega)
  have h1' : xs.getD 0 0 = 111 := by simpa using h1
  have h2' : Frm.lc xs = 0 := by simpa using h2
  rw [Nat.add_zero, h1'] at hcl
  have hl : (2 : Int) ≤ (xs.length : Int) := by omega
  obtain ⟨m, hm⟩ : ∃ m, m = min xs.length 12 := ⟨_, rfl⟩
  have hcut := hv.cut (i := 2) (j := m) (by omega) (by omega)
  have hrun : ∀ W, (Instr.sliceAt 22 (.slice (some ⟨b, off, none⟩) xs.length cap) (some (.int .i64 2)) (some (.int .i64 (m : Int))) none).run Try.prog W = .ok (cutV (some ⟨b, off, none⟩) cap 2 m) W := fun W => run_lh (i := 2) (j := m) (by omega) (by omega) W
  rw [hm, front_cut] at hcut
  rw [← hm] at hcut
  obtain ⟨uf, huf⟩ : ∃ uf, cutV (some ⟨b, off, none⟩) cap 2 m = uf := ⟨_, rfl⟩
  rw [huf] at hcut hrun
  obtain ⟨g, hg, hba⟩ := hcut.inBlock b hbw
  obtain ⟨a', c', rfl⟩ := hcut.slice
  have hR := RdrAt.new (t := 55) (code := 0) hba hg
  have hB := (Below.refl w.heap.size w).alloc (Nat.le_refl _) (.cells #[.slice a' (Frm.front xs).length c', .int .i64 0] 55)
  have eA : Hid (Leb.numA (Frm.front xs) 0 = Frm.ln xs) := rfl
  have eC : Hid (Leb.numC (Frm.front xs) 0 = 0) := h2'
  have eL : Hid (Leb.numL (Frm.front xs) 0 = (Frm.front xs).drop (Frm.ls xs)) := rfl
  have hN := hide (refNum_any _ _ _ _ _ hR)
  have HB := hide hB
  have hls := Frm.ls_le h2'
  have hfl := Frm.front_len xs
  have hln : Frm.ln xs ≤ 65536 := by omega
  have hat : 2 + Frm.ls xs ≤ 12 := by omega
  obtain ⟨rl, hrl⟩ : ∃ rl, rl = ((Frm.front xs).drop (Frm.ls xs)).length := ⟨_, rfl⟩
  have hrl' : rl = min 10 (xs.length - 2) - Frm.ls xs := by rw [hrl, List.length_drop, hfl]
  have hm12 : (12 < xs.length ∧ m = 12) ∨ (xs.length ≤ 12 ∧ m = xs.length) := by omega
  have hatm : (m : Int) - (rl : Int) = ((2 + Frm.ls xs : Nat) : Int) := by omega
  have hrl10 : rl ≤ 10 := by omega
  have HRL := hide hrl
  generalize 2 + Frm.ls xs = at0 at *
  generalize Frm.ln xs = n at *
  clear hcut hm hv hba h1 h1' h2 h2' h3 hR hB hls hfl hrl hrl' huf
  rcases hm12 with ⟨h12, rfl⟩ | ⟨h12, rfl⟩
  · have hrun : ∀ W, (Instr.sliceAt 22 (.slice (some ⟨b, off, none⟩) xs.length cap) (some (.int .i64 2)) (some (.int .i64 12)) none).run Try.prog W = .ok (.slice a' (Frm.front xs).length c') W := hrun
    have hatm : (12 : Int) - (rl : Int) = (at0 : Int) := hatm
    go_enter Try.func13, Try.ntmps13
    go_wp2_with fail
    refine hN.out.mono ?_
    rintro e w2 ⟨rfl, hR2, hG2⟩
    have hB2 : Below w.heap.size w w2 := HB.out.grown hG2 HB.out.size (fun k hk => by simp at hk; omega)
    rw [eA.out]
    rw [eC.out, eL.out] at hR2
    obtain ⟨v2, r1, r2, r3, r4, ⟨_, ao2, cap2, rfl, _⟩, r6⟩ := hR2
    rw [← HRL.out] at r1
    clear hN hG2 hcl HB HRL
    have hsz : (xs.length : Int) < 12 - (rl : Int) + 4 + (n : Int) := by omega
    go_wp2_with fail
    refine bodyPost_ret (v := .tuple #[.int .u8 0, .slice none 0 0, .int .i64 0, .int .i64 3]) (by simp [results, Try.results13, go_sem]) rfl ?_
    exact TookS.fault HT.out hB2
  · go_enter Try.func13, Try.ntmps13
    go_wp2_with fail
    refine hN.out.mono ?_
    rintro e w2 ⟨rfl, hR2, hG2⟩
    have hB2 : Below w.heap.size w w2 := HB.out.grown hG2 HB.out.size (fun k hk => by simp at hk; omega)
    rw [eA.out]
    rw [eC.out, eL.out] at hR2
    obtain ⟨v2, r1, r2, r3, r4, ⟨_, ao2, cap2, rfl, _⟩, r6⟩ := hR2
    rw [← HRL.out] at r1
    clear hN hG2 hcl HB HRL
    have hsz : (xs.length : Int) < (xs.length : Int) - (rl : Int) + 4 + (n : Int) := by omega
    go_wp2_with fail
    refine bodyPost_ret (v := .tuple #[.int .u8 0, .slice none 0 0, .int .i64 0, .int .i64 3]) (by simp [results, Try.results13, go_sem]) rfl ?_
    exact TookS.fault HT.out hB2

set_option maxHeartbeats 1000000 in
set_option maxRecDepth 100000 in
theorem refTake_end (B : Nat) (v : Value) (xs : List Int) (w : World) (hv : Byt w v xs) (hvB : ∀ b off n cap, v = .slice (some ⟨b, off, none⟩) n cap → b < B) (hx : xs.length ≤ 1000000000) (h : ¬ xs.length < 2) (h1 : ¬ xs.getD 0 0 ≠ 111) (h2 : ¬ Frm.lc xs ≠ 0) (h3 : ¬ 65536 < Frm.ln xs) (h4 : ¬ xs.length < 2 + Frm.ls xs + 4 + Frm.ln xs) : Calls Try.prog 13 #[v] w (TookS B w xs) := by
  have HTS := hide (Frm.tk_sum h h1 h2 h3 h4)
  have HTT := hide (Frm.tk_take h h1 h2 h3 h4)
  obtain ⟨b, off, cap, rfl, hlc, hcm, hbw⟩ := hv.head (by omega)
  have hcl := hv.cellAt 0 (by omega)
  have h1' : xs.getD 0 0 = 111 := by simpa using h1
  have h2' : Frm.lc xs = 0 := by simpa using h2
  rw [Nat.add_zero, h1'] at hcl
  have hl : (2 : Int) ≤ (xs.length : Int) := by omega
  obtain ⟨m, hm⟩ : ∃ m, m = min xs.length 12 := ⟨_, rfl⟩
  have hcut := hv.cut (i := 2) (j := m) (by omega) (by omega)
  have hrun : ∀ W, (Instr.sliceAt 22 (.slice (some ⟨b, off, none⟩) xs.length cap) (some (.int .i64 2)) (some (.int .i64 (m : Int))) none).run Try.prog W = .ok (cutV (some ⟨b, off, none⟩) cap 2 m) W := fun W => run_lh (i := 2) (j := m) (by omega) (by omega) W
  rw [hm, front_cut] at hcut
  rw [← hm] at hcut
  obtain ⟨uf, huf⟩ : ∃ uf, cutV (some ⟨b, off, none⟩) cap 2 m = uf := ⟨_, rfl⟩
  rw [huf] at hcut hrun
  obtain ⟨g, hg, hba⟩ := hcut.inBlock b hbw
  obtain ⟨a', c', rfl⟩ := hcut.slice
  have hR := RdrAt.new (t := 55) (code := 0) hba hg
  have hB := (Below.refl w.heap.size w).alloc (Nat.le_refl _) (.cells #[.slice a' (Frm.front xs).length c', .int .i64 0] 55)
  have eA : Hid (Leb.numA (Frm.front xs) 0 = Frm.ln xs) := rfl
  have eC : Hid (Leb.numC (Frm.front xs) 0 = 0) := h2'
  have eL : Hid (Leb.numL (Frm.front xs) 0 = (Frm.front xs).drop (Frm.ls xs)) := rfl
  have hN := hide (refNum_any _ _ _ _ _ hR)
  have HB := hide hB
  have hls := Frm.ls_le h2'
  have hfl := Frm.front_len xs
  have hln : Frm.ln xs ≤ 65536 := by omega
  have hat : 2 + Frm.ls xs ≤ 12 := by omega
  obtain ⟨rl, hrl⟩ : ∃ rl, rl = ((Frm.front xs).drop (Frm.ls xs)).length := ⟨_, rfl⟩
  have hrl' : rl = min 10 (xs.length - 2) - Frm.ls xs := by rw [hrl, List.length_drop, hfl]
  have hm12 : (12 < xs.length ∧ m = 12) ∨ (xs.length ≤ 12 ∧ m = xs.length) := by omega
  have hatm : (m : Int) - (rl : Int) = ((2 + Frm.ls xs : Nat) : Int) := by omega
  have hrl10 : rl ≤ 10 := by omega
  have HRL := hide hrl
  have HV := hide hv
  have hk := hv.bytes (xs.getD 1 0) (by
    have : 1 < xs.length := by omega
    simp [List.getElem?_eq_getElem this])
  have hk0 := hk.1
  have hk1 := hk.2
  have hbl := Frm.bd_len h4
  have hbod : ∀ W : World, Byt W (.slice (some ⟨b, off, none⟩) xs.length cap) xs → Byt W (cutV (some ⟨b, off, none⟩) cap (2 + Frm.ls xs + 4) (2 + Frm.ls xs + 4 + Frm.ln xs)) (Frm.bd xs) := by
    intro W hW
    have := hW.cut (i := 2 + Frm.ls xs + 4) (j := 2 + Frm.ls xs + 4 + Frm.ln xs) (by omega) (by omega)
    rwa [show 2 + Frm.ls xs + 4 + Frm.ln xs - (2 + Frm.ls xs + 4) = Frm.ln xs from by omega] at this
  have hsm4 : ∀ W : World, Byt W (.slice (some ⟨b, off, none⟩) xs.length cap) xs → Byt W (cutV (some ⟨b, off, none⟩) cap (2 + Frm.ls xs) (2 + Frm.ls xs + 4)) (Frm.sm xs) := by
    intro W hW
    have := hW.cut (i := 2 + Frm.ls xs) (j := 2 + Frm.ls xs + 4) (by omega) (by omega)
    rwa [show 2 + Frm.ls xs + 4 - (2 + Frm.ls xs) = 4 from by omega] at this
  have hbB := hide (hvB b off xs.length cap rfl)
  clear hvB
  have hcell1 : ∀ W : World, Byt W (.slice (some ⟨b, off, none⟩) xs.length cap) xs → W.cell? ⟨b, off + 1, none⟩ = some (.int .u8 (xs.getD 1 0)) := fun W hW => hW.cellAt 1 (by omega)
  have hsmb : Frm.Bts (Frm.sm xs) := (hsm4 w hv).bytes
  have hckb : Frm.Bts (Frm.chk (xs.getD 1 0) (Frm.bd xs)) := Frm.chk_bts _ _
  have hsz0 : 2 + Frm.ls xs + 4 + Frm.ln xs ≤ xs.length := by omega
  generalize 2 + Frm.ls xs = at0 at *
  generalize Frm.ln xs = n at *
  generalize xs.getD 1 0 = k at *
  generalize hsm : Frm.sm xs = sm at *
  obtain ⟨bd, hbd⟩ : ∃ bd, bd = Frm.bd xs := ⟨_, rfl⟩
  rw [← hbd] at hbl hbod HTS HTT hckb
  obtain ⟨ck, hck⟩ : ∃ ck, ck = Frm.chk k bd := ⟨_, rfl⟩
  rw [← hck] at HTS HTT hckb
  obtain ⟨u, hcutu⟩ : ∃ u, cutV (some ⟨b, off, none⟩) cap (at0 + 4) (at0 + 4 + n) = u := ⟨_, rfl⟩
  rw [hcutu] at hbod
  obtain ⟨u4, hcut4⟩ : ∃ u4, cutV (some ⟨b, off, none⟩) cap at0 (at0 + 4) = u4 := ⟨_, rfl⟩
  rw [hcut4] at hsm4
  obtain ⟨bad, hbad⟩ : ∃ bad : Bool, bad = decide (ck ≠ sm) := ⟨_, rfl⟩
  have HC1 := hide hcell1
  have HBO := hide hbod
  have HS4 := hide hsm4
  have HCU := hide hcutu
  have HC4 := hide hcut4
  have HBAD := hide hbad
  have HCK := hide hck
  have HCKB := hide hckb
  have HSMB := hide hsmb
  clear hcell1 hbod hsm4 hcutu hcut4 hbad hck hv hsm hbd hk hckb hsmb huf
  clear hcut hm hba h1 h1' h2 h2' h3 h4 hR hB hls hfl hrl hrl'
  rcases hm12 with ⟨h12, rfl⟩ | ⟨h12, rfl⟩
  · have hrun : ∀ W, (Instr.sliceAt 22 (.slice (some ⟨b, off, none⟩) xs.length cap) (some (.int .i64 2)) (some (.int .i64 12)) none).run Try.prog W = .ok (.slice a' (Frm.front xs).length c') W := hrun
    have hatm : (12 : Int) - (rl : Int) = (at0 : Int) := hatm
    go_enter Try.func13, Try.ntmps13
    go_wp2_with fail
    refine hN.out.mono ?_
    rintro e w2 ⟨rfl, hR2, hG2⟩
    have hB2 : Below w.heap.size w w2 := HB.out.grown hG2 HB.out.size (fun k hk => by simp at hk; omega)
    rw [eA.out]
    rw [eC.out, eL.out] at hR2
    obtain ⟨v2, r1, r2, r3, r4, ⟨_, ao2, cap2, rfl, _⟩, r6⟩ := hR2
    rw [← HRL.out] at r1
    clear hN hG2 hcl HB HRL
    have hsz : (at0 : Int) + 4 + (n : Int) ≤ (xs.length : Int) := by omega
    have hrunb : ∀ W, (Instr.sliceAt 22 (.slice (some ⟨b, off, none⟩) xs.length cap) (some (.int .i64 ((at0 : Int) + 4))) (some (.int .i64 ((at0 : Int) + 4 + (n : Int)))) none).run Try.prog W = .ok u W := by
      intro W
      have := run_lh (ao := some ⟨b, off, none⟩) (n := xs.length) (cap := cap) (i := at0 + 4) (j := at0 + 4 + n) (by omega) (by omega) W
      rw [HCU.out] at this
      exact this
    have hS0 : Byt w2.drew (.slice (some ⟨b, off, none⟩) xs.length cap) xs ∧ Below w.heap.size w w2.drew := ⟨(HV.out.below hB2).drew, hB2.drew⟩
    go_wp2_with fail
    have hcell1 := HC1.out
    have hbody := HBO.out
    have hsum4 := HS4.out
    have hcut4 := HC4.out
    have hbad := HBAD.out
    have hckb := HCKB.out
    have hsmb := HSMB.out
    refine wp_region_each (by kernel_rfl) (Gr b off xs.length cap at0 k sm ck u u4 bad) (fun W => Byt W (.slice (some ⟨b, off, none⟩) xs.length cap) xs ∧ Below w.heap.size w W) (by kernel_rfl) (by repeat' (first | exact trivial | constructor)) hS0 ?_ ?_
    · have hck := HCK.out
      subst hck
      refine And.intro ?_ (And.intro ?_ (And.intro ?_ (And.intro ?_ (And.intro ?_ (And.intro ?_ (And.intro ?_ (And.intro ?_ (And.intro ?_ (And.intro ?_ (And.intro ?_ (And.intro ?_ (And.intro ?_ trivial))))))))))))
      · exact asked_pure rfl (fun _ _ => rfl) (fun a w _ hb _ => run_move rfl (hb 0 rfl))
      · refine asked_pure rfl (fun _ _ => rfl) (fun a w hS hb hd => ?_)
        have e64 : a.eval (.tmp 64) = .slice (some ⟨b, off, none⟩) xs.length cap := hd 64 rfl
        clear hS hb hd
        (simp only [execOp]; try simp only [Option.map]); (try simp only [List.map_toArray, List.map_cons, List.map_nil]); (simp only [e64]; go_simp)
        intro hlt
        omega
      · refine asked_pure rfl (fun _ _ => rfl) (fun a w hS hb hd => ?_)
        have e65 : a.eval (.tmp 65) = .pointer (some ⟨b, off + 1, none⟩) := hd 65 rfl
        have hc1 := hcell1 w hS.1
        clear hS hb hd
        (simp only [execOp]; try simp only [Option.map]); (try simp only [List.map_toArray, List.map_cons, List.map_nil]); (simp only [e65]; go_simp)
      · exact asked_pure rfl (fun _ _ => rfl) (fun a w _ hb _ => run_move rfl (hb 10 rfl))
      · refine asked_call Try.func20 (by kernel_rfl) (by kernel_rfl) rfl rfl (fun a w hS _ hd => ?_)
        have e66 : a.eval (.tmp 66) = .int .u8 k := hd 66 rfl
        have e67 : a.eval (.tmp 67) = u := hd 67 rfl
        have ea : (#[.tmp 66, .tmp 67] : Array Operand).map a.eval = #[.int .u8 k, u] := by simp [e66, e67]
        rw [ea]
        refine (refCheck_any k u _ w hk0 hk1 (hbody w hS.1) (by omega)).mono ?_
        rintro e w' ⟨v', rfl, hck, hB⟩
        exact ⟨_, rfl, hck, ⟨hS.1.below hB, bel_of hS.2 hB⟩, fun _ _ h => Gr_below h hB⟩
      · exact asked_pure rfl (fun _ _ => rfl) (fun a w _ _ hd => run_conv rfl rfl (hd 68 rfl))
      · exact asked_pure rfl (fun _ _ => rfl) (fun a w _ hb _ => run_move rfl (hb 0 rfl))
      · exact asked_pure rfl (fun _ _ => rfl) (fun a w _ hb _ => run_move rfl (hb 9 rfl))
      · exact asked_pure rfl (fun _ _ => rfl) (fun a w _ hb _ => run_move rfl (hb 9 rfl))
      · exact asked_pure rfl (fun _ _ => rfl) (fun a w _ _ hd => run_add4 rfl (hd 72 rfl) (by omega))
      · refine asked_pure rfl (fun _ _ => rfl) (fun a w _ _ hd => ?_)
        rw [← hcut4]
        exact run_cut rfl (hd 70 rfl) (hd 71 rfl) (hd 73 rfl) (by omega) (by omega)
      · refine asked_pure rfl (fun _ _ => rfl) (fun a w hS _ hd => ?_)
        have e74 : a.eval (.tmp 74) = u4 := hd 74 rfl
        exact run_conv rfl e74 (hsum4 w hS.1)
      · exact asked_pure rfl (fun _ _ => rfl) (fun a w _ _ hd => by rw [hbad]; exact run_neqS rfl (hd 69 rfl) (hd 75 rfl) hckb hsmb)
    · clear hcell1 hbody hsum4 hcut4 hbad hckb hsmb
      intro s W hW hs
      have h76 : s 76 = .bool bad := hs 76 rfl
      obtain ⟨hvW, hBW⟩ := hW
      clear hs hS0
      simp [overlay, dstsOf, h76]
      by_cases hne : sm ≠ ck
      · have eb : bad = true := by rw [HBAD.out]; exact decide_eq_true (fun e => hne e.symm)
        rw [eb]
        have HT := hide (HTS.out hne)
        clear eb hvW
        go_wp2_with fail
        refine bodyPost_ret (v := .tuple #[.int .u8 0, .slice none 0 0, .int .i64 0, .int .i64 6]) (by simp [results, Try.results13, go_sem]) rfl ?_
        exact TookS.fault HT.out hBW
      · have eb : bad = false := by rw [HBAD.out]; exact decide_eq_false (fun e => e (Classical.not_not.1 hne).symm)
        rw [eb]
        have HT := hide (HTT.out hne)
        have hbW := hide (HBO.out W hvW)
        have hc1 := HC1.out W hvW
        clear eb hvW
        go_wp2_with fail
        refine bodyPost_ret (v := .tuple #[.int .u8 k, u, .int .i64 ((at0 : Int) + 4 + (n : Int)), .int .i64 0]) (by simp [results, Try.results13, go_sem]) rfl ?_
        refine ⟨u, ?_, ?_, hBW⟩
        · rw [HT.out]
          rfl
        · rw [HT.out]
          exact ⟨b, HCU.out ▸ cutV_at (HCU.out ▸ hbW.out), fun _ => .inl hbB.out⟩
  · go_enter Try.func13, Try.ntmps13
    go_wp2_with fail
    refine hN.out.mono ?_
    rintro e w2 ⟨rfl, hR2, hG2⟩
    have hB2 : Below w.heap.size w w2 := HB.out.grown hG2 HB.out.size (fun k hk => by simp at hk; omega)
    rw [eA.out]
    rw [eC.out, eL.out] at hR2
    obtain ⟨v2, r1, r2, r3, r4, ⟨_, ao2, cap2, rfl, _⟩, r6⟩ := hR2
    rw [← HRL.out] at r1
    clear hN hG2 hcl HB HRL
    have hsz : (at0 : Int) + 4 + (n : Int) ≤ (xs.length : Int) := by omega
    have hrunb : ∀ W, (Instr.sliceAt 22 (.slice (some ⟨b, off, none⟩) xs.length cap) (some (.int .i64 ((at0 : Int) + 4))) (some (.int .i64 ((at0 : Int) + 4 + (n : Int)))) none).run Try.prog W = .ok u W := by
      intro W
      have := run_lh (ao := some ⟨b, off, none⟩) (n := xs.length) (cap := cap) (i := at0 + 4) (j := at0 + 4 + n) (by omega) (by omega) W
      rw [HCU.out] at this
      exact this
    have hS0 : Byt w2.drew (.slice (some ⟨b, off, none⟩) xs.length cap) xs ∧ Below w.heap.size w w2.drew := ⟨(HV.out.below hB2).drew, hB2.drew⟩
    go_wp2_with fail
    have hcell1 := HC1.out
    have hbody := HBO.out
    have hsum4 := HS4.out
    have hcut4 := HC4.out
    have hbad := HBAD.out
    have hckb := HCKB.out
    have hsmb := HSMB.out
    refine wp_region_each (by kernel_rfl) (Gr b off xs.length cap at0 k sm ck u u4 bad) (fun W => Byt W (.slice (some ⟨b, off, none⟩) xs.length cap) xs ∧ Below w.heap.size w W) (by kernel_rfl) (by repeat' (first | exact trivial | constructor)) hS0 ?_ ?_
    · have hck := HCK.out
      subst hck
      refine And.intro ?_ (And.intro ?_ (And.intro ?_ (And.intro ?_ (And.intro ?_ (And.intro ?_ (And.intro ?_ (And.intro ?_ (And.intro ?_ (And.intro ?_ (And.intro ?_ (And.intro ?_ (And.intro ?_ trivial))))))))))))
      · exact asked_pure rfl (fun _ _ => rfl) (fun a w _ hb _ => run_move rfl (hb 0 rfl))
      · refine asked_pure rfl (fun _ _ => rfl) (fun a w hS hb hd => ?_)
        have e64 : a.eval (.tmp 64) = .slice (some ⟨b, off, none⟩) xs.length cap := hd 64 rfl
        clear hS hb hd
        (simp only [execOp]; try simp only [Option.map]); (try simp only [List.map_toArray, List.map_cons, List.map_nil]); (simp only [e64]; go_simp)
        intro hlt
        omega
      · refine asked_pure rfl (fun _ _ => rfl) (fun a w hS hb hd => ?_)
        have e65 : a.eval (.tmp 65) = .pointer (some ⟨b, off + 1, none⟩) := hd 65 rfl
        have hc1 := hcell1 w hS.1
        clear hS hb hd
        (simp only [execOp]; try simp only [Option.map]); (try simp only [List.map_toArray, List.map_cons, List.map_nil]); (simp only [e65]; go_simp)
      · exact asked_pure rfl (fun _ _ => rfl) (fun a w _ hb _ => run_move rfl (hb 10 rfl))
      · refine asked_call Try.func20 (by kernel_rfl) (by kernel_rfl) rfl rfl (fun a w hS _ hd => ?_)
        have e66 : a.eval (.tmp 66) = .int .u8 k := hd 66 rfl
        have e67 : a.eval (.tmp 67) = u := hd 67 rfl
        have ea : (#[.tmp 66, .tmp 67] : Array Operand).map a.eval = #[.int .u8 k, u] := by simp [e66, e67]
        rw [ea]
        refine (refCheck_any k u _ w hk0 hk1 (hbody w hS.1) (by omega)).mono ?_
        rintro e w' ⟨v', rfl, hck, hB⟩
        exact ⟨_, rfl, hck, ⟨hS.1.below hB, bel_of hS.2 hB⟩, fun _ _ h => Gr_below h hB⟩
      · exact asked_pure rfl (fun _ _ => rfl) (fun a w _ _ hd => run_conv rfl rfl (hd 68 rfl))
      · exact asked_pure rfl (fun _ _ => rfl) (fun a w _ hb _ => run_move rfl (hb 0 rfl))
      · exact asked_pure rfl (fun _ _ => rfl) (fun a w _ hb _ => run_move rfl (hb 9 rfl))
      · exact asked_pure rfl (fun _ _ => rfl) (fun a w _ hb _ => run_move rfl (hb 9 rfl))
      · exact asked_pure rfl (fun _ _ => rfl) (fun a w _ _ hd => run_add4 rfl (hd 72 rfl) (by omega))
      · refine asked_pure rfl (fun _ _ => rfl) (fun a w _ _ hd => ?_)
        rw [← hcut4]
        exact run_cut rfl (hd 70 rfl) (hd 71 rfl) (hd 73 rfl) (by omega) (by omega)
      · refine asked_pure rfl (fun _ _ => rfl) (fun a w hS _ hd => ?_)
        have e74 : a.eval (.tmp 74) = u4 := hd 74 rfl
        exact run_conv rfl e74 (hsum4 w hS.1)
      · exact asked_pure rfl (fun _ _ => rfl) (fun a w _ _ hd => by rw [hbad]; exact run_neqS rfl (hd 69 rfl) (hd 75 rfl) hckb hsmb)
    · clear hcell1 hbody hsum4 hcut4 hbad hckb hsmb
      intro s W hW hs
      have h76 : s 76 = .bool bad := hs 76 rfl
      obtain ⟨hvW, hBW⟩ := hW
      clear hs hS0
      simp [overlay, dstsOf, h76]
      by_cases hne : sm ≠ ck
      · have eb : bad = true := by rw [HBAD.out]; exact decide_eq_true (fun e => hne e.symm)
        rw [eb]
        have HT := hide (HTS.out hne)
        clear eb hvW
        go_wp2_with fail
        refine bodyPost_ret (v := .tuple #[.int .u8 0, .slice none 0 0, .int .i64 0, .int .i64 6]) (by simp [results, Try.results13, go_sem]) rfl ?_
        exact TookS.fault HT.out hBW
      · have eb : bad = false := by rw [HBAD.out]; exact decide_eq_false (fun e => e (Classical.not_not.1 hne).symm)
        rw [eb]
        have HT := hide (HTT.out hne)
        have hbW := hide (HBO.out W hvW)
        have hc1 := HC1.out W hvW
        clear eb hvW
        go_wp2_with fail
        refine bodyPost_ret (v := .tuple #[.int .u8 k, u, .int .i64 ((at0 : Int) + 4 + (n : Int)), .int .i64 0]) (by simp [results, Try.results13, go_sem]) rfl ?_
        refine ⟨u, ?_, ?_, hBW⟩
        · rw [HT.out]
          rfl
        · rw [HT.out]
          exact ⟨b, HCU.out ▸ cutV_at (HCU.out ▸ hbW.out), fun _ => .inl hbB.out⟩

theorem refTakeS_any (B : Nat) (v : Value) (xs : List Int) (w : World) (hv : Byt w v xs) (hx : xs.length ≤ 1000000000) (hvB : ∀ b off n cap, v = .slice (some ⟨b, off, none⟩) n cap → b < B) : Calls Try.prog 13 #[v] w (TookS B w xs) := by
  by_cases h0 : xs.length < 2
  · exact refTake_short B v xs w hv h0
  by_cases h1 : xs.getD 0 0 ≠ 111
  · exact refTake_magic B v xs w hv h0 h1
  by_cases h2 : Frm.lc xs ≠ 0
  · exact refTake_bad B v xs w hv h0 h1 (.inl h2)
  by_cases h3 : 65536 < Frm.ln xs
  · exact refTake_bad B v xs w hv h0 h1 (.inr h3)
  by_cases h4 : xs.length < 2 + Frm.ls xs + 4 + Frm.ln xs
  · exact refTake_cut B v xs w hv hx h0 h1 h2 h3 h4
  · exact refTake_end B v xs w hv hvB hx h0 h1 h2 h3 h4

theorem refTake_any (v : Value) (xs : List Int) (w : World) (hv : Byt w v xs) (hx : xs.length ≤ 1000000000) : Calls Try.prog 13 #[v] w (Took w xs) := by
  obtain ⟨ao, cap, rfl⟩ := hv.slice
  refine (refTakeS_any ((ao.map (·.block)).getD 0 + 1) _ xs w hv hx ?_).mono fun _ _ h => h.took
  rintro b off n cap' e
  simp only [Value.slice.injEq] at e
  rw [e.1]
  simp
end Go.Proofs.Ytlonniegaaocoaa
