/- leb.Put, leb.PutInt, the document's Put and Zig: the bytes that were handed in and behind them the number's bytes, in new memory. -/
import Derived.Test.YtbjnhicikkjadabChecked
import Derived.Test.YtbjnhicikkjadabL0
namespace Go.Proofs.Ytbjnhicikkjadab.Lb
open Go.RowKit


theorem info5 : (Try.prog.info? 5).map (fun i => (i.zero, i.size, i.bytes)) = some (some (.int .u8 0), 1, 1) := by kernel_rfl
theorem size5 : (Try.prog.info? 5).map (·.size) = some 1 := by kernel_rfl

set_option maxHeartbeats 400000 in
set_option maxRecDepth 100000 in
theorem put_any (v : Value) (xs : List Int) (n : Nat) (w : World) (hv : Byt w v xs) (hx : xs.length ≤ 1000000000) (hn : Leb.Fits n) :
    Calls Try.prog 18 #[v, .int .u64 n] w fun e w' => ∃ v', e = .returned v' ∧ Byt w' v' (xs ++ Leb.enc n) ∧ Below w.heap.size w w' := by
  obtain ⟨b, hb0, ao, cap, rfl, hlc, hcm, hao, hcell⟩ := hv
  obtain ⟨i0, hi, hz0, hz1, hz2⟩ := info_parts info5
  unfold maxLen at hcm
  go_enter Try.func18, Try.ntmps18
  go_wp2_with (at_make; go_must (refine wpList_make_lc _ rfl (.tmp 7) (.tmp 10) 22 rfl 5 i0 Try.underlying22 hi hz0 hz1 .i64 .i64 _ _ xs.length (xs.length + 10) rfl rfl (by simp) (by simp) (by omega) (by rw [hz2]; omega) (by unfold maxLen; omega) ?_))
  intro w1 HG hB hz
  obtain ⟨X, hX⟩ : ∃ X, X = xs.map (Value.int .u8) := ⟨_, rfl⟩
  have hXl : X.length = xs.length := by rw [hX]; simp
  have HX := hide hX
  clear hX
  go_wp2_with (refine wpList_copy_splice rfl (.tmp 12) (.tmp 13) 22 22 rfl 5 Try.underlying22 size5 _ _ _ _ _ _ rfl rfl w.heap.size 0 (zrow (xs.length + 10)) 5 HG.out X ?_ ?_ ?_ ?_ w.heap.size w hB (Nat.le_refl _) ?_)
  · rw [hXl]; simp
  · intro hp
    obtain ⟨off, rfl, hc⟩ := hcell (by omega)
    refine ⟨_, rfl, fun j u hj => ?_⟩
    rw [HX.out] at hj
    have hjl : j < xs.length := by
      rcases Nat.lt_or_ge j xs.length with h | h
      · exact h
      · simp [List.getElem?_eq_none h] at hj
    have hlt : b < w.heap.size := World.block_lt_of_cell? w _ (hc 0 (by omega))
    rw [Addr.add_lit, hB.cell (p := ⟨b, off + j, none⟩) hlt, hc j hjl]
    simp [List.getElem?_eq_getElem hjl] at hj
    simp [hj, List.getElem?_eq_getElem hjl]
  · rw [zrow_length, hXl]; omega
  · intro u hu
    rw [HX.out] at hu
    obtain ⟨x, _, rfl⟩ := List.mem_map.1 hu
    rfl
  intro w2 HG2 hB2
  have hzw2 : w.heap.size < w2.heap.size := by
    have := (Array.getElem?_eq_some_iff.1 HG2.out).1
    exact this
  have hown0 := owns_of_splice (n := xs.length) (cap := xs.length + 10) HG2.out (Nat.le_refl _) hXl (by omega) (by unfold maxLen; omega)
  rw [HX.out] at hown0
  clear HG2 HG HX hXl hcell
  go_wp2_with fail
  go_loopw [1, 5] (fun nv ov wr => ∃ (m : Nat) (ys : List Int), Leb.Fits m ∧ nv = .int .u64 m ∧ Hid (ys ++ Leb.enc m = Leb.enc n) ∧
      wr.ownsRow w.heap.size 5 1 ov (xs.length + ys.length) ((xs ++ ys).map (Value.int .u8)) ∧ Below w.heap.size w wr ∧ w.heap.size < wr.heap.size) (fun nv _ _ => (intOf nv).toNat)
  case atStart => exact ⟨n, [], hn, rfl, rfl, by simpa using hown0, hB2, hzw2⟩
  case round =>
    obtain ⟨m, ys, hm, rfl, he, hown, hnx, hzr⟩ := hrel
    by_cases hge : 128 ≤ m
    · have hl : ys.length ≤ 10 := by have h1 := hn.len; rw [← he.out] at h1; simp at h1; omega
      go_wp2_with (at_builtin; go_must (refine wpList_append_own _ rfl (.tmp 17) (.tmp 21) 22 rfl w.heap.size 5 i0 (.int .u8 0) 1 1 Try.underlying22 hi hz0 hz1 hz2 rfl (by decide) _ _ _ rfl (hown.alloc _) ⟨wr.heap.size, 0, none⟩ 1 1 [.int .u8 ((m % 128 + 128 : Nat) : Int)] rfl rfl ?c1 ?c2 ?c3 ?c4 ?c5 ?_))
      case c1 =>
        intro j u hj
        match j, hj with
        | 0, hj => simp at hj; subst hj; simp [Addr.add, more_byte]
      case c2 => intro u hu; simp at hu; subst hu; rfl
      case c3 => unfold maxLen; omega
      case c4 => omega
      case c5 => simp; omega
      intro v' w3 hown' hgrow _
      have hR : w3.ownsRow w.heap.size 5 1 v' (xs.length + (ys ++ [((m % 128 + 128 : Nat) : Int)]).length) ((xs ++ (ys ++ [((m % 128 + 128 : Nat) : Int)])).map (Value.int .u8)) := by
        simpa [Nat.add_assoc] using hown'
      have hnx' : Below w.heap.size w w3 := (hnx.alloc (by omega) _).grown hgrow (by simp; omega) (fun k hk => (hown.lt k hk).1)
      have hz3 : w.heap.size < w3.heap.size := by have := hgrow.size; simp at this; omega
      clear hown' hgrow hown hnx hown0 hB2 hzw2 hB hzr
      go_wp2
      go_roundw
      case rel => exact ⟨m / 128, _, hm.down, by go_num, by show _ = _; rw [List.append_assoc, List.singleton_append, ← Leb.enc_ge hge]; exact he, hR, hnx', hz3⟩
      case measure => simp [intOf]; omega
    · have hl : ys.length ≤ 10 := by have h1 := hn.len; rw [← he.out] at h1; simp at h1; omega
      go_wp2_with (at_builtin; go_must (refine wpList_append_own _ rfl (.tmp 25) (.tmp 28) 22 rfl w.heap.size 5 i0 (.int .u8 0) 1 1 Try.underlying22 hi hz0 hz1 hz2 rfl (by decide) _ _ _ rfl (hown.alloc _) ⟨wr.heap.size, 0, none⟩ 1 1 [.int .u8 (m : Int)] rfl rfl ?d1 ?d2 ?d3 ?d4 ?d5 ?_))
      case d1 =>
        intro j u hj
        match j, hj with
        | 0, hj => simp at hj; subst hj; simp [Addr.add]
      case d2 => intro u hu; simp at hu; subst hu; rfl
      case d3 => unfold maxLen; omega
      case d4 => omega
      case d5 => simp; omega
      intro v' w3 hown' hgrow _
      have hR : Byt w3 v' (xs ++ Leb.enc n) := by
        rw [← he.out, Leb.enc_lt (by omega)]
        refine Byt.of_owns (base := w.heap.size) (n := xs.length + ys.length + 1) (by simpa [Nat.add_assoc] using hown') ?_
        intro x hx
        rcases List.mem_append.1 hx with h | h
        · exact hb0 x h
        · rcases List.mem_append.1 h with h | h
          · exact Leb.enc_byte n x (by rw [← he.out]; exact List.mem_append_left _ h)
          · simp at h; omega
      have hnx' : Below w.heap.size w w3 := (hnx.alloc (by omega) _).grown hgrow (by simp; omega) (fun k hk => (hown.lt k hk).1)
      clear hown' hgrow hown hnx hown0 hB2 hzw2 hB hzr
      go_wp2
      go_ret
      exact ⟨v', rfl, hR, hnx'⟩


set_option maxHeartbeats 400000 in
set_option maxRecDepth 100000 in
theorem putInt_neg (v : Value) (xs : List Int) (m : Nat) (w : World) (hv : Byt w v xs) (hx : xs.length ≤ 1000000000) (hm : m < 9223372036854775808) :
    Calls Try.prog 30 #[v, .int .i64 (-1 - (m : Int))] w fun e w' => ∃ v', e = .returned v' ∧ Byt w' v' (xs ++ Leb.enc (2 * m + 1)) ∧ Below w.heap.size w w' := by
  have hneg : (-1 - (m : Int)) < 0 := by omega
  have hz := zig_neg m hm
  have hf : Leb.Fits (2 * m + 1) := by unfold Leb.Fits; omega
  have HZ := hide hz
  clear hm hz
  go_enter Try.func30, Try.ntmps30
  go_wp2_with fail
  rw [HZ.out]
  refine (put_any v xs (2 * m + 1) w hv hx hf).mono ?_
  rintro e w1 ⟨v', rfl, h1, h2⟩
  clear HZ
  go_wp2
  go_ret
  exact ⟨v', rfl, h1, h2⟩

set_option maxHeartbeats 400000 in
set_option maxRecDepth 100000 in
theorem putInt_pos (v : Value) (xs : List Int) (m : Nat) (w : World) (hv : Byt w v xs) (hx : xs.length ≤ 1000000000) (hm : m < 9223372036854775808) :
    Calls Try.prog 30 #[v, .int .i64 (m : Int)] w fun e w' => ∃ v', e = .returned v' ∧ Byt w' v' (xs ++ Leb.enc (2 * m)) ∧ Below w.heap.size w w' := by
  have hneg : ¬ (m : Int) < 0 := by omega
  have hz := zig_pos m hm
  have hf : Leb.Fits (2 * m) := by unfold Leb.Fits; omega
  have HZ := hide hz
  clear hm hz
  go_enter Try.func30, Try.ntmps30
  go_wp2_with fail
  rw [HZ.out]
  refine (put_any v xs (2 * m) w hv hx hf).mono ?_
  rintro e w1 ⟨v', rfl, h1, h2⟩
  clear HZ
  go_wp2
  go_ret
  exact ⟨v', rfl, h1, h2⟩

theorem putInt_any (v : Value) (xs : List Int) (i : Int) (w : World) (hv : Byt w v xs) (hx : xs.length ≤ 1000000000) (h1 : -9223372036854775808 ≤ i) (h2 : i ≤ 9223372036854775807) :
    Calls Try.prog 30 #[v, .int .i64 i] w fun e w' => ∃ v', e = .returned v' ∧ Byt w' v' (xs ++ Leb.enc (Leb.zig i)) ∧ Below w.heap.size w w' := by
  by_cases h : i < 0
  · obtain ⟨m, hm⟩ : ∃ m : Nat, i = -1 - (m : Int) := ⟨(-1 - i).toNat, by omega⟩
    subst hm
    have e : Leb.zig (-1 - (m : Int)) = 2 * m + 1 := by unfold Leb.zig; rw [if_pos h]; omega
    rw [e]
    exact putInt_neg v xs m w hv hx (by omega)
  · obtain ⟨m, hm⟩ : ∃ m : Nat, i = (m : Int) := ⟨i.toNat, by omega⟩
    subst hm
    have e : Leb.zig (m : Int) = 2 * m := by unfold Leb.zig; rw [if_neg h]; omega
    rw [e]
    exact putInt_pos v xs m w hv hx (by omega)


theorem ret_num {k : IntKind} {a b : Int} (h : a = b) : Ending.returned (.int k a) = .returned (.int k b) := by rw [h]

end Go.Proofs.Ytbjnhicikkjadab.Lb
