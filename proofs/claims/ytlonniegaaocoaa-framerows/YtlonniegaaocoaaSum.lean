/- crc.Sum: the sum of parts, one behind the other. -/
import Derived.Test.YtlonniegaaocoaaStep
import Derived.Test.YtlonniegaaocoaaPut
import Derived.Test.YtlonniegaaocoaaFrm
namespace Go.Proofs.Ytlonniegaaocoaa
open Go.RowKit


/-- The slice value v leads to slices that lead to the bytes of ps, each. -/
def Parts (w : World) (v : Value) (ps : List (List Int)) : Prop :=
  ∃ ao cap, v = .slice ao ps.length cap ∧ ps.length ≤ 1000000000 ∧
    (0 < ps.length → ∃ b off, ao = some ⟨b, off, none⟩ ∧ ∀ j, j < ps.length → ∃ u, w.cell? ⟨b, off + j, none⟩ = some u ∧ Byt w u (ps.getD j []))

theorem Parts.nil (w : World) : Parts w (.slice none 0 0) [] := ⟨none, 0, rfl, by simp, fun h => by simp at h⟩

theorem reg_snoc (s : Nat) (l : List Nat) (c : Nat) : Crc.reg s (l ++ [c]) = Crc.byte (Crc.reg s l) c := by simp [Crc.reg]
theorem reg_append (s : Nat) (l m : List Nat) : Crc.reg s (l ++ m) = Crc.reg (Crc.reg s l) m := by simp [Crc.reg]
theorem nats_append (a b : List Int) : nats (a ++ b) = nats a ++ nats b := by simp [nats]

theorem take_snoc' {α : Type} {l : List α} {k : Nat} (d : α) (h : k < l.length) : l.take (k + 1) = l.take k ++ [l.getD k d] := by
  rw [List.take_succ_eq_append_getElem h]; simp [List.getElem?_eq_getElem h]

theorem xor_u32 (z d : Nat) (hz : z < 4294967296) (hd : d < 256) : bits .xor .u32 (z : Int) (d : Int) = ((z ^^^ d : Nat) : Int) := u32_xor_nat _ _ hz (by omega)

theorem not_u32 (y : Nat) (hy : y < 4294967296) : bits .xor .u32 IntKind.u32.max (y : Int) = ((y ^^^ 4294967295 : Nat) : Int) := by
  rw [show IntKind.u32.max = ((4294967295 : Nat) : Int) from rfl, u32_xor_nat _ _ (by omega) hy, Nat.xor_comm]

set_option maxHeartbeats 400000 in
set_option maxRecDepth 100000 in
theorem sum_any (v : Value) (ps : List (List Int)) (w : World) (hv : Parts w v ps) :
    Calls Try.prog 23 #[v] w fun e w' => e = .returned (.int .u32 (sumOf ps.flatten : Nat)) ∧ w' = w := by
  obtain ⟨ao, cap, rfl, hpl, hps⟩ := hv
  have HP := hide hps
  clear hps
  go_enter Try.func23, Try.ntmps23
  go_wp2_with fail
  go_loop [3, 5, 7, 10] (fun rv _ _ iv => ∃ k y : Nat, k ≤ ps.length ∧ iv = .int .i64 k ∧ rv = .int .u32 y ∧ Hid (y = Crc.reg 4294967295 (nats (ps.take k).flatten)) ∧ Hid (y < 4294967296)) (fun _ _ _ iv => ps.length - (intOf iv).toNat)
  case atStart => exact ⟨0, 4294967295, by omega, rfl, rfl, by show _ = _; simp [nats, Crc.reg], by show _ < _; omega⟩
  case round =>
    obtain ⟨k, y, hk, rfl, rfl, hy, hlt⟩ := hrel
    by_cases hkl : k < ps.length
    · obtain ⟨b, off, rfl, hc⟩ := HP.out (by omega)
      obtain ⟨u, hcu, b2, hb0, ao2, cap2, rfl, hlc, hcm, hao, hcell⟩ := hc k hkl
      have HT := hide (take_snoc' [] hkl)
      generalize ps.getD k [] = xs at *
      have HC := hide hcell
      have HB := hide hb0
      clear hc hcell hb0
      unfold maxLen at hcm
      go_wp2_with fail
      go_loop [3, 7, 16] (fun rv _ iv => ∃ j z : Nat, j ≤ xs.length ∧ iv = .int .i64 j ∧ rv = .int .u32 z ∧ Hid (z = Crc.reg y (nats (xs.take j))) ∧ Hid (z < 4294967296)) (fun _ _ iv => xs.length - (intOf iv).toNat)
      case atStart => exact ⟨0, y, by omega, rfl, rfl, by show _ = _; simp [nats, Crc.reg], hlt⟩
      case round =>
        obtain ⟨j, z, hj, rfl, rfl, hz, hzlt⟩ := hrel
        by_cases hjl : j < xs.length
        · obtain ⟨off2, rfl, hcell⟩ := HC.out (by omega)
          have hcj := hcell j hjl
          have hT2 := hide (take_snoc' 0 hjl)
          have hd0 := HB.out (xs.getD j 0) (by simp [List.getElem?_eq_getElem hjl])
          obtain ⟨d, hd⟩ := Int.eq_ofNat_of_zero_le hd0.1
          rw [hd] at hcj
          have hdl : d < 256 := by omega
          have HN : Hid (Crc.bits 8 (z ^^^ d) = Crc.reg y (nats (xs.take (j + 1)))) := by
            show _ = _
            rw [hT2.out, hd, nats_append, show nats [((d : Nat) : Int)] = [d] from rfl, reg_snoc, ← hz.out]
            rfl
          have HL : Hid (Crc.bits 8 (z ^^^ d) < 4294967296) := Crc.byte_lt hzlt.out hdl
          have HXL : Hid (z ^^^ d < 4294967296) := Nat.xor_lt_two_pow (n := 32) hzlt.out (by omega)
          have HE := hide (xor_u32 z d hzlt.out hdl)
          clear hcell hcu hd hd0
          go_wp2_with fail
          rw [HE.out]
          refine (step_any (z ^^^ d) w HXL.out).mono ?_
          rintro e w1 ⟨rfl, rfl⟩
          clear HE hcj
          go_wp2_with fail
          go_round
          case rel => exact ⟨j + 1, _, by omega, by go_num, rfl, HN, HL⟩
          case measure => simp [intOf]; omega
        · obtain rfl : j = xs.length := by omega
          have HN : Hid (z = Crc.reg 4294967295 (nats (ps.take (k + 1)).flatten)) := by
            show _ = _
            rw [HT.out, List.flatten_append, nats_append, reg_append, ← hy.out, hz.out, List.take_of_length_le (Nat.le_refl _)]
            simp
          go_wp2_with fail
          go_round
          case rel => exact ⟨k + 1, z, by omega, by go_num, rfl, HN, hzlt⟩
          case measure => simp [intOf]; omega
    · obtain rfl : k = ps.length := by omega
      have HN : Hid (bits .xor .u32 IntKind.u32.max (y : Int) = ((sumOf ps.flatten : Nat) : Int)) := by
        show _ = _
        rw [not_u32 y hlt.out, hy.out, List.take_of_length_le (Nat.le_refl _)]
        rfl
      go_wp2_with fail
      rw [HN.out]
      go_ret
      exact ⟨rfl, rfl⟩

/-- A slice of one part, of three, that has just been laid. -/
theorem Parts.one {w : World} {u : Value} {xs : List Int} (h : Byt w u xs) : Parts (w.alloc (.cells #[u] 22)) (.slice (some ⟨w.heap.size, 0, none⟩) 1 1) [xs] := by
  refine ⟨_, 1, rfl, by simp, fun _ => ⟨_, _, rfl, fun j hj => ?_⟩⟩
  have hb := h.below ((Below.refl w.heap.size w).alloc (Nat.le_refl _) (.cells #[u] 22))
  match j, hj with
  | 0, _ => exact ⟨u, by rw [World.cell?_alloc_new]; rfl, hb⟩
theorem Parts.three {w : World} {u v z : Value} {xs ys zs : List Int} (h1 : Byt w u xs) (h2 : Byt w v ys) (h3 : Byt w z zs) :
    Parts (w.alloc (.cells #[u, v, z] 22)) (.slice (some ⟨w.heap.size, 0, none⟩) 3 3) [xs, ys, zs] := by
  refine ⟨_, 3, rfl, by simp, fun _ => ⟨_, _, rfl, fun j hj => ?_⟩⟩
  have hb := (Below.refl w.heap.size w).alloc (Nat.le_refl _) (.cells #[u, v, z] 22)
  match j, hj with
  | 0, _ => exact ⟨u, by rw [World.cell?_alloc_new]; rfl, h1.below hb⟩
  | 1, _ => exact ⟨v, by rw [World.cell?_alloc_new]; rfl, h2.below hb⟩
  | 2, _ => exact ⟨z, by rw [World.cell?_alloc_new]; rfl, h3.below hb⟩

theorem sum_one {w : World} {u : Value} {xs : List Int} (h : Byt w u xs) :
    Calls Try.prog 23 #[.slice (some ⟨w.heap.size, 0, none⟩) 1 1] (w.alloc (.cells #[u] 22)) fun e w' => e = .returned (.int .u32 (sumOf xs : Nat)) ∧ w' = w.alloc (.cells #[u] 22) := by
  have := sum_any _ [xs] _ (Parts.one h)
  simpa using this
end Go.Proofs.Ytlonniegaaocoaa
