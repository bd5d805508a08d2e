/- The document's zero and names: the fields that a kind has, and whether all others are 0. -/
import Derived.Test.YtbgedbahabbanaaInts
import Derived.Test.YtbgedbahabbanaaFormed
namespace Go.Proofs.Ytbgedbahabbanaa
open Go.RowKit Ir
/-- The fields' letters. -/
def nameOf (k : Int) : ByteArray := if k = 1 then ⟨#[68, 78]⟩ else if k = 2 ∨ k = 4 then ⟨#[68, 65]⟩ else if k = 3 then ⟨#[79, 68, 65, 66]⟩ else if k = 5 then ⟨#[65, 66]⟩ else ⟨#[68, 78, 82]⟩
set_option maxRecDepth 100000 in
theorem names_1 (w : World) : Calls Try.prog 33 #[.int .u8 1] w fun e w' => e = .returned (.string (nameOf 1)) ∧ Below w.heap.size w w' := by
  have hB := bel1' w (.cells #[.string ⟨#[]⟩, .string ⟨#[68, 78]⟩, .string ⟨#[68, 65]⟩, .string ⟨#[79, 68, 65, 66]⟩, .string ⟨#[68, 65]⟩, .string ⟨#[65, 66]⟩, .string ⟨#[68, 78, 82]⟩, .string ⟨#[68, 65]⟩, .string ⟨#[68, 65]⟩] 9)
  have hE : Hid (nameOf 1 = ⟨#[68, 78]⟩) := by show _ = _; simp [nameOf]
  go_enter Try.func33, Try.ntmps33
  go_wp2_with fail
  go_ret
  exact ⟨by rw [hE.out]; rfl, hB⟩
set_option maxRecDepth 100000 in
theorem names_2 (w : World) : Calls Try.prog 33 #[.int .u8 2] w fun e w' => e = .returned (.string (nameOf 2)) ∧ Below w.heap.size w w' := by
  have hB := bel1' w (.cells #[.string ⟨#[]⟩, .string ⟨#[68, 78]⟩, .string ⟨#[68, 65]⟩, .string ⟨#[79, 68, 65, 66]⟩, .string ⟨#[68, 65]⟩, .string ⟨#[65, 66]⟩, .string ⟨#[68, 78, 82]⟩, .string ⟨#[68, 65]⟩, .string ⟨#[68, 65]⟩] 9)
  have hE : Hid (nameOf 2 = ⟨#[68, 65]⟩) := by show _ = _; simp [nameOf]
  go_enter Try.func33, Try.ntmps33
  go_wp2_with fail
  go_ret
  exact ⟨by rw [hE.out]; rfl, hB⟩
set_option maxRecDepth 100000 in
theorem names_3 (w : World) : Calls Try.prog 33 #[.int .u8 3] w fun e w' => e = .returned (.string (nameOf 3)) ∧ Below w.heap.size w w' := by
  have hB := bel1' w (.cells #[.string ⟨#[]⟩, .string ⟨#[68, 78]⟩, .string ⟨#[68, 65]⟩, .string ⟨#[79, 68, 65, 66]⟩, .string ⟨#[68, 65]⟩, .string ⟨#[65, 66]⟩, .string ⟨#[68, 78, 82]⟩, .string ⟨#[68, 65]⟩, .string ⟨#[68, 65]⟩] 9)
  have hE : Hid (nameOf 3 = ⟨#[79, 68, 65, 66]⟩) := by show _ = _; simp [nameOf]
  go_enter Try.func33, Try.ntmps33
  go_wp2_with fail
  go_ret
  exact ⟨by rw [hE.out]; rfl, hB⟩
set_option maxRecDepth 100000 in
theorem names_4 (w : World) : Calls Try.prog 33 #[.int .u8 4] w fun e w' => e = .returned (.string (nameOf 4)) ∧ Below w.heap.size w w' := by
  have hB := bel1' w (.cells #[.string ⟨#[]⟩, .string ⟨#[68, 78]⟩, .string ⟨#[68, 65]⟩, .string ⟨#[79, 68, 65, 66]⟩, .string ⟨#[68, 65]⟩, .string ⟨#[65, 66]⟩, .string ⟨#[68, 78, 82]⟩, .string ⟨#[68, 65]⟩, .string ⟨#[68, 65]⟩] 9)
  have hE : Hid (nameOf 4 = ⟨#[68, 65]⟩) := by show _ = _; simp [nameOf]
  go_enter Try.func33, Try.ntmps33
  go_wp2_with fail
  go_ret
  exact ⟨by rw [hE.out]; rfl, hB⟩
set_option maxRecDepth 100000 in
theorem names_5 (w : World) : Calls Try.prog 33 #[.int .u8 5] w fun e w' => e = .returned (.string (nameOf 5)) ∧ Below w.heap.size w w' := by
  have hB := bel1' w (.cells #[.string ⟨#[]⟩, .string ⟨#[68, 78]⟩, .string ⟨#[68, 65]⟩, .string ⟨#[79, 68, 65, 66]⟩, .string ⟨#[68, 65]⟩, .string ⟨#[65, 66]⟩, .string ⟨#[68, 78, 82]⟩, .string ⟨#[68, 65]⟩, .string ⟨#[68, 65]⟩] 9)
  have hE : Hid (nameOf 5 = ⟨#[65, 66]⟩) := by show _ = _; simp [nameOf]
  go_enter Try.func33, Try.ntmps33
  go_wp2_with fail
  go_ret
  exact ⟨by rw [hE.out]; rfl, hB⟩
set_option maxRecDepth 100000 in
theorem names_6 (w : World) : Calls Try.prog 33 #[.int .u8 6] w fun e w' => e = .returned (.string (nameOf 6)) ∧ Below w.heap.size w w' := by
  have hB := bel1' w (.cells #[.string ⟨#[]⟩, .string ⟨#[68, 78]⟩, .string ⟨#[68, 65]⟩, .string ⟨#[79, 68, 65, 66]⟩, .string ⟨#[68, 65]⟩, .string ⟨#[65, 66]⟩, .string ⟨#[68, 78, 82]⟩, .string ⟨#[68, 65]⟩, .string ⟨#[68, 65]⟩] 9)
  have hE : Hid (nameOf 6 = ⟨#[68, 78, 82]⟩) := by show _ = _; simp [nameOf]
  go_enter Try.func33, Try.ntmps33
  go_wp2_with fail
  go_ret
  exact ⟨by rw [hE.out]; rfl, hB⟩
theorem names_any (k : Int) (h1 : 1 ≤ k) (h6 : k ≤ 6) (w : World) : Calls Try.prog 33 #[.int .u8 k] w fun e w' => e = .returned (.string (nameOf k)) ∧ Below w.heap.size w w' := by
  by_cases k1 : k = 1
  · subst k1
    exact names_1 w
  by_cases k2 : k = 2
  · subst k2
    exact names_2 w
  by_cases k3 : k = 3
  · subst k3
    exact names_3 w
  by_cases k4 : k = 4
  · subst k4
    exact names_4 w
  by_cases k5 : k = 5
  · subst k5
    exact names_5 w
  by_cases k6 : k = 6
  · subst k6
    exact names_6 w
  omega

/-- Is the letter c among the first j? -/
def hasTo (s : ByteArray) (c : Int) (j : Nat) : Bool := (s.data.toList.take j).any fun x => ((x.toNat : Nat) : Int) == c
theorem hasTo_step {s : ByteArray} {c : Int} {j : Nat} (h : j < s.size) : hasTo s c (j + 1) = (hasTo s c j || (((s[j].toNat : Nat) : Int) == c)) := by
  unfold hasTo
  have hl : j < s.data.toList.length := by simpa using h
  rw [List.take_succ_eq_append_getElem hl, List.any_append, List.any_cons, List.any_nil, Bool.or_false]
  rfl
def okAt (i : Ins) (s : ByteArray) : Nat → Bool
  | 0 => i.op == 0 || hasTo s 79 s.size
  | 1 => i.d == 0 || hasTo s 68 s.size
  | 2 => i.a == 0 || hasTo s 65 s.size
  | 3 => i.b == 0 || hasTo s 66 s.size
  | 4 => i.n == 0 || hasTo s 78 s.size
  | _ => len0 i.args || hasTo s 82 s.size
def zrTo (i : Ins) (s : ByteArray) (k : Nat) : Bool := (List.range k).all (okAt i s)
theorem zrTo_step (i : Ins) (s : ByteArray) (k : Nat) : zrTo i s (k + 1) = (zrTo i s k && okAt i s k) := by
  unfold zrTo
  rw [List.range_succ, List.all_append, List.all_cons, List.all_nil, Bool.and_true]
theorem zrTo_false {i : Ins} {s : ByteArray} {k : Nat} (hk : k < 6) (h : okAt i s k = false) : zrTo i s 6 = false := by
  unfold zrTo
  rw [List.all_eq_false]
  exact ⟨k, List.mem_range.2 hk, by simp [h]⟩

set_option maxHeartbeats 4000000 in
set_option maxRecDepth 100000 in
theorem zero_any (i : Ins) (u : Value) (s : ByteArray) (w : World) (hu : IntsV w u i.args) (hs : s.size ≤ 10) : Calls Try.prog 32 #[insV i u, .string s] w fun e w' => e = .returned (.bool (zrTo i s 6)) ∧ Below w.heap.size w w' := by
  obtain ⟨ua, ca, rfl⟩ := hu.slice
  have hB := bel1' w (.cells #[.int .u8 i.k, .int .u8 i.op, .int .i64 i.d, .int .i64 i.a, .int .i64 i.b, .int .i64 i.n, .slice ua i.args.length ca] 46)
  have hc : ∀ w' : World, Below (w.alloc (.cells #[.int .u8 i.k, .int .u8 i.op, .int .i64 i.d, .int .i64 i.a, .int .i64 i.b, .int .i64 i.n, .slice ua i.args.length ca] 46)).heap.size (w.alloc (.cells #[.int .u8 i.k, .int .u8 i.op, .int .i64 i.d, .int .i64 i.a, .int .i64 i.b, .int .i64 i.n, .slice ua i.args.length ca] 46)) w' →
      w'.cell? ⟨w.heap.size, 1, none⟩ = some (.int .u8 i.op) ∧ w'.cell? ⟨w.heap.size, 2, none⟩ = some (.int .i64 i.d) ∧ w'.cell? ⟨w.heap.size, 3, none⟩ = some (.int .i64 i.a) ∧ w'.cell? ⟨w.heap.size, 4, none⟩ = some (.int .i64 i.b) ∧ w'.cell? ⟨w.heap.size, 5, none⟩ = some (.int .i64 i.n) ∧ w'.cell? ⟨w.heap.size, 6, none⟩ = some (.slice ua i.args.length ca) := by
    intro w' hB'
    refine ⟨?_, ?_, ?_, ?_, ?_, ?_⟩ <;> exact cell_below hB' (by rw [World.cell?_alloc_new]; rfl)
  have HC := hide hc
  clear hu hc
  unfold insV
  go_enter Try.func32, Try.ntmps32
  go_wp2_with fail
  generalize (w.alloc (.cells #[.int .u8 i.k, .int .u8 i.op, .int .i64 i.d, .int .i64 i.a, .int .i64 i.b, .int .i64 i.n, .slice ua i.args.length ca] 46)) = w0 at *
  go_loopw [5, 6, 7, 8, 9] (fun kv _ _ _ _ wr => ∃ k : Nat, k ≤ 6 ∧ kv = .int .i64 k ∧ Hid (zrTo i s k = true) ∧ Below w0.heap.size w0 wr) (fun kv _ _ _ _ _ => 6 - (intOf kv).toNat)
  case atStart => exact ⟨0, by omega, rfl, rfl, Below.refl _ _⟩
  case round =>
    obtain ⟨k, hk, rfl, hz, hBr⟩ := hrel
    obtain ⟨c1, c2, c3, c4, c5, c6⟩ := HC.out wr hBr
    by_cases k0 : k = 0
    · subst k0
      go_wp2_with fail
      go_loop [7, 8] (fun isv jv => ∃ j : Nat, j ≤ s.size ∧ jv = .int .i64 j ∧ isv = .bool (hasTo s 79 j)) (fun _ jv => s.size - (intOf jv).toNat)
      case atStart => exact ⟨0, by omega, rfl, rfl⟩
      case round =>
        obtain ⟨j, hj, rfl, rfl⟩ := hrel
        by_cases hlt : j < s.size
        · have hst := hide (hasTo_step (c := 79) hlt)
          cases hh : hasTo s 79 j with
          | false =>
            go_wp2_with fail
            go_round
            case rel => exact ⟨j + 1, by omega, by go_num, by rw [hst.out, hh, Bool.false_or]; rfl⟩
            case measure => simp [intOf]; omega
          | true =>
            go_wp2_with fail
            go_round
            case rel => exact ⟨j + 1, by omega, by go_num, by rw [hst.out, hh, Bool.true_or]⟩
            case measure => simp [intOf]; omega
        · obtain rfl : j = s.size := by omega
          have hok : Hid (okAt i s 0 = (i.op == 0 || hasTo s 79 s.size)) := rfl
          have hzs := hide (zrTo_step i s 0)
          by_cases hf : i.op = 0
          · have q : (i.op != 0) = false := by simp [hf]
            have hz2 : Hid (zrTo i s 1 = true) := by
              show _ = _
              rw [hzs.out, hz.out, hok.out, hf]
              rfl
            clear hok hzs hz hf
            go_wp2_with fail
            go_roundw
            case rel => exact ⟨1, by omega, rfl, hz2, hBr.alloc hBr.size _⟩
            case measure => simp [intOf]
          · have q : (i.op != 0) = true := by simpa using hf
            cases hh : hasTo s 79 s.size with
            | true =>
              have hz2 : Hid (zrTo i s 1 = true) := by
                show _ = _
                rw [hzs.out, hz.out, hok.out, hh]
                simp
              clear hok hzs hz hf
              go_wp2_with fail
              go_roundw
              case rel => exact ⟨1, by omega, rfl, hz2, hBr.alloc hBr.size _⟩
              case measure => simp [intOf]
            | false =>
              have hz2 : Hid (zrTo i s 6 = false) := by
                refine zrTo_false (k := 0) (by omega) ?_
                rw [hok.out, hh]
                simp [hf]
              clear hok hzs hz hf
              go_wp2_with fail
              go_ret
              exact ⟨by rw [hz2.out]; rfl, bel_of hB (hBr.alloc hBr.size _)⟩
    by_cases k1 : k = 1
    · subst k1
      go_wp2_with fail
      go_loop [7, 8] (fun isv jv => ∃ j : Nat, j ≤ s.size ∧ jv = .int .i64 j ∧ isv = .bool (hasTo s 68 j)) (fun _ jv => s.size - (intOf jv).toNat)
      case atStart => exact ⟨0, by omega, rfl, rfl⟩
      case round =>
        obtain ⟨j, hj, rfl, rfl⟩ := hrel
        by_cases hlt : j < s.size
        · have hst := hide (hasTo_step (c := 68) hlt)
          cases hh : hasTo s 68 j with
          | false =>
            go_wp2_with fail
            go_round
            case rel => exact ⟨j + 1, by omega, by go_num, by rw [hst.out, hh, Bool.false_or]; rfl⟩
            case measure => simp [intOf]; omega
          | true =>
            go_wp2_with fail
            go_round
            case rel => exact ⟨j + 1, by omega, by go_num, by rw [hst.out, hh, Bool.true_or]⟩
            case measure => simp [intOf]; omega
        · obtain rfl : j = s.size := by omega
          have hok : Hid (okAt i s 1 = (i.d == 0 || hasTo s 68 s.size)) := rfl
          have hzs := hide (zrTo_step i s 1)
          by_cases hf : i.d = 0
          · have q : (i.d != 0) = false := by simp [hf]
            have hz2 : Hid (zrTo i s 2 = true) := by
              show _ = _
              rw [hzs.out, hz.out, hok.out, hf]
              rfl
            clear hok hzs hz hf
            go_wp2_with fail
            go_roundw
            case rel => exact ⟨2, by omega, rfl, hz2, hBr.alloc hBr.size _⟩
            case measure => simp [intOf]
          · have q : (i.d != 0) = true := by simpa using hf
            cases hh : hasTo s 68 s.size with
            | true =>
              have hz2 : Hid (zrTo i s 2 = true) := by
                show _ = _
                rw [hzs.out, hz.out, hok.out, hh]
                simp
              clear hok hzs hz hf
              go_wp2_with fail
              go_roundw
              case rel => exact ⟨2, by omega, rfl, hz2, hBr.alloc hBr.size _⟩
              case measure => simp [intOf]
            | false =>
              have hz2 : Hid (zrTo i s 6 = false) := by
                refine zrTo_false (k := 1) (by omega) ?_
                rw [hok.out, hh]
                simp [hf]
              clear hok hzs hz hf
              go_wp2_with fail
              go_ret
              exact ⟨by rw [hz2.out]; rfl, bel_of hB (hBr.alloc hBr.size _)⟩
    by_cases k2 : k = 2
    · subst k2
      go_wp2_with fail
      go_loop [7, 8] (fun isv jv => ∃ j : Nat, j ≤ s.size ∧ jv = .int .i64 j ∧ isv = .bool (hasTo s 65 j)) (fun _ jv => s.size - (intOf jv).toNat)
      case atStart => exact ⟨0, by omega, rfl, rfl⟩
      case round =>
        obtain ⟨j, hj, rfl, rfl⟩ := hrel
        by_cases hlt : j < s.size
        · have hst := hide (hasTo_step (c := 65) hlt)
          cases hh : hasTo s 65 j with
          | false =>
            go_wp2_with fail
            go_round
            case rel => exact ⟨j + 1, by omega, by go_num, by rw [hst.out, hh, Bool.false_or]; rfl⟩
            case measure => simp [intOf]; omega
          | true =>
            go_wp2_with fail
            go_round
            case rel => exact ⟨j + 1, by omega, by go_num, by rw [hst.out, hh, Bool.true_or]⟩
            case measure => simp [intOf]; omega
        · obtain rfl : j = s.size := by omega
          have hok : Hid (okAt i s 2 = (i.a == 0 || hasTo s 65 s.size)) := rfl
          have hzs := hide (zrTo_step i s 2)
          by_cases hf : i.a = 0
          · have q : (i.a != 0) = false := by simp [hf]
            have hz2 : Hid (zrTo i s 3 = true) := by
              show _ = _
              rw [hzs.out, hz.out, hok.out, hf]
              rfl
            clear hok hzs hz hf
            go_wp2_with fail
            go_roundw
            case rel => exact ⟨3, by omega, rfl, hz2, hBr.alloc hBr.size _⟩
            case measure => simp [intOf]
          · have q : (i.a != 0) = true := by simpa using hf
            cases hh : hasTo s 65 s.size with
            | true =>
              have hz2 : Hid (zrTo i s 3 = true) := by
                show _ = _
                rw [hzs.out, hz.out, hok.out, hh]
                simp
              clear hok hzs hz hf
              go_wp2_with fail
              go_roundw
              case rel => exact ⟨3, by omega, rfl, hz2, hBr.alloc hBr.size _⟩
              case measure => simp [intOf]
            | false =>
              have hz2 : Hid (zrTo i s 6 = false) := by
                refine zrTo_false (k := 2) (by omega) ?_
                rw [hok.out, hh]
                simp [hf]
              clear hok hzs hz hf
              go_wp2_with fail
              go_ret
              exact ⟨by rw [hz2.out]; rfl, bel_of hB (hBr.alloc hBr.size _)⟩
    by_cases k3 : k = 3
    · subst k3
      go_wp2_with fail
      go_loop [7, 8] (fun isv jv => ∃ j : Nat, j ≤ s.size ∧ jv = .int .i64 j ∧ isv = .bool (hasTo s 66 j)) (fun _ jv => s.size - (intOf jv).toNat)
      case atStart => exact ⟨0, by omega, rfl, rfl⟩
      case round =>
        obtain ⟨j, hj, rfl, rfl⟩ := hrel
        by_cases hlt : j < s.size
        · have hst := hide (hasTo_step (c := 66) hlt)
          cases hh : hasTo s 66 j with
          | false =>
            go_wp2_with fail
            go_round
            case rel => exact ⟨j + 1, by omega, by go_num, by rw [hst.out, hh, Bool.false_or]; rfl⟩
            case measure => simp [intOf]; omega
          | true =>
            go_wp2_with fail
            go_round
            case rel => exact ⟨j + 1, by omega, by go_num, by rw [hst.out, hh, Bool.true_or]⟩
            case measure => simp [intOf]; omega
        · obtain rfl : j = s.size := by omega
          have hok : Hid (okAt i s 3 = (i.b == 0 || hasTo s 66 s.size)) := rfl
          have hzs := hide (zrTo_step i s 3)
          by_cases hf : i.b = 0
          · have q : (i.b != 0) = false := by simp [hf]
            have hz2 : Hid (zrTo i s 4 = true) := by
              show _ = _
              rw [hzs.out, hz.out, hok.out, hf]
              rfl
            clear hok hzs hz hf
            go_wp2_with fail
            go_roundw
            case rel => exact ⟨4, by omega, rfl, hz2, hBr.alloc hBr.size _⟩
            case measure => simp [intOf]
          · have q : (i.b != 0) = true := by simpa using hf
            cases hh : hasTo s 66 s.size with
            | true =>
              have hz2 : Hid (zrTo i s 4 = true) := by
                show _ = _
                rw [hzs.out, hz.out, hok.out, hh]
                simp
              clear hok hzs hz hf
              go_wp2_with fail
              go_roundw
              case rel => exact ⟨4, by omega, rfl, hz2, hBr.alloc hBr.size _⟩
              case measure => simp [intOf]
            | false =>
              have hz2 : Hid (zrTo i s 6 = false) := by
                refine zrTo_false (k := 3) (by omega) ?_
                rw [hok.out, hh]
                simp [hf]
              clear hok hzs hz hf
              go_wp2_with fail
              go_ret
              exact ⟨by rw [hz2.out]; rfl, bel_of hB (hBr.alloc hBr.size _)⟩
    by_cases k4 : k = 4
    · subst k4
      go_wp2_with fail
      go_loop [7, 8] (fun isv jv => ∃ j : Nat, j ≤ s.size ∧ jv = .int .i64 j ∧ isv = .bool (hasTo s 78 j)) (fun _ jv => s.size - (intOf jv).toNat)
      case atStart => exact ⟨0, by omega, rfl, rfl⟩
      case round =>
        obtain ⟨j, hj, rfl, rfl⟩ := hrel
        by_cases hlt : j < s.size
        · have hst := hide (hasTo_step (c := 78) hlt)
          cases hh : hasTo s 78 j with
          | false =>
            go_wp2_with fail
            go_round
            case rel => exact ⟨j + 1, by omega, by go_num, by rw [hst.out, hh, Bool.false_or]; rfl⟩
            case measure => simp [intOf]; omega
          | true =>
            go_wp2_with fail
            go_round
            case rel => exact ⟨j + 1, by omega, by go_num, by rw [hst.out, hh, Bool.true_or]⟩
            case measure => simp [intOf]; omega
        · obtain rfl : j = s.size := by omega
          have hok : Hid (okAt i s 4 = (i.n == 0 || hasTo s 78 s.size)) := rfl
          have hzs := hide (zrTo_step i s 4)
          by_cases hf : i.n = 0
          · have q : (i.n != 0) = false := by simp [hf]
            have hz2 : Hid (zrTo i s 5 = true) := by
              show _ = _
              rw [hzs.out, hz.out, hok.out, hf]
              rfl
            clear hok hzs hz hf
            go_wp2_with fail
            go_roundw
            case rel => exact ⟨5, by omega, rfl, hz2, hBr.alloc hBr.size _⟩
            case measure => simp [intOf]
          · have q : (i.n != 0) = true := by simpa using hf
            cases hh : hasTo s 78 s.size with
            | true =>
              have hz2 : Hid (zrTo i s 5 = true) := by
                show _ = _
                rw [hzs.out, hz.out, hok.out, hh]
                simp
              clear hok hzs hz hf
              go_wp2_with fail
              go_roundw
              case rel => exact ⟨5, by omega, rfl, hz2, hBr.alloc hBr.size _⟩
              case measure => simp [intOf]
            | false =>
              have hz2 : Hid (zrTo i s 6 = false) := by
                refine zrTo_false (k := 4) (by omega) ?_
                rw [hok.out, hh]
                simp [hf]
              clear hok hzs hz hf
              go_wp2_with fail
              go_ret
              exact ⟨by rw [hz2.out]; rfl, bel_of hB (hBr.alloc hBr.size _)⟩
    by_cases k5 : k = 5
    · subst k5
      go_wp2_with fail
      go_loop [7, 8] (fun isv jv => ∃ j : Nat, j ≤ s.size ∧ jv = .int .i64 j ∧ isv = .bool (hasTo s 82 j)) (fun _ jv => s.size - (intOf jv).toNat)
      case atStart => exact ⟨0, by omega, rfl, rfl⟩
      case round =>
        obtain ⟨j, hj, rfl, rfl⟩ := hrel
        by_cases hlt : j < s.size
        · have hst := hide (hasTo_step (c := 82) hlt)
          cases hh : hasTo s 82 j with
          | false =>
            go_wp2_with fail
            go_round
            case rel => exact ⟨j + 1, by omega, by go_num, by rw [hst.out, hh, Bool.false_or]; rfl⟩
            case measure => simp [intOf]; omega
          | true =>
            go_wp2_with fail
            go_round
            case rel => exact ⟨j + 1, by omega, by go_num, by rw [hst.out, hh, Bool.true_or]⟩
            case measure => simp [intOf]; omega
        · obtain rfl : j = s.size := by omega
          have hok : Hid (okAt i s 5 = (len0 i.args || hasTo s 82 s.size)) := rfl
          have hzs := hide (zrTo_step i s 5)
          by_cases hf : i.args.length = 0
          · have q : ¬ 0 < (i.args.length : Int) := by omega
            have hz2 : Hid (zrTo i s 6 = true) := by
              show _ = _
              rw [hzs.out, hz.out, hok.out, len0_eq]
              simp [hf]
            clear hok hzs hz hf
            go_wp2_with fail
            go_roundw
            case rel => exact ⟨6, by omega, rfl, hz2, hBr.alloc hBr.size _⟩
            case measure => simp [intOf]
          · have q : 0 < (i.args.length : Int) := by omega
            cases hh : hasTo s 82 s.size with
            | true =>
              have hz2 : Hid (zrTo i s 6 = true) := by
                show _ = _
                rw [hzs.out, hz.out, hok.out, hh]
                simp
              clear hok hzs hz hf
              go_wp2_with fail
              go_roundw
              case rel => exact ⟨6, by omega, rfl, hz2, hBr.alloc hBr.size _⟩
              case measure => simp [intOf]
            | false =>
              have hz2 : Hid (zrTo i s 6 = false) := by
                refine zrTo_false (k := 5) (by omega) ?_
                rw [hok.out, hh]
                simp [len0_eq, hf]
              clear hok hzs hz hf
              go_wp2_with fail
              go_ret
              exact ⟨by rw [hz2.out]; rfl, bel_of hB (hBr.alloc hBr.size _)⟩
    obtain rfl : k = 6 := by omega
    go_wp2_with fail
    go_ret
    exact ⟨by rw [hz.out]; rfl, bel_of hB hBr⟩
end Go.Proofs.Ytbgedbahabbanaa
