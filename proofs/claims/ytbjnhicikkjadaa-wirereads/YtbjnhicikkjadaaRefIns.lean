/- The document's zero and names: the fields that a kind has, and whether all others are 0. -/
import Derived.Test.YtbjnhicikkjadaaInts
import Derived.Test.YtbjnhicikkjadaaFormed
import Derived.Test.YtbjnhicikkjadaaCheck
import Derived.Test.YtbjnhicikkjadaaOps
namespace Go.Proofs.Ytbjnhicikkjadaa
open Go.RowKit Ir
/-- The fields' letters. -/
def nameOf (k : Int) : ByteArray := if k = 1 then ⟨#[68, 78]⟩ else if k = 2 ∨ k = 4 then ⟨#[68, 65]⟩ else if k = 3 then ⟨#[79, 68, 65, 66]⟩ else if k = 5 then ⟨#[65, 66]⟩ else ⟨#[68, 78, 82]⟩
set_option maxRecDepth 100000 in
theorem names_1 (w : World) : Calls Try.prog 63 #[.int .u8 1] w fun e w' => e = .returned (.string (nameOf 1)) ∧ Below w.heap.size w w' := by
  have hB := bel1' w (.cells #[.string ⟨#[]⟩, .string ⟨#[68, 78]⟩, .string ⟨#[68, 65]⟩, .string ⟨#[79, 68, 65, 66]⟩, .string ⟨#[68, 65]⟩, .string ⟨#[65, 66]⟩, .string ⟨#[68, 78, 82]⟩, .string ⟨#[68, 65]⟩, .string ⟨#[68, 65]⟩] 9)
  have hE : Hid (nameOf 1 = ⟨#[68, 78]⟩) := by show _ = _; simp [nameOf]
  go_enter Try.func63, Try.ntmps63
  go_wp2_with fail
  go_ret
  exact ⟨by rw [hE.out]; rfl, hB⟩
set_option maxRecDepth 100000 in
theorem names_2 (w : World) : Calls Try.prog 63 #[.int .u8 2] w fun e w' => e = .returned (.string (nameOf 2)) ∧ Below w.heap.size w w' := by
  have hB := bel1' w (.cells #[.string ⟨#[]⟩, .string ⟨#[68, 78]⟩, .string ⟨#[68, 65]⟩, .string ⟨#[79, 68, 65, 66]⟩, .string ⟨#[68, 65]⟩, .string ⟨#[65, 66]⟩, .string ⟨#[68, 78, 82]⟩, .string ⟨#[68, 65]⟩, .string ⟨#[68, 65]⟩] 9)
  have hE : Hid (nameOf 2 = ⟨#[68, 65]⟩) := by show _ = _; simp [nameOf]
  go_enter Try.func63, Try.ntmps63
  go_wp2_with fail
  go_ret
  exact ⟨by rw [hE.out]; rfl, hB⟩
set_option maxRecDepth 100000 in
theorem names_3 (w : World) : Calls Try.prog 63 #[.int .u8 3] w fun e w' => e = .returned (.string (nameOf 3)) ∧ Below w.heap.size w w' := by
  have hB := bel1' w (.cells #[.string ⟨#[]⟩, .string ⟨#[68, 78]⟩, .string ⟨#[68, 65]⟩, .string ⟨#[79, 68, 65, 66]⟩, .string ⟨#[68, 65]⟩, .string ⟨#[65, 66]⟩, .string ⟨#[68, 78, 82]⟩, .string ⟨#[68, 65]⟩, .string ⟨#[68, 65]⟩] 9)
  have hE : Hid (nameOf 3 = ⟨#[79, 68, 65, 66]⟩) := by show _ = _; simp [nameOf]
  go_enter Try.func63, Try.ntmps63
  go_wp2_with fail
  go_ret
  exact ⟨by rw [hE.out]; rfl, hB⟩
set_option maxRecDepth 100000 in
theorem names_4 (w : World) : Calls Try.prog 63 #[.int .u8 4] w fun e w' => e = .returned (.string (nameOf 4)) ∧ Below w.heap.size w w' := by
  have hB := bel1' w (.cells #[.string ⟨#[]⟩, .string ⟨#[68, 78]⟩, .string ⟨#[68, 65]⟩, .string ⟨#[79, 68, 65, 66]⟩, .string ⟨#[68, 65]⟩, .string ⟨#[65, 66]⟩, .string ⟨#[68, 78, 82]⟩, .string ⟨#[68, 65]⟩, .string ⟨#[68, 65]⟩] 9)
  have hE : Hid (nameOf 4 = ⟨#[68, 65]⟩) := by show _ = _; simp [nameOf]
  go_enter Try.func63, Try.ntmps63
  go_wp2_with fail
  go_ret
  exact ⟨by rw [hE.out]; rfl, hB⟩
set_option maxRecDepth 100000 in
theorem names_5 (w : World) : Calls Try.prog 63 #[.int .u8 5] w fun e w' => e = .returned (.string (nameOf 5)) ∧ Below w.heap.size w w' := by
  have hB := bel1' w (.cells #[.string ⟨#[]⟩, .string ⟨#[68, 78]⟩, .string ⟨#[68, 65]⟩, .string ⟨#[79, 68, 65, 66]⟩, .string ⟨#[68, 65]⟩, .string ⟨#[65, 66]⟩, .string ⟨#[68, 78, 82]⟩, .string ⟨#[68, 65]⟩, .string ⟨#[68, 65]⟩] 9)
  have hE : Hid (nameOf 5 = ⟨#[65, 66]⟩) := by show _ = _; simp [nameOf]
  go_enter Try.func63, Try.ntmps63
  go_wp2_with fail
  go_ret
  exact ⟨by rw [hE.out]; rfl, hB⟩
set_option maxRecDepth 100000 in
theorem names_6 (w : World) : Calls Try.prog 63 #[.int .u8 6] w fun e w' => e = .returned (.string (nameOf 6)) ∧ Below w.heap.size w w' := by
  have hB := bel1' w (.cells #[.string ⟨#[]⟩, .string ⟨#[68, 78]⟩, .string ⟨#[68, 65]⟩, .string ⟨#[79, 68, 65, 66]⟩, .string ⟨#[68, 65]⟩, .string ⟨#[65, 66]⟩, .string ⟨#[68, 78, 82]⟩, .string ⟨#[68, 65]⟩, .string ⟨#[68, 65]⟩] 9)
  have hE : Hid (nameOf 6 = ⟨#[68, 78, 82]⟩) := by show _ = _; simp [nameOf]
  go_enter Try.func63, Try.ntmps63
  go_wp2_with fail
  go_ret
  exact ⟨by rw [hE.out]; rfl, hB⟩
theorem names_any (k : Int) (h1 : 1 ≤ k) (h6 : k ≤ 6) (w : World) : Calls Try.prog 63 #[.int .u8 k] w fun e w' => e = .returned (.string (nameOf k)) ∧ Below w.heap.size w w' := by
  by_cases k1 : k = 1
  · subst k1
    exact names_1 w
  by_cases k2 : k = 2
  · subst k2
    exact names_2 w
  by_cases k3 : k = 3
  · subst k3
    exact names_3 w
  by_cases k4 : k = 4
  · subst k4
    exact names_4 w
  by_cases k5 : k = 5
  · subst k5
    exact names_5 w
  by_cases k6 : k = 6
  · subst k6
    exact names_6 w
  omega

/-- Is the letter c among the first j? -/
def hasTo (s : ByteArray) (c : Int) (j : Nat) : Bool := (s.data.toList.take j).any fun x => ((x.toNat : Nat) : Int) == c
theorem hasTo_step {s : ByteArray} {c : Int} {j : Nat} (h : j < s.size) : hasTo s c (j + 1) = (hasTo s c j || (((s[j].toNat : Nat) : Int) == c)) := by
  unfold hasTo
  have hl : j < s.data.toList.length := by simpa using h
  rw [List.take_succ_eq_append_getElem hl, List.any_append, List.any_cons, List.any_nil, Bool.or_false]
  rfl
def okAt (i : Ins) (s : ByteArray) : Nat → Bool
  | 0 => i.op == 0 || hasTo s 79 s.size
  | 1 => i.d == 0 || hasTo s 68 s.size
  | 2 => i.a == 0 || hasTo s 65 s.size
  | 3 => i.b == 0 || hasTo s 66 s.size
  | 4 => i.n == 0 || hasTo s 78 s.size
  | _ => len0 i.args || hasTo s 82 s.size
def zrTo (i : Ins) (s : ByteArray) (k : Nat) : Bool := (List.range k).all (okAt i s)
theorem zrTo_step (i : Ins) (s : ByteArray) (k : Nat) : zrTo i s (k + 1) = (zrTo i s k && okAt i s k) := by
  unfold zrTo
  rw [List.range_succ, List.all_append, List.all_cons, List.all_nil, Bool.and_true]
theorem zrTo_false {i : Ins} {s : ByteArray} {k : Nat} (hk : k < 6) (h : okAt i s k = false) : zrTo i s 6 = false := by
  unfold zrTo
  rw [List.all_eq_false]
  exact ⟨k, List.mem_range.2 hk, by simp [h]⟩

set_option maxHeartbeats 4000000 in
set_option maxRecDepth 100000 in
theorem zero_any (i : Ins) (u : Value) (s : ByteArray) (w : World) (hu : IntsV w u i.args) (hs : s.size ≤ 10) : Calls Try.prog 85 #[insV i u, .string s] w fun e w' => e = .returned (.bool (zrTo i s 6)) ∧ Below w.heap.size w w' := by
  obtain ⟨ua, ca, rfl⟩ := hu.slice
  have hB := bel1' w (.cells #[.int .u8 i.k, .int .u8 i.op, .int .i64 i.d, .int .i64 i.a, .int .i64 i.b, .int .i64 i.n, .slice ua i.args.length ca] 86)
  have hc : ∀ w' : World, Below (w.alloc (.cells #[.int .u8 i.k, .int .u8 i.op, .int .i64 i.d, .int .i64 i.a, .int .i64 i.b, .int .i64 i.n, .slice ua i.args.length ca] 86)).heap.size (w.alloc (.cells #[.int .u8 i.k, .int .u8 i.op, .int .i64 i.d, .int .i64 i.a, .int .i64 i.b, .int .i64 i.n, .slice ua i.args.length ca] 86)) w' →
      w'.cell? ⟨w.heap.size, 1, none⟩ = some (.int .u8 i.op) ∧ w'.cell? ⟨w.heap.size, 2, none⟩ = some (.int .i64 i.d) ∧ w'.cell? ⟨w.heap.size, 3, none⟩ = some (.int .i64 i.a) ∧ w'.cell? ⟨w.heap.size, 4, none⟩ = some (.int .i64 i.b) ∧ w'.cell? ⟨w.heap.size, 5, none⟩ = some (.int .i64 i.n) ∧ w'.cell? ⟨w.heap.size, 6, none⟩ = some (.slice ua i.args.length ca) := by
    intro w' hB'
    refine ⟨?_, ?_, ?_, ?_, ?_, ?_⟩ <;> exact cell_below hB' (by rw [World.cell?_alloc_new]; rfl)
  have HC := hide hc
  clear hu hc
  unfold insV
  go_enter Try.func85, Try.ntmps85
  go_wp2_with fail
  generalize (w.alloc (.cells #[.int .u8 i.k, .int .u8 i.op, .int .i64 i.d, .int .i64 i.a, .int .i64 i.b, .int .i64 i.n, .slice ua i.args.length ca] 86)) = w0 at *
  go_loopw [5, 6, 7, 8, 9] (fun kv _ _ _ _ wr => ∃ k : Nat, k ≤ 6 ∧ kv = .int .i64 k ∧ Hid (zrTo i s k = true) ∧ Below w0.heap.size w0 wr) (fun kv _ _ _ _ _ => 6 - (intOf kv).toNat)
  case atStart => exact ⟨0, by omega, rfl, rfl, Below.refl _ _⟩
  case round =>
    obtain ⟨k, hk, rfl, hz, hBr⟩ := hrel
    obtain ⟨c1, c2, c3, c4, c5, c6⟩ := HC.out wr hBr
    by_cases k0 : k = 0
    · subst k0
      go_wp2_with fail
      go_loop [7, 8] (fun isv jv => ∃ j : Nat, j ≤ s.size ∧ jv = .int .i64 j ∧ isv = .bool (hasTo s 79 j)) (fun _ jv => s.size - (intOf jv).toNat)
      case atStart => exact ⟨0, by omega, rfl, rfl⟩
      case round =>
        obtain ⟨j, hj, rfl, rfl⟩ := hrel
        by_cases hlt : j < s.size
        · have hst := hide (hasTo_step (c := 79) hlt)
          cases hh : hasTo s 79 j with
          | false =>
            go_wp2_with fail
            go_round
            case rel => exact ⟨j + 1, by omega, by go_num, by rw [hst.out, hh, Bool.false_or]; rfl⟩
            case measure => simp [intOf]; omega
          | true =>
            go_wp2_with fail
            go_round
            case rel => exact ⟨j + 1, by omega, by go_num, by rw [hst.out, hh, Bool.true_or]⟩
            case measure => simp [intOf]; omega
        · obtain rfl : j = s.size := by omega
          have hok : Hid (okAt i s 0 = (i.op == 0 || hasTo s 79 s.size)) := rfl
          have hzs := hide (zrTo_step i s 0)
          by_cases hf : i.op = 0
          · have q : (i.op != 0) = false := by simp [hf]
            have hz2 : Hid (zrTo i s 1 = true) := by
              show _ = _
              rw [hzs.out, hz.out, hok.out, hf]
              rfl
            clear hok hzs hz hf
            go_wp2_with fail
            go_roundw
            case rel => exact ⟨1, by omega, rfl, hz2, hBr.alloc hBr.size _⟩
            case measure => simp [intOf]
          · have q : (i.op != 0) = true := by simpa using hf
            cases hh : hasTo s 79 s.size with
            | true =>
              have hz2 : Hid (zrTo i s 1 = true) := by
                show _ = _
                rw [hzs.out, hz.out, hok.out, hh]
                simp
              clear hok hzs hz hf
              go_wp2_with fail
              go_roundw
              case rel => exact ⟨1, by omega, rfl, hz2, hBr.alloc hBr.size _⟩
              case measure => simp [intOf]
            | false =>
              have hz2 : Hid (zrTo i s 6 = false) := by
                refine zrTo_false (k := 0) (by omega) ?_
                rw [hok.out, hh]
                simp [hf]
              clear hok hzs hz hf
              go_wp2_with fail
              go_ret
              exact ⟨by rw [hz2.out]; rfl, bel_of hB (hBr.alloc hBr.size _)⟩
    by_cases k1 : k = 1
    · subst k1
      go_wp2_with fail
      go_loop [7, 8] (fun isv jv => ∃ j : Nat, j ≤ s.size ∧ jv = .int .i64 j ∧ isv = .bool (hasTo s 68 j)) (fun _ jv => s.size - (intOf jv).toNat)
      case atStart => exact ⟨0, by omega, rfl, rfl⟩
      case round =>
        obtain ⟨j, hj, rfl, rfl⟩ := hrel
        by_cases hlt : j < s.size
        · have hst := hide (hasTo_step (c := 68) hlt)
          cases hh : hasTo s 68 j with
          | false =>
            go_wp2_with fail
            go_round
            case rel => exact ⟨j + 1, by omega, by go_num, by rw [hst.out, hh, Bool.false_or]; rfl⟩
            case measure => simp [intOf]; omega
          | true =>
            go_wp2_with fail
            go_round
            case rel => exact ⟨j + 1, by omega, by go_num, by rw [hst.out, hh, Bool.true_or]⟩
            case measure => simp [intOf]; omega
        · obtain rfl : j = s.size := by omega
          have hok : Hid (okAt i s 1 = (i.d == 0 || hasTo s 68 s.size)) := rfl
          have hzs := hide (zrTo_step i s 1)
          by_cases hf : i.d = 0
          · have q : (i.d != 0) = false := by simp [hf]
            have hz2 : Hid (zrTo i s 2 = true) := by
              show _ = _
              rw [hzs.out, hz.out, hok.out, hf]
              rfl
            clear hok hzs hz hf
            go_wp2_with fail
            go_roundw
            case rel => exact ⟨2, by omega, rfl, hz2, hBr.alloc hBr.size _⟩
            case measure => simp [intOf]
          · have q : (i.d != 0) = true := by simpa using hf
            cases hh : hasTo s 68 s.size with
            | true =>
              have hz2 : Hid (zrTo i s 2 = true) := by
                show _ = _
                rw [hzs.out, hz.out, hok.out, hh]
                simp
              clear hok hzs hz hf
              go_wp2_with fail
              go_roundw
              case rel => exact ⟨2, by omega, rfl, hz2, hBr.alloc hBr.size _⟩
              case measure => simp [intOf]
            | false =>
              have hz2 : Hid (zrTo i s 6 = false) := by
                refine zrTo_false (k := 1) (by omega) ?_
                rw [hok.out, hh]
                simp [hf]
              clear hok hzs hz hf
              go_wp2_with fail
              go_ret
              exact ⟨by rw [hz2.out]; rfl, bel_of hB (hBr.alloc hBr.size _)⟩
    by_cases k2 : k = 2
    · subst k2
      go_wp2_with fail
      go_loop [7, 8] (fun isv jv => ∃ j : Nat, j ≤ s.size ∧ jv = .int .i64 j ∧ isv = .bool (hasTo s 65 j)) (fun _ jv => s.size - (intOf jv).toNat)
      case atStart => exact ⟨0, by omega, rfl, rfl⟩
      case round =>
        obtain ⟨j, hj, rfl, rfl⟩ := hrel
        by_cases hlt : j < s.size
        · have hst := hide (hasTo_step (c := 65) hlt)
          cases hh : hasTo s 65 j with
          | false =>
            go_wp2_with fail
            go_round
            case rel => exact ⟨j + 1, by omega, by go_num, by rw [hst.out, hh, Bool.false_or]; rfl⟩
            case measure => simp [intOf]; omega
          | true =>
            go_wp2_with fail
            go_round
            case rel => exact ⟨j + 1, by omega, by go_num, by rw [hst.out, hh, Bool.true_or]⟩
            case measure => simp [intOf]; omega
        · obtain rfl : j = s.size := by omega
          have hok : Hid (okAt i s 2 = (i.a == 0 || hasTo s 65 s.size)) := rfl
          have hzs := hide (zrTo_step i s 2)
          by_cases hf : i.a = 0
          · have q : (i.a != 0) = false := by simp [hf]
            have hz2 : Hid (zrTo i s 3 = true) := by
              show _ = _
              rw [hzs.out, hz.out, hok.out, hf]
              rfl
            clear hok hzs hz hf
            go_wp2_with fail
            go_roundw
            case rel => exact ⟨3, by omega, rfl, hz2, hBr.alloc hBr.size _⟩
            case measure => simp [intOf]
          · have q : (i.a != 0) = true := by simpa using hf
            cases hh : hasTo s 65 s.size with
            | true =>
              have hz2 : Hid (zrTo i s 3 = true) := by
                show _ = _
                rw [hzs.out, hz.out, hok.out, hh]
                simp
              clear hok hzs hz hf
              go_wp2_with fail
              go_roundw
              case rel => exact ⟨3, by omega, rfl, hz2, hBr.alloc hBr.size _⟩
              case measure => simp [intOf]
            | false =>
              have hz2 : Hid (zrTo i s 6 = false) := by
                refine zrTo_false (k := 2) (by omega) ?_
                rw [hok.out, hh]
                simp [hf]
              clear hok hzs hz hf
              go_wp2_with fail
              go_ret
              exact ⟨by rw [hz2.out]; rfl, bel_of hB (hBr.alloc hBr.size _)⟩
    by_cases k3 : k = 3
    · subst k3
      go_wp2_with fail
      go_loop [7, 8] (fun isv jv => ∃ j : Nat, j ≤ s.size ∧ jv = .int .i64 j ∧ isv = .bool (hasTo s 66 j)) (fun _ jv => s.size - (intOf jv).toNat)
      case atStart => exact ⟨0, by omega, rfl, rfl⟩
      case round =>
        obtain ⟨j, hj, rfl, rfl⟩ := hrel
        by_cases hlt : j < s.size
        · have hst := hide (hasTo_step (c := 66) hlt)
          cases hh : hasTo s 66 j with
          | false =>
            go_wp2_with fail
            go_round
            case rel => exact ⟨j + 1, by omega, by go_num, by rw [hst.out, hh, Bool.false_or]; rfl⟩
            case measure => simp [intOf]; omega
          | true =>
            go_wp2_with fail
            go_round
            case rel => exact ⟨j + 1, by omega, by go_num, by rw [hst.out, hh, Bool.true_or]⟩
            case measure => simp [intOf]; omega
        · obtain rfl : j = s.size := by omega
          have hok : Hid (okAt i s 3 = (i.b == 0 || hasTo s 66 s.size)) := rfl
          have hzs := hide (zrTo_step i s 3)
          by_cases hf : i.b = 0
          · have q : (i.b != 0) = false := by simp [hf]
            have hz2 : Hid (zrTo i s 4 = true) := by
              show _ = _
              rw [hzs.out, hz.out, hok.out, hf]
              rfl
            clear hok hzs hz hf
            go_wp2_with fail
            go_roundw
            case rel => exact ⟨4, by omega, rfl, hz2, hBr.alloc hBr.size _⟩
            case measure => simp [intOf]
          · have q : (i.b != 0) = true := by simpa using hf
            cases hh : hasTo s 66 s.size with
            | true =>
              have hz2 : Hid (zrTo i s 4 = true) := by
                show _ = _
                rw [hzs.out, hz.out, hok.out, hh]
                simp
              clear hok hzs hz hf
              go_wp2_with fail
              go_roundw
              case rel => exact ⟨4, by omega, rfl, hz2, hBr.alloc hBr.size _⟩
              case measure => simp [intOf]
            | false =>
              have hz2 : Hid (zrTo i s 6 = false) := by
                refine zrTo_false (k := 3) (by omega) ?_
                rw [hok.out, hh]
                simp [hf]
              clear hok hzs hz hf
              go_wp2_with fail
              go_ret
              exact ⟨by rw [hz2.out]; rfl, bel_of hB (hBr.alloc hBr.size _)⟩
    by_cases k4 : k = 4
    · subst k4
      go_wp2_with fail
      go_loop [7, 8] (fun isv jv => ∃ j : Nat, j ≤ s.size ∧ jv = .int .i64 j ∧ isv = .bool (hasTo s 78 j)) (fun _ jv => s.size - (intOf jv).toNat)
      case atStart => exact ⟨0, by omega, rfl, rfl⟩
      case round =>
        obtain ⟨j, hj, rfl, rfl⟩ := hrel
        by_cases hlt : j < s.size
        · have hst := hide (hasTo_step (c := 78) hlt)
          cases hh : hasTo s 78 j with
          | false =>
            go_wp2_with fail
            go_round
            case rel => exact ⟨j + 1, by omega, by go_num, by rw [hst.out, hh, Bool.false_or]; rfl⟩
            case measure => simp [intOf]; omega
          | true =>
            go_wp2_with fail
            go_round
            case rel => exact ⟨j + 1, by omega, by go_num, by rw [hst.out, hh, Bool.true_or]⟩
            case measure => simp [intOf]; omega
        · obtain rfl : j = s.size := by omega
          have hok : Hid (okAt i s 4 = (i.n == 0 || hasTo s 78 s.size)) := rfl
          have hzs := hide (zrTo_step i s 4)
          by_cases hf : i.n = 0
          · have q : (i.n != 0) = false := by simp [hf]
            have hz2 : Hid (zrTo i s 5 = true) := by
              show _ = _
              rw [hzs.out, hz.out, hok.out, hf]
              rfl
            clear hok hzs hz hf
            go_wp2_with fail
            go_roundw
            case rel => exact ⟨5, by omega, rfl, hz2, hBr.alloc hBr.size _⟩
            case measure => simp [intOf]
          · have q : (i.n != 0) = true := by simpa using hf
            cases hh : hasTo s 78 s.size with
            | true =>
              have hz2 : Hid (zrTo i s 5 = true) := by
                show _ = _
                rw [hzs.out, hz.out, hok.out, hh]
                simp
              clear hok hzs hz hf
              go_wp2_with fail
              go_roundw
              case rel => exact ⟨5, by omega, rfl, hz2, hBr.alloc hBr.size _⟩
              case measure => simp [intOf]
            | false =>
              have hz2 : Hid (zrTo i s 6 = false) := by
                refine zrTo_false (k := 4) (by omega) ?_
                rw [hok.out, hh]
                simp [hf]
              clear hok hzs hz hf
              go_wp2_with fail
              go_ret
              exact ⟨by rw [hz2.out]; rfl, bel_of hB (hBr.alloc hBr.size _)⟩
    by_cases k5 : k = 5
    · subst k5
      go_wp2_with fail
      go_loop [7, 8] (fun isv jv => ∃ j : Nat, j ≤ s.size ∧ jv = .int .i64 j ∧ isv = .bool (hasTo s 82 j)) (fun _ jv => s.size - (intOf jv).toNat)
      case atStart => exact ⟨0, by omega, rfl, rfl⟩
      case round =>
        obtain ⟨j, hj, rfl, rfl⟩ := hrel
        by_cases hlt : j < s.size
        · have hst := hide (hasTo_step (c := 82) hlt)
          cases hh : hasTo s 82 j with
          | false =>
            go_wp2_with fail
            go_round
            case rel => exact ⟨j + 1, by omega, by go_num, by rw [hst.out, hh, Bool.false_or]; rfl⟩
            case measure => simp [intOf]; omega
          | true =>
            go_wp2_with fail
            go_round
            case rel => exact ⟨j + 1, by omega, by go_num, by rw [hst.out, hh, Bool.true_or]⟩
            case measure => simp [intOf]; omega
        · obtain rfl : j = s.size := by omega
          have hok : Hid (okAt i s 5 = (len0 i.args || hasTo s 82 s.size)) := rfl
          have hzs := hide (zrTo_step i s 5)
          by_cases hf : i.args.length = 0
          · have q : ¬ 0 < (i.args.length : Int) := by omega
            have hz2 : Hid (zrTo i s 6 = true) := by
              show _ = _
              rw [hzs.out, hz.out, hok.out, len0_eq]
              simp [hf]
            clear hok hzs hz hf
            go_wp2_with fail
            go_roundw
            case rel => exact ⟨6, by omega, rfl, hz2, hBr.alloc hBr.size _⟩
            case measure => simp [intOf]
          · have q : 0 < (i.args.length : Int) := by omega
            cases hh : hasTo s 82 s.size with
            | true =>
              have hz2 : Hid (zrTo i s 6 = true) := by
                show _ = _
                rw [hzs.out, hz.out, hok.out, hh]
                simp
              clear hok hzs hz hf
              go_wp2_with fail
              go_roundw
              case rel => exact ⟨6, by omega, rfl, hz2, hBr.alloc hBr.size _⟩
              case measure => simp [intOf]
            | false =>
              have hz2 : Hid (zrTo i s 6 = false) := by
                refine zrTo_false (k := 5) (by omega) ?_
                rw [hok.out, hh]
                simp [len0_eq, hf]
              clear hok hzs hz hf
              go_wp2_with fail
              go_ret
              exact ⟨by rw [hz2.out]; rfl, bel_of hB (hBr.alloc hBr.size _)⟩
    obtain rfl : k = 6 := by omega
    go_wp2_with fail
    go_ret
    exact ⟨by rw [hz.out]; rfl, bel_of hB hBr⟩
end Go.Proofs.Ytbjnhicikkjadaa
namespace Go.Proofs.Ytbjnhicikkjadaa
open Go.RowKit Ir

theorem name_small (k : Int) : (nameOf k).size ≤ 10 := by
  unfold nameOf
  (repeat' split) <;> decide
/-- The document's test and ir's: the same. -/
theorem formed_zr (i : Ins) : (((decide (i.k < 1) || decide (6 < i.k)) || !(zrTo i (nameOf i.k) 6)) || ((i.k == 3) && (decide (i.op < 1) || decide (7 < i.op)))) = !(formed i) := by
  obtain ⟨k, op, d, a, b, n, args⟩ := i
  have hzr : ∀ (k : Int) (s : ByteArray), zrTo ⟨k, op, d, a, b, n, args⟩ s 6 = ((op == 0 || hasTo s 79 s.size) && ((d == 0 || hasTo s 68 s.size) && ((a == 0 || hasTo s 65 s.size) && ((b == 0 || hasTo s 66 s.size) && ((n == 0 || hasTo s 78 s.size) && ((len0 args || hasTo s 82 s.size))))))) := by
    intro k s
    simp only [zrTo, List.range, List.range.loop, List.all_cons, List.all_nil, okAt, Bool.and_true]
  by_cases k1 : k = 1
  · subst k1
    rw [hzr, formed_1]
    have e : nameOf 1 = ⟨#[68, 78]⟩ := rfl
    rw [e]
    have h79 : hasTo ⟨#[68, 78]⟩ 79 (ByteArray.size ⟨#[68, 78]⟩) = false := by decide
    have h68 : hasTo ⟨#[68, 78]⟩ 68 (ByteArray.size ⟨#[68, 78]⟩) = true := by decide
    have h65 : hasTo ⟨#[68, 78]⟩ 65 (ByteArray.size ⟨#[68, 78]⟩) = false := by decide
    have h66 : hasTo ⟨#[68, 78]⟩ 66 (ByteArray.size ⟨#[68, 78]⟩) = false := by decide
    have h78 : hasTo ⟨#[68, 78]⟩ 78 (ByteArray.size ⟨#[68, 78]⟩) = true := by decide
    have h82 : hasTo ⟨#[68, 78]⟩ 82 (ByteArray.size ⟨#[68, 78]⟩) = false := by decide
    rw [h79, h68, h65, h66, h78, h82]
    cases (op == 0) <;> cases (a == 0) <;> cases (b == 0) <;> cases (d == 0) <;> cases (n == 0) <;> cases len0 args <;> rfl
  by_cases k2 : k = 2
  · subst k2
    rw [hzr, formed_2 2 op d a b n args (.inl rfl)]
    have e : nameOf 2 = ⟨#[68, 65]⟩ := by simp [nameOf]
    rw [e]
    have h79 : hasTo ⟨#[68, 65]⟩ 79 (ByteArray.size ⟨#[68, 65]⟩) = false := by decide
    have h68 : hasTo ⟨#[68, 65]⟩ 68 (ByteArray.size ⟨#[68, 65]⟩) = true := by decide
    have h65 : hasTo ⟨#[68, 65]⟩ 65 (ByteArray.size ⟨#[68, 65]⟩) = true := by decide
    have h66 : hasTo ⟨#[68, 65]⟩ 66 (ByteArray.size ⟨#[68, 65]⟩) = false := by decide
    have h78 : hasTo ⟨#[68, 65]⟩ 78 (ByteArray.size ⟨#[68, 65]⟩) = false := by decide
    have h82 : hasTo ⟨#[68, 65]⟩ 82 (ByteArray.size ⟨#[68, 65]⟩) = false := by decide
    rw [h79, h68, h65, h66, h78, h82]
    cases (op == 0) <;> cases (a == 0) <;> cases (b == 0) <;> cases (d == 0) <;> cases (n == 0) <;> cases len0 args <;> rfl
  by_cases k3 : k = 3
  · subst k3
    rw [hzr, formed_3]
    have e : nameOf 3 = ⟨#[79, 68, 65, 66]⟩ := by simp [nameOf]
    rw [e]
    have h79 : hasTo ⟨#[79, 68, 65, 66]⟩ 79 (ByteArray.size ⟨#[79, 68, 65, 66]⟩) = true := by decide
    have h68 : hasTo ⟨#[79, 68, 65, 66]⟩ 68 (ByteArray.size ⟨#[79, 68, 65, 66]⟩) = true := by decide
    have h65 : hasTo ⟨#[79, 68, 65, 66]⟩ 65 (ByteArray.size ⟨#[79, 68, 65, 66]⟩) = true := by decide
    have h66 : hasTo ⟨#[79, 68, 65, 66]⟩ 66 (ByteArray.size ⟨#[79, 68, 65, 66]⟩) = true := by decide
    have h78 : hasTo ⟨#[79, 68, 65, 66]⟩ 78 (ByteArray.size ⟨#[79, 68, 65, 66]⟩) = false := by decide
    have h82 : hasTo ⟨#[79, 68, 65, 66]⟩ 82 (ByteArray.size ⟨#[79, 68, 65, 66]⟩) = false := by decide
    rw [h79, h68, h65, h66, h78, h82]
    have q1 : decide (1 ≤ op) = !decide (op < 1) := by rw [Bool.eq_iff_iff]; simp
    have q2 : decide (op ≤ 7) = !decide (7 < op) := by rw [Bool.eq_iff_iff]; simp
    rw [q1, q2]
    cases (op == 0) <;> cases decide (op < 1) <;> cases decide (7 < op) <;> cases (n == 0) <;> cases len0 args <;> cases (a == 0) <;> cases (b == 0) <;> cases (d == 0) <;> rfl
  by_cases k4 : k = 4
  · subst k4
    rw [hzr, formed_2 4 op d a b n args (.inr rfl)]
    have e : nameOf 4 = ⟨#[68, 65]⟩ := by simp [nameOf]
    rw [e]
    have h79 : hasTo ⟨#[68, 65]⟩ 79 (ByteArray.size ⟨#[68, 65]⟩) = false := by decide
    have h68 : hasTo ⟨#[68, 65]⟩ 68 (ByteArray.size ⟨#[68, 65]⟩) = true := by decide
    have h65 : hasTo ⟨#[68, 65]⟩ 65 (ByteArray.size ⟨#[68, 65]⟩) = true := by decide
    have h66 : hasTo ⟨#[68, 65]⟩ 66 (ByteArray.size ⟨#[68, 65]⟩) = false := by decide
    have h78 : hasTo ⟨#[68, 65]⟩ 78 (ByteArray.size ⟨#[68, 65]⟩) = false := by decide
    have h82 : hasTo ⟨#[68, 65]⟩ 82 (ByteArray.size ⟨#[68, 65]⟩) = false := by decide
    rw [h79, h68, h65, h66, h78, h82]
    cases (op == 0) <;> cases (a == 0) <;> cases (b == 0) <;> cases (d == 0) <;> cases (n == 0) <;> cases len0 args <;> rfl
  by_cases k5 : k = 5
  · subst k5
    rw [hzr, formed_5]
    have e : nameOf 5 = ⟨#[65, 66]⟩ := by simp [nameOf]
    rw [e]
    have h79 : hasTo ⟨#[65, 66]⟩ 79 (ByteArray.size ⟨#[65, 66]⟩) = false := by decide
    have h68 : hasTo ⟨#[65, 66]⟩ 68 (ByteArray.size ⟨#[65, 66]⟩) = false := by decide
    have h65 : hasTo ⟨#[65, 66]⟩ 65 (ByteArray.size ⟨#[65, 66]⟩) = true := by decide
    have h66 : hasTo ⟨#[65, 66]⟩ 66 (ByteArray.size ⟨#[65, 66]⟩) = true := by decide
    have h78 : hasTo ⟨#[65, 66]⟩ 78 (ByteArray.size ⟨#[65, 66]⟩) = false := by decide
    have h82 : hasTo ⟨#[65, 66]⟩ 82 (ByteArray.size ⟨#[65, 66]⟩) = false := by decide
    rw [h79, h68, h65, h66, h78, h82]
    cases (op == 0) <;> cases (a == 0) <;> cases (b == 0) <;> cases (d == 0) <;> cases (n == 0) <;> cases len0 args <;> rfl
  by_cases k6 : k = 6
  · subst k6
    rw [hzr, formed_6]
    have e : nameOf 6 = ⟨#[68, 78, 82]⟩ := by simp [nameOf]
    rw [e]
    have h79 : hasTo ⟨#[68, 78, 82]⟩ 79 (ByteArray.size ⟨#[68, 78, 82]⟩) = false := by decide
    have h68 : hasTo ⟨#[68, 78, 82]⟩ 68 (ByteArray.size ⟨#[68, 78, 82]⟩) = true := by decide
    have h65 : hasTo ⟨#[68, 78, 82]⟩ 65 (ByteArray.size ⟨#[68, 78, 82]⟩) = false := by decide
    have h66 : hasTo ⟨#[68, 78, 82]⟩ 66 (ByteArray.size ⟨#[68, 78, 82]⟩) = false := by decide
    have h78 : hasTo ⟨#[68, 78, 82]⟩ 78 (ByteArray.size ⟨#[68, 78, 82]⟩) = true := by decide
    have h82 : hasTo ⟨#[68, 78, 82]⟩ 82 (ByteArray.size ⟨#[68, 78, 82]⟩) = true := by decide
    rw [h79, h68, h65, h66, h78, h82]
    cases (op == 0) <;> cases (a == 0) <;> cases (b == 0) <;> cases (d == 0) <;> cases (n == 0) <;> cases len0 args <;> rfl
  have hx := formed_x k op d a b n args ⟨k1, k2, k3, k4, k5, k6⟩
  rw [hx]
  have : (decide (k < 1) || decide (6 < k)) = true := by
    by_cases h : k < 1
    · simp [h]
    · have : 6 < k := by omega
      simp [this]
  simp only [this, Bool.true_or, Bool.not_false]

/-- What is known of each temporary of the document's first test. -/
def Gri (g : Nat) (c1 c2 c3 c4 c5 z : Bool) (i : Ins) (u : Value) : Tmp → Value → World → Prop
  | 12, xx, _ => xx = .pointer (some ⟨g, 0, none⟩)
  | 13, xx, _ => xx = .int .u8 i.k
  | 14, xx, _ => xx = .bool (c1)
  | 15, xx, _ => xx = .bool (c1)
  | 16, xx, _ => xx = if (!(c1)) = true then .pointer (some ⟨g, 0, none⟩) else undef
  | 17, xx, _ => xx = if (!(c1)) = true then .int .u8 i.k else undef
  | 18, xx, _ => xx = if (!(c1)) = true then .int .u8 6 else undef
  | 19, xx, _ => xx = if (!(c1)) = true then .bool (c2) else undef
  | 20, xx, _ => xx = .bool (c1 || c2)
  | 21, xx, _ => xx = .bool (c1 || c2)
  | 22, xx, _ => xx = if (!(c1 || c2)) = true then insV i u else undef
  | 23, xx, _ => xx = if (!(c1 || c2)) = true then .pointer (some ⟨g, 0, none⟩) else undef
  | 24, xx, _ => xx = if (!(c1 || c2)) = true then .int .u8 i.k else undef
  | 25, xx, _ => xx = if (!(c1 || c2)) = true then .string (nameOf i.k) else undef
  | 26, xx, _ => xx = if (!(c1 || c2)) = true then .bool (z) else undef
  | 27, xx, _ => xx = if (!(c1 || c2)) = true then .bool (!z) else undef
  | 28, xx, _ => xx = .bool ((c1 || c2) || !z)
  | 29, xx, _ => xx = .bool ((c1 || c2) || !z)
  | 30, xx, _ => xx = if (!((c1 || c2) || !z)) = true then .pointer (some ⟨g, 0, none⟩) else undef
  | 31, xx, _ => xx = if (!((c1 || c2) || !z)) = true then .int .u8 i.k else undef
  | 32, xx, _ => xx = if (!((c1 || c2) || !z)) = true then .bool (c3) else undef
  | 33, xx, _ => xx = if (!((c1 || c2) || !z)) = true then .bool (c3) else undef
  | 34, xx, _ => xx = if ((!((c1 || c2) || !z)) && (c3)) = true then .pointer (some ⟨g, 1, none⟩) else undef
  | 35, xx, _ => xx = if ((!((c1 || c2) || !z)) && (c3)) = true then .int .u8 i.op else undef
  | 36, xx, _ => xx = if ((!((c1 || c2) || !z)) && (c3)) = true then .bool (c4) else undef
  | 37, xx, _ => xx = if ((!((c1 || c2) || !z)) && (c3)) = true then .bool (c4) else undef
  | 38, xx, _ => xx = if (((!((c1 || c2) || !z)) && (c3)) && (!(c4))) = true then .pointer (some ⟨g, 1, none⟩) else undef
  | 39, xx, _ => xx = if (((!((c1 || c2) || !z)) && (c3)) && (!(c4))) = true then .int .u8 i.op else undef
  | 40, xx, _ => xx = if (((!((c1 || c2) || !z)) && (c3)) && (!(c4))) = true then .bool (c5) else undef
  | 41, xx, _ => xx = if ((!((c1 || c2) || !z)) && (c3)) = true then .bool (c4 || c5) else undef
  | 42, xx, _ => xx = if (!((c1 || c2) || !z)) = true then .bool (c3 && (c4 || c5)) else undef
  | 43, xx, _ => xx = .bool (((c1 || c2) || !z) || (c3 && (c4 || c5)))
  | _, _, _ => True

set_option maxHeartbeats 4000000 in
set_option maxRecDepth 100000 in
theorem refIns_any (i : Ins) (u : Value) (v : Int) (w : World) (hu : IntsV w u i.args) : Calls Try.prog 61 #[insV i u, .int .i64 v, .int .i64 (-1)] w fun e w' => e = .returned (.int .i64 (inF i v)) ∧ Below w.heap.size w w' := by
  obtain ⟨ua, ca, rfl⟩ := hu.slice
  have hB0 := bel1 w (.cells #[.int .u8 i.k, .int .u8 i.op, .int .i64 i.d, .int .i64 i.a, .int .i64 i.b, .int .i64 i.n, .slice ua i.args.length ca] 86)
  have hi0 := hide (boxI (Below.refl _ (w.alloc (.cells #[.int .u8 i.k, .int .u8 i.op, .int .i64 i.d, .int .i64 i.a, .int .i64 i.b, .int .i64 i.n, .slice ua i.args.length ca] 86))))
  have HU := hide (hu.below hB0)
  have HF := hide (formed_zr i)
  unfold insV
  clear hu
  go_enter Try.func61, Try.ntmps61
  go_wp2_with fail
  generalize (w.alloc (.cells #[.int .u8 i.k, .int .u8 i.op, .int .i64 i.d, .int .i64 i.a, .int .i64 i.b, .int .i64 i.n, .slice ua i.args.length ca] 86)) = w0 at *
  have hk16 : (!(decide (i.k < 1) || decide (6 < i.k))) = true → 1 ≤ i.k ∧ i.k ≤ 6 := by
    intro h
    simp at h
    omega
  have HF' := HF.out
  generalize h1 : decide (i.k < 1) = c1 at hk16 HF'
  generalize h2 : decide (6 < i.k) = c2 at hk16 HF'
  generalize h3 : (i.k == 3) = c3 at HF'
  generalize h4 : decide (i.op < 1) = c4 at HF'
  generalize h5 : decide (7 < i.op) = c5 at HF'
  generalize hz : zrTo i (nameOf i.k) 6 = z at HF'
  have hi := hi0.out
  have hu := HU.out
  generalize h0u : Value.slice ua i.args.length ca = u at hi hu
  have hgsz := hB0
  generalize hgz : w.heap.size = g at hi ⊢
  refine wp_region_each (by kernel_rfl) (fun d y _ => Gri g c1 c2 c3 c4 c5 z i u d y w0) (fun _ W => Below w0.heap.size w0 W) (by kernel_rfl) (Below.refl _ _).drew ?_ ?_
  · refine And.intro ?_ (And.intro ?_ (And.intro ?_ (And.intro ?_ (And.intro ?_ (And.intro ?_ (And.intro ?_ (And.intro ?_ (And.intro ?_ (And.intro ?_ (And.intro ?_ (And.intro ?_ (And.intro ?_ (And.intro ?_ (And.intro ?_ (And.intro ?_ (And.intro ?_ (And.intro ?_ (And.intro ?_ (And.intro ?_ (And.intro ?_ (And.intro ?_ (And.intro ?_ (And.intro ?_ (And.intro ?_ (And.intro ?_ (And.intro ?_ (And.intro ?_ (And.intro ?_ (And.intro ?_ (And.intro ?_ (And.intro ?_ trivial)))))))))))))))))))))))))))))))
    · refine asked_pure rfl rfl (fun _ _ h => h) (fun _ _ _ => rfl) (fun l a W H => ?_)
      have e3 : a.eval (.tmp 3) = .pointer (some ⟨g, 0, none⟩) := H.base 3 rfl
      (simp only [execOp]; try simp only [Option.map]); (try simp only [List.map_toArray, List.map_cons, List.map_nil]); (simp only [e3]; go_simp)
    · refine asked_pure rfl rfl (fun _ _ h => h) (fun _ _ _ => rfl) (fun l a W H => ?_)
      have e12 : a.eval (.tmp 12) = .pointer (some ⟨g, 0, none⟩) := H.facts 12 rfl
      have hcc := cell_below H.s hi.c0
      (simp only [execOp]; try simp only [Option.map]); (try simp only [List.map_toArray, List.map_cons, List.map_nil]); (simp only [e12]; go_simp)
    · refine asked_pure rfl rfl (fun _ _ h => h) (fun _ _ _ => rfl) (fun l a W H => ?_)
      have e13 : a.eval (.tmp 13) = .int .u8 i.k := H.facts 13 rfl
      rw [← h1]
      (simp only [execOp]; try simp only [Option.map]); (try simp only [List.map_toArray, List.map_cons, List.map_nil]); (simp only [e13]; go_simp)
    · refine asked_pure rfl rfl (fun _ _ h => h) (fun _ _ _ => rfl) (fun l a W H => ?_)
      have e14 : a.eval (.tmp 14) = .bool (c1) := H.facts 14 rfl
      exact run_move rfl e14
    · refine asked_guard (c := (!(c1))) (v := .pointer (some ⟨g, 0, none⟩)) rfl rfl rfl rfl (fun _ _ h => h) ?_ (fun _ _ _ => rfl) ?_
      · intro l u W _ hu
        have hu : u = .bool (c1) := hu
        exact want_f hu
      intro hc l a W H
      have e3 : a.eval (.tmp 3) = .pointer (some ⟨g, 0, none⟩) := H.base 3 rfl
      (simp only [execOp]; try simp only [Option.map]); (try simp only [List.map_toArray, List.map_cons, List.map_nil]); (simp only [e3]; go_simp)
    · refine asked_guard (c := (!(c1))) (v := .int .u8 i.k) rfl rfl rfl rfl (fun _ _ h => h) ?_ (fun _ _ _ => rfl) ?_
      · intro l u W _ hu
        have hu : u = .bool (c1) := hu
        exact want_f hu
      intro hc l a W H
      have e16 : a.eval (.tmp 16) = .pointer (some ⟨g, 0, none⟩) := by
        have e : a.eval (.tmp 16) = if (!(c1)) = true then .pointer (some ⟨g, 0, none⟩) else undef := H.facts 16 rfl
        rw [if_pos hc] at e
        exact e
      have hcc := cell_below H.s hi.c0
      (simp only [execOp]; try simp only [Option.map]); (try simp only [List.map_toArray, List.map_cons, List.map_nil]); (simp only [e16]; go_simp)
    · refine asked_guard (c := (!(c1))) (v := .int .u8 6) rfl rfl rfl rfl (fun _ _ h => h) ?_ (fun _ _ _ => rfl) ?_
      · intro l u W _ hu
        have hu : u = .bool (c1) := hu
        exact want_f hu
      intro hc l a W H
      have e7 : a.eval (.tmp 7) = .int .u8 6 := H.base 7 rfl
      exact run_move rfl e7
    · refine asked_guard (c := (!(c1))) (v := .bool (c2)) rfl rfl rfl rfl (fun _ _ h => h) ?_ (fun _ _ _ => rfl) ?_
      · intro l u W _ hu
        have hu : u = .bool (c1) := hu
        exact want_f hu
      intro hc l a W H
      have e17 : a.eval (.tmp 17) = .int .u8 i.k := by
        have e : a.eval (.tmp 17) = if (!(c1)) = true then .int .u8 i.k else undef := H.facts 17 rfl
        rw [if_pos hc] at e
        exact e
      have e18 : a.eval (.tmp 18) = .int .u8 6 := by
        have e : a.eval (.tmp 18) = if (!(c1)) = true then .int .u8 6 else undef := H.facts 18 rfl
        rw [if_pos hc] at e
        exact e
      rw [← h2]
      (simp only [execOp]; try simp only [Option.map]); (try simp only [List.map_toArray, List.map_cons, List.map_nil]); (simp only [e17, e18]; go_simp)
    · refine asked_pure rfl rfl (fun _ _ h => h) (fun _ _ _ => rfl) (fun l a W H => ?_)
      have e15 : a.eval (.tmp 15) = .bool (c1) := H.facts 15 rfl
      exact run_pick_or rfl e15 (fun hb => by
        have hc : (!(c1)) = true := by simp_all
        have e19 : a.eval (.tmp 19) = .bool (c2) := by
          have e : a.eval (.tmp 19) = if (!(c1)) = true then .bool (c2) else undef := H.facts 19 rfl
          rw [if_pos hc] at e
          exact e
        exact e19)
    · refine asked_pure rfl rfl (fun _ _ h => h) (fun _ _ _ => rfl) (fun l a W H => ?_)
      have e20 : a.eval (.tmp 20) = .bool (c1 || c2) := H.facts 20 rfl
      exact run_move rfl e20
    · refine asked_guard (c := (!(c1 || c2))) (v := insV i u) rfl rfl rfl rfl (fun _ _ h => h) ?_ (fun _ _ _ => rfl) ?_
      · intro l u W _ hu
        have hu : u = .bool (c1 || c2) := hu
        exact want_f hu
      intro hc l a W H
      have e3 : a.eval (.tmp 3) = .pointer (some ⟨g, 0, none⟩) := H.base 3 rfl
      exact run_load46 rfl e3 (hi.below H.s)
    · refine asked_guard (c := (!(c1 || c2))) (v := .pointer (some ⟨g, 0, none⟩)) rfl rfl rfl rfl (fun _ _ h => h) ?_ (fun _ _ _ => rfl) ?_
      · intro l u W _ hu
        have hu : u = .bool (c1 || c2) := hu
        exact want_f hu
      intro hc l a W H
      have e3 : a.eval (.tmp 3) = .pointer (some ⟨g, 0, none⟩) := H.base 3 rfl
      (simp only [execOp]; try simp only [Option.map]); (try simp only [List.map_toArray, List.map_cons, List.map_nil]); (simp only [e3]; go_simp)
    · refine asked_guard (c := (!(c1 || c2))) (v := .int .u8 i.k) rfl rfl rfl rfl (fun _ _ h => h) ?_ (fun _ _ _ => rfl) ?_
      · intro l u W _ hu
        have hu : u = .bool (c1 || c2) := hu
        exact want_f hu
      intro hc l a W H
      have e23 : a.eval (.tmp 23) = .pointer (some ⟨g, 0, none⟩) := by
        have e : a.eval (.tmp 23) = if (!(c1 || c2)) = true then .pointer (some ⟨g, 0, none⟩) else undef := H.facts 23 rfl
        rw [if_pos hc] at e
        exact e
      have hcc := cell_below H.s hi.c0
      (simp only [execOp]; try simp only [Option.map]); (try simp only [List.map_toArray, List.map_cons, List.map_nil]); (simp only [e23]; go_simp)
    · refine asked_gcall (c := (!(c1 || c2))) rfl rfl rfl Try.func63 (by kernel_rfl) (by kernel_rfl) rfl rfl ?_ ?_ ?_
      · intro l u W _ hu
        have hu : u = .bool (c1 || c2) := hu
        exact want_f hu
      · intro hc l W hS
        first | exact absurd hc (by decide) | exact ⟨(if_neg (by rw [hc]; simp)).symm, hS⟩
      intro hc l a W H
      have e24 : a.eval (.tmp 24) = .int .u8 i.k := by
        have e : a.eval (.tmp 24) = if (!(c1 || c2)) = true then .int .u8 i.k else undef := H.facts 24 rfl
        rw [if_pos hc] at e
        exact e
      have ea : (#[.tmp 24] : Array Operand).map a.eval = #[.int .u8 i.k] := by
        simp only [List.map_toArray, List.map_cons, List.map_nil, e24]
      rw [ea]
      refine (names_any i.k (hk16 hc).1 (hk16 hc).2 W).mono ?_
      rintro y w' ⟨rfl, hB⟩
      exact ⟨_, rfl, (if_pos hc).symm, bel_of H.s hB, fun _ _ _ h => h⟩
    · refine asked_gcall (c := (!(c1 || c2))) rfl rfl rfl Try.func85 (by kernel_rfl) (by kernel_rfl) rfl rfl ?_ ?_ ?_
      · intro l u W _ hu
        have hu : u = .bool (c1 || c2) := hu
        exact want_f hu
      · intro hc l W hS
        first | exact absurd hc (by decide) | exact ⟨(if_neg (by rw [hc]; simp)).symm, hS⟩
      intro hc l a W H
      have e22 : a.eval (.tmp 22) = insV i u := by
        have e : a.eval (.tmp 22) = if (!(c1 || c2)) = true then insV i u else undef := H.facts 22 rfl
        rw [if_pos hc] at e
        exact e
      have e25 : a.eval (.tmp 25) = .string (nameOf i.k) := by
        have e : a.eval (.tmp 25) = if (!(c1 || c2)) = true then .string (nameOf i.k) else undef := H.facts 25 rfl
        rw [if_pos hc] at e
        exact e
      have ea : (#[.tmp 22, .tmp 25] : Array Operand).map a.eval = #[insV i u, .string (nameOf i.k)] := by
        simp only [List.map_toArray, List.map_cons, List.map_nil, e22, e25]
      rw [ea]
      refine (zero_any i u (nameOf i.k) W (hu.below H.s) (name_small i.k)).mono ?_
      rintro y w' ⟨rfl, hB⟩
      exact ⟨_, rfl, by rw [hz]; exact (if_pos hc).symm, bel_of H.s hB, fun _ _ _ h => h⟩
    · refine asked_guard (c := (!(c1 || c2))) (v := .bool (!z)) rfl rfl rfl rfl (fun _ _ h => h) ?_ (fun _ _ _ => rfl) ?_
      · intro l u W _ hu
        have hu : u = .bool (c1 || c2) := hu
        exact want_f hu
      intro hc l a W H
      have e26 : a.eval (.tmp 26) = .bool (z) := by
        have e : a.eval (.tmp 26) = if (!(c1 || c2)) = true then .bool (z) else undef := H.facts 26 rfl
        rw [if_pos hc] at e
        exact e
      exact run_not rfl e26
    · refine asked_pure rfl rfl (fun _ _ h => h) (fun _ _ _ => rfl) (fun l a W H => ?_)
      have e21 : a.eval (.tmp 21) = .bool (c1 || c2) := H.facts 21 rfl
      exact run_pick_or rfl e21 (fun hb => by
        have hc : (!(c1 || c2)) = true := by simp_all
        have e27 : a.eval (.tmp 27) = .bool (!z) := by
          have e : a.eval (.tmp 27) = if (!(c1 || c2)) = true then .bool (!z) else undef := H.facts 27 rfl
          rw [if_pos hc] at e
          exact e
        exact e27)
    · refine asked_pure rfl rfl (fun _ _ h => h) (fun _ _ _ => rfl) (fun l a W H => ?_)
      have e28 : a.eval (.tmp 28) = .bool ((c1 || c2) || !z) := H.facts 28 rfl
      exact run_move rfl e28
    · refine asked_guard (c := (!((c1 || c2) || !z))) (v := .pointer (some ⟨g, 0, none⟩)) rfl rfl rfl rfl (fun _ _ h => h) ?_ (fun _ _ _ => rfl) ?_
      · intro l u W _ hu
        have hu : u = .bool ((c1 || c2) || !z) := hu
        exact want_f hu
      intro hc l a W H
      have e3 : a.eval (.tmp 3) = .pointer (some ⟨g, 0, none⟩) := H.base 3 rfl
      (simp only [execOp]; try simp only [Option.map]); (try simp only [List.map_toArray, List.map_cons, List.map_nil]); (simp only [e3]; go_simp)
    · refine asked_guard (c := (!((c1 || c2) || !z))) (v := .int .u8 i.k) rfl rfl rfl rfl (fun _ _ h => h) ?_ (fun _ _ _ => rfl) ?_
      · intro l u W _ hu
        have hu : u = .bool ((c1 || c2) || !z) := hu
        exact want_f hu
      intro hc l a W H
      have e30 : a.eval (.tmp 30) = .pointer (some ⟨g, 0, none⟩) := by
        have e : a.eval (.tmp 30) = if (!((c1 || c2) || !z)) = true then .pointer (some ⟨g, 0, none⟩) else undef := H.facts 30 rfl
        rw [if_pos hc] at e
        exact e
      have hcc := cell_below H.s hi.c0
      (simp only [execOp]; try simp only [Option.map]); (try simp only [List.map_toArray, List.map_cons, List.map_nil]); (simp only [e30]; go_simp)
    · refine asked_guard (c := (!((c1 || c2) || !z))) (v := .bool (c3)) rfl rfl rfl rfl (fun _ _ h => h) ?_ (fun _ _ _ => rfl) ?_
      · intro l u W _ hu
        have hu : u = .bool ((c1 || c2) || !z) := hu
        exact want_f hu
      intro hc l a W H
      have e31 : a.eval (.tmp 31) = .int .u8 i.k := by
        have e : a.eval (.tmp 31) = if (!((c1 || c2) || !z)) = true then .int .u8 i.k else undef := H.facts 31 rfl
        rw [if_pos hc] at e
        exact e
      rw [← h3]
      (simp only [execOp]; try simp only [Option.map]); (try simp only [List.map_toArray, List.map_cons, List.map_nil]); (simp only [e31]; go_simp)
    · refine asked_guard (c := (!((c1 || c2) || !z))) (v := .bool (c3)) rfl rfl rfl rfl (fun _ _ h => h) ?_ (fun _ _ _ => rfl) ?_
      · intro l u W _ hu
        have hu : u = .bool ((c1 || c2) || !z) := hu
        exact want_f hu
      intro hc l a W H
      have e32 : a.eval (.tmp 32) = .bool (c3) := by
        have e : a.eval (.tmp 32) = if (!((c1 || c2) || !z)) = true then .bool (c3) else undef := H.facts 32 rfl
        rw [if_pos hc] at e
        exact e
      exact run_move rfl e32
    · refine asked_guard (c := ((!((c1 || c2) || !z)) && (c3))) (v := .pointer (some ⟨g, 1, none⟩)) rfl rfl rfl rfl (fun _ _ h => h) ?_ (fun _ _ _ => rfl) ?_
      · intro l u W _ hu
        have hu : u = if (!((c1 || c2) || !z)) = true then .bool (c3) else undef := hu
        exact want_nt hu
      intro hc l a W H
      have e3 : a.eval (.tmp 3) = .pointer (some ⟨g, 0, none⟩) := H.base 3 rfl
      (simp only [execOp]; try simp only [Option.map]); (try simp only [List.map_toArray, List.map_cons, List.map_nil]); (simp only [e3]; go_simp)
    · refine asked_guard (c := ((!((c1 || c2) || !z)) && (c3))) (v := .int .u8 i.op) rfl rfl rfl rfl (fun _ _ h => h) ?_ (fun _ _ _ => rfl) ?_
      · intro l u W _ hu
        have hu : u = if (!((c1 || c2) || !z)) = true then .bool (c3) else undef := hu
        exact want_nt hu
      intro hc l a W H
      have e34 : a.eval (.tmp 34) = .pointer (some ⟨g, 1, none⟩) := by
        have e : a.eval (.tmp 34) = if ((!((c1 || c2) || !z)) && (c3)) = true then .pointer (some ⟨g, 1, none⟩) else undef := H.facts 34 rfl
        rw [if_pos hc] at e
        exact e
      have hcc : W.cell? ⟨g, 1, none⟩ = some (.int .u8 i.op) := cell_below H.s hi.c1
      (simp only [execOp]; try simp only [Option.map]); (try simp only [List.map_toArray, List.map_cons, List.map_nil]); (simp only [e34]; go_simp)
    · refine asked_guard (c := ((!((c1 || c2) || !z)) && (c3))) (v := .bool (c4)) rfl rfl rfl rfl (fun _ _ h => h) ?_ (fun _ _ _ => rfl) ?_
      · intro l u W _ hu
        have hu : u = if (!((c1 || c2) || !z)) = true then .bool (c3) else undef := hu
        exact want_nt hu
      intro hc l a W H
      have e35 : a.eval (.tmp 35) = .int .u8 i.op := by
        have e : a.eval (.tmp 35) = if ((!((c1 || c2) || !z)) && (c3)) = true then .int .u8 i.op else undef := H.facts 35 rfl
        rw [if_pos hc] at e
        exact e
      rw [← h4]
      (simp only [execOp]; try simp only [Option.map]); (try simp only [List.map_toArray, List.map_cons, List.map_nil]); (simp only [e35]; go_simp)
    · refine asked_guard (c := ((!((c1 || c2) || !z)) && (c3))) (v := .bool (c4)) rfl rfl rfl rfl (fun _ _ h => h) ?_ (fun _ _ _ => rfl) ?_
      · intro l u W _ hu
        have hu : u = if (!((c1 || c2) || !z)) = true then .bool (c3) else undef := hu
        exact want_nt hu
      intro hc l a W H
      have e36 : a.eval (.tmp 36) = .bool (c4) := by
        have e : a.eval (.tmp 36) = if ((!((c1 || c2) || !z)) && (c3)) = true then .bool (c4) else undef := H.facts 36 rfl
        rw [if_pos hc] at e
        exact e
      exact run_move rfl e36
    · refine asked_guard (c := (((!((c1 || c2) || !z)) && (c3)) && (!(c4)))) (v := .pointer (some ⟨g, 1, none⟩)) rfl rfl rfl rfl (fun _ _ h => h) ?_ (fun _ _ _ => rfl) ?_
      · intro l u W _ hu
        have hu : u = if ((!((c1 || c2) || !z)) && (c3)) = true then .bool (c4) else undef := hu
        exact want_nf hu
      intro hc l a W H
      have e3 : a.eval (.tmp 3) = .pointer (some ⟨g, 0, none⟩) := H.base 3 rfl
      (simp only [execOp]; try simp only [Option.map]); (try simp only [List.map_toArray, List.map_cons, List.map_nil]); (simp only [e3]; go_simp)
    · refine asked_guard (c := (((!((c1 || c2) || !z)) && (c3)) && (!(c4)))) (v := .int .u8 i.op) rfl rfl rfl rfl (fun _ _ h => h) ?_ (fun _ _ _ => rfl) ?_
      · intro l u W _ hu
        have hu : u = if ((!((c1 || c2) || !z)) && (c3)) = true then .bool (c4) else undef := hu
        exact want_nf hu
      intro hc l a W H
      have e38 : a.eval (.tmp 38) = .pointer (some ⟨g, 1, none⟩) := by
        have e : a.eval (.tmp 38) = if (((!((c1 || c2) || !z)) && (c3)) && (!(c4))) = true then .pointer (some ⟨g, 1, none⟩) else undef := H.facts 38 rfl
        rw [if_pos hc] at e
        exact e
      have hcc : W.cell? ⟨g, 1, none⟩ = some (.int .u8 i.op) := cell_below H.s hi.c1
      (simp only [execOp]; try simp only [Option.map]); (try simp only [List.map_toArray, List.map_cons, List.map_nil]); (simp only [e38]; go_simp)
    · refine asked_guard (c := (((!((c1 || c2) || !z)) && (c3)) && (!(c4)))) (v := .bool (c5)) rfl rfl rfl rfl (fun _ _ h => h) ?_ (fun _ _ _ => rfl) ?_
      · intro l u W _ hu
        have hu : u = if ((!((c1 || c2) || !z)) && (c3)) = true then .bool (c4) else undef := hu
        exact want_nf hu
      intro hc l a W H
      have e39 : a.eval (.tmp 39) = .int .u8 i.op := by
        have e : a.eval (.tmp 39) = if (((!((c1 || c2) || !z)) && (c3)) && (!(c4))) = true then .int .u8 i.op else undef := H.facts 39 rfl
        rw [if_pos hc] at e
        exact e
      rw [← h5]
      (simp only [execOp]; try simp only [Option.map]); (try simp only [List.map_toArray, List.map_cons, List.map_nil]); (simp only [e39]; go_simp)
    · refine asked_guard (c := ((!((c1 || c2) || !z)) && (c3))) (v := .bool (c4 || c5)) rfl rfl rfl rfl (fun _ _ h => h) ?_ (fun _ _ _ => rfl) ?_
      · intro l u W _ hu
        have hu : u = if (!((c1 || c2) || !z)) = true then .bool (c3) else undef := hu
        exact want_nt hu
      intro hc l a W H
      have e37 : a.eval (.tmp 37) = .bool (c4) := by
        have e : a.eval (.tmp 37) = if ((!((c1 || c2) || !z)) && (c3)) = true then .bool (c4) else undef := H.facts 37 rfl
        rw [if_pos hc] at e
        exact e
      exact run_pick_or rfl e37 (fun hb => by
        have hc : (((!((c1 || c2) || !z)) && (c3)) && (!(c4))) = true := by simp_all
        have e40 : a.eval (.tmp 40) = .bool (c5) := by
          have e : a.eval (.tmp 40) = if (((!((c1 || c2) || !z)) && (c3)) && (!(c4))) = true then .bool (c5) else undef := H.facts 40 rfl
          rw [if_pos hc] at e
          exact e
        exact e40)
    · refine asked_guard (c := (!((c1 || c2) || !z))) (v := .bool (c3 && (c4 || c5))) rfl rfl rfl rfl (fun _ _ h => h) ?_ (fun _ _ _ => rfl) ?_
      · intro l u W _ hu
        have hu : u = .bool ((c1 || c2) || !z) := hu
        exact want_f hu
      intro hc l a W H
      have e33 : a.eval (.tmp 33) = .bool (c3) := by
        have e : a.eval (.tmp 33) = if (!((c1 || c2) || !z)) = true then .bool (c3) else undef := H.facts 33 rfl
        rw [if_pos hc] at e
        exact e
      exact run_pick_and rfl e33 (fun hb => by
        have hc : ((!((c1 || c2) || !z)) && (c3)) = true := by simp_all
        have e41 : a.eval (.tmp 41) = .bool (c4 || c5) := by
          have e : a.eval (.tmp 41) = if ((!((c1 || c2) || !z)) && (c3)) = true then .bool (c4 || c5) else undef := H.facts 41 rfl
          rw [if_pos hc] at e
          exact e
        exact e41)
    · refine asked_pure rfl rfl (fun _ _ h => h) (fun _ _ _ => rfl) (fun l a W H => ?_)
      have e29 : a.eval (.tmp 29) = .bool ((c1 || c2) || !z) := H.facts 29 rfl
      exact run_pick_or rfl e29 (fun hb => by
        have hc : (!((c1 || c2) || !z)) = true := by simp_all
        have e42 : a.eval (.tmp 42) = .bool (c3 && (c4 || c5)) := by
          have e : a.eval (.tmp 42) = if (!((c1 || c2) || !z)) = true then .bool (c3 && (c4 || c5)) else undef := H.facts 42 rfl
          rw [if_pos hc] at e
          exact e
        exact e42)
  · intro l s W _ hS hs
    have h43 : s 43 = .bool (((c1 || c2) || !z) || (c3 && (c4 || c5))) := hs 43 rfl
    rw [HF'] at h43
    have I1 := hide (hi.below hS)
    have U1 := hide (hu.below hS)
    have hBw1 := hide (bel_of hB0 hS)
    subst h0u
    rw [← hgz] at I1
    clear hs hS hk16 h1 h2 h3 h4 h5 hz HF' HF hi hu hi0 HU hgsz hB0
    subst hgz
    obtain ⟨c0, cc1, cc2, cc3, cc4, cc5, cc6⟩ := I1.out.zero
    cases hf : formed i with
    | false =>
      have he : Hid (inF i v = 20) := by show _ = _; unfold inF; rw [if_pos hf]
      rw [hf] at h43
      simp [overlay, dstsOf, h43]
      go_wp2
      go_ret
      exact ⟨by rw [he.out]; rfl, hBw1.out⟩
    | true =>
      rw [hf] at h43
      simp [overlay, dstsOf, h43]
      clear h43
      by_cases h3 : 3 < i.args.length
      · have he : Hid (inF i v = 25) := by show _ = _; unfold inF; rw [if_neg (by simp [hf]), if_pos h3]
        have h3' : (3 : Int) < (i.args.length : Int) := by omega
        go_wp2_with fail
        go_ret
        exact ⟨by rw [he.out]; rfl, hBw1.out⟩
      · have he : Hid (inF i v = if (named i).all (inr · v) then 0 else 21) := by show _ = _; unfold inF; rw [if_neg (by simp [hf]), if_neg h3]
        have h3' : (i.args.length : Int) ≤ 3 := by omega
        have hlen := uses_len (i := i) (by omega)
        have hk : i.k ≠ 7 ∧ i.k ≠ 8 := by
          refine ⟨fun e => ?_, fun e => ?_⟩ <;> simp [formed, e] at hf
        have b7 : (i.k == 7) = false := by simp [hk]
        have b8 : (i.k == 8) = false := by simp [hk]
        have hgl : w.heap.size < W.heap.size := World.block_lt_of_cell? W _ c0
        have hO1 := args_empty W W.heap.size (Nat.le_refl _)
        have hBe := bel1 W (.cells #[] 3)
        have hUs := hide (refUses_any i _ _ (U1.out.below hBe))
        obtain ⟨k0, k1, k2, k3, k4, k5, k6⟩ := (I1.out.below hBe).zero
        unfold insV at hUs
        have HO1 := hide hO1
        clear hf h3 hk hO1
        go_wp2_with fail
        refine hUs.out.mono ?_
        rintro y w2 ⟨u2, rfl, hV, hB2⟩
        have hO2 := owns_below HO1.out hB2
        have hBx := bel_of hBe hB2
        obtain ⟨d0, d1, d2, d3, d4, d5, d6⟩ := (I1.out.below hBx).zero
        have hsz2 : W.heap.size ≤ w2.heap.size := hBx.size
        obtain ⟨au2, cu2, rfl⟩ := hV.slice
        clear hUs HO1 hB2 U1 c0 cc1 cc2 cc3 cc4 cc5 cc6 hBe k0 k1 k2 k3 k4 k5 k6
        go_wp2_with (at_builtin; go_must (refine wpList_append_ints _ rfl (.tmp 48) (.tmp 50) rfl W.heap.size _ _ rfl hO2 _ _ rfl hV (by simp; omega) hsz2 ?_))
        intro v3 w3 hO3 hg3
        have hO3 : ArgsO W.heap.size w3 v3 (uses i) := hO3
        have hB3 := hBx.grown hg3 hsz2 (fun k hk => (hO2.lt k hk).1)
        have hGv := hide (refGives_any i.k w3)
        obtain ⟨k0, k1, k2, k3, k4, k5, k6⟩ := (I1.out.below hB3).zero
        have HO3 := hide hO3
        have HB3 := hide hB3
        obtain ⟨a3, cp3, hv3⟩ := hO3.v.slice
        subst hv3
        clear hO3 hB3 hBx hO2 hV hg3 d0 d1 d2 d3 d4 d5 d6 hsz2
        go_wp2_with fail
        refine hGv.out.mono ?_
        rintro y w4 ⟨rfl, rfl⟩
        cases hg : gives i.k with
        | true =>
          have hLn : named i = uses i ++ [i.d] := by simp [named, hg]
          have hBd := bel1 w4 (.cells #[.int .i64 i.d] 3)
          have hOd := owns_below HO3.out hBd
          have hVd := ints1 w4 i.d
          have hszd : W.heap.size ≤ (w4.alloc (.cells #[.int .i64 i.d] 3)).heap.size := Nat.le_trans HB3.out.size hBd.size
          have HBd := hide (HB3.out.trans (hBd.mono HB3.out.size))
          have HLn := hide hLn
          clear hGv hBd hLn hg
          go_wp2_with (at_builtin; go_must (refine wpList_append_ints _ rfl (.tmp 55) (.tmp 58) rfl W.heap.size _ _ rfl hOd _ _ rfl hVd (by simp; omega) hszd ?_))
          intro v5 w5 hO5 hg5
          have hB5 := HBd.out.grown hg5 hszd (fun k hk => (hOd.lt k hk).1)
          have hO5 : ArgsO W.heap.size w5 v5 (uses i ++ [i.d]) := hO5
          rw [← HLn.out] at hO5
          obtain ⟨k0, k1, k2, k3, k4, k5, k6⟩ := (I1.out.below hB5).zero
          have hv5 := hide hO5.v
          have hW5 := hide (bel_of hBw1.out hB5)
          have hLl : (named i).length ≤ 4 := by rw [HLn.out, List.length_append]; simp; omega
          obtain ⟨a5, cp5, hv5e⟩ := hO5.v.slice
          subst hv5e
          clear hO5 hg5 hOd hVd hszd HBd HLn HO3 HB3 hB5 I1 hBw1
          generalize named i = L at *
          go_wp2_with fail
          go_loop [9] (fun iv => ∃ j : Nat, j ≤ L.length ∧ iv = .int .i64 j ∧ Hid (L.all (inr · v) = (L.drop j).all (inr · v))) (fun iv => L.length - (intOf iv).toNat)
          case atStart => exact ⟨0, by omega, rfl, rfl⟩
          case round =>
            obtain ⟨j, hj, rfl, hall⟩ := hrel
            by_cases hlt : j < L.length
            · obtain ⟨bb, off, rfl, hcx⟩ := hv5.out.at j hlt
              have hdr := hide (drop_getD hlt)
              generalize L.getD j 0 = x at *
              have hlt' : (j : Int) < (L.length : Int) := by omega
              by_cases x0 : x < 0
              · have hall2 : Hid (L.all (inr · v) = false) := by
                  show _ = _
                  rw [hall.out, hdr.out, List.all_cons]
                  have : inr x v = false := by simp [inr]; omega
                  rw [this, Bool.false_and]
                clear hall hdr
                go_wp2_with fail
                go_ret
                exact ⟨by rw [he.out, hall2.out]; rfl, hW5.out⟩
              · by_cases x1 : x < v
                · have hall2 : Hid (L.all (inr · v) = (L.drop (j + 1)).all (inr · v)) := by
                    show _ = _
                    rw [hall.out, hdr.out, List.all_cons]
                    have : inr x v = true := by simp [inr]; omega
                    rw [this, Bool.true_and]
                  have x0' : 0 ≤ x := by omega
                  clear hall hdr
                  go_wp2_with fail
                  go_round
                  case rel => exact ⟨j + 1, by omega, by go_num, hall2⟩
                  case measure => simp [intOf]; omega
                · have hall2 : Hid (L.all (inr · v) = false) := by
                    show _ = _
                    rw [hall.out, hdr.out, List.all_cons]
                    have : inr x v = false := by simp [inr]; omega
                    rw [this, Bool.false_and]
                  have x0' : 0 ≤ x := by omega
                  have x1' : v ≤ x := by omega
                  clear hall hdr
                  go_wp2_with fail
                  go_ret
                  exact ⟨by rw [he.out, hall2.out]; rfl, hW5.out⟩
            · obtain rfl : j = L.length := by omega
              have hall2 : Hid (L.all (inr · v) = true) := by
                show _ = _
                rw [hall.out]
                simp
              clear hall
              go_wp2_with fail
              go_ret
              exact ⟨by rw [he.out, hall2.out]; rfl, hW5.out⟩
        | false =>
          have hLn : named i = uses i := by simp [named, hg]
          rw [← hLn] at HO3
          have hv5 := hide HO3.out.v
          have hW5 := hide (bel_of hBw1.out HB3.out)
          have hLl : (named i).length ≤ 4 := by rw [hLn]; omega
          have hln2 : (uses i).length = (named i).length := by rw [hLn]
          rw [hln2]
          clear hGv hLn hg hln2 HO3 HB3 I1 hBw1 hlen
          generalize named i = L at *
          go_wp2_with fail
          go_loop [9] (fun iv => ∃ j : Nat, j ≤ L.length ∧ iv = .int .i64 j ∧ Hid (L.all (inr · v) = (L.drop j).all (inr · v))) (fun iv => L.length - (intOf iv).toNat)
          case atStart => exact ⟨0, by omega, rfl, rfl⟩
          case round =>
            obtain ⟨j, hj, rfl, hall⟩ := hrel
            by_cases hlt : j < L.length
            · obtain ⟨bb, off, rfl, hcx⟩ := hv5.out.at j hlt
              have hdr := hide (drop_getD hlt)
              generalize L.getD j 0 = x at *
              have hlt' : (j : Int) < (L.length : Int) := by omega
              by_cases x0 : x < 0
              · have hall2 : Hid (L.all (inr · v) = false) := by
                  show _ = _
                  rw [hall.out, hdr.out, List.all_cons]
                  have : inr x v = false := by simp [inr]; omega
                  rw [this, Bool.false_and]
                clear hall hdr
                go_wp2_with fail
                go_ret
                exact ⟨by rw [he.out, hall2.out]; rfl, hW5.out⟩
              · by_cases x1 : x < v
                · have hall2 : Hid (L.all (inr · v) = (L.drop (j + 1)).all (inr · v)) := by
                    show _ = _
                    rw [hall.out, hdr.out, List.all_cons]
                    have : inr x v = true := by simp [inr]; omega
                    rw [this, Bool.true_and]
                  have x0' : 0 ≤ x := by omega
                  clear hall hdr
                  go_wp2_with fail
                  go_round
                  case rel => exact ⟨j + 1, by omega, by go_num, hall2⟩
                  case measure => simp [intOf]; omega
                · have hall2 : Hid (L.all (inr · v) = false) := by
                    show _ = _
                    rw [hall.out, hdr.out, List.all_cons]
                    have : inr x v = false := by simp [inr]; omega
                    rw [this, Bool.false_and]
                  have x0' : 0 ≤ x := by omega
                  have x1' : v ≤ x := by omega
                  clear hall hdr
                  go_wp2_with fail
                  go_ret
                  exact ⟨by rw [he.out, hall2.out]; rfl, hW5.out⟩
            · obtain rfl : j = L.length := by omega
              have hall2 : Hid (L.all (inr · v) = true) := by
                show _ = _
                rw [hall.out]
                simp
              clear hall
              go_wp2_with fail
              go_ret
              exact ⟨by rw [he.out, hall2.out]; rfl, hW5.out⟩
end Go.Proofs.Ytbjnhicikkjadaa
