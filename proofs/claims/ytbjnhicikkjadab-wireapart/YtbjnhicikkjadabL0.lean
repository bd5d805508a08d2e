/- What a slice of bytes in memory holds, how that stays, and two laws on make and append in the walk's form. -/
import Derived.Test.YtbjnhicikkjadabLm
import Derived.WalkKit
import Derived.WalkSpells
import Derived.Laws.CopyOwn
import Derived.Laws.BytesArg
import Derived.Laws.BitsAllLaws
import Derived.Laws.AppendOwnNone
namespace Go.Proofs.Ytbjnhicikkjadab.Lb
open Go.RowKit


/-- The slice value v leads to the bytes xs; they lie in block b, if there are any. -/
def BytAt (b : Nat) (w : World) (v : Value) (xs : List Int) : Prop :=
  (∀ x ∈ xs, 0 ≤ x ∧ x < 256) ∧ ∃ ao cap, v = .slice ao xs.length cap ∧ xs.length ≤ cap ∧ cap ≤ maxLen ∧ (ao = none → cap = 0) ∧
    (0 < xs.length → ∃ off, ao = some ⟨b, off, none⟩ ∧ ∀ j, j < xs.length → w.cell? ⟨b, off + j, none⟩ = some (.int .u8 (xs.getD j 0)))

/-- The slice value v leads to the bytes xs. -/
def Byt (w : World) (v : Value) (xs : List Int) : Prop := ∃ b, BytAt b w v xs

theorem BytAt.lt {b : Nat} {w : World} {v : Value} {xs : List Int} (h : BytAt b w v xs) (h0 : 0 < xs.length) : b < w.heap.size := by
  obtain ⟨_, ao, cap, _, _, _, _, h4⟩ := h
  obtain ⟨off, _, h5⟩ := h4 h0
  exact World.block_lt_of_cell? w _ (h5 0 h0)

theorem BytAt.below {b B : Nat} {w w' : World} {v : Value} {xs : List Int} (h : BytAt b w v xs) (hb : Below B w w') (hB : 0 < xs.length → b < B) : BytAt b w' v xs := by
  obtain ⟨h0, ao, cap, h1, h2, h3, h3', h4⟩ := h
  refine ⟨h0, ao, cap, h1, h2, h3, h3', fun hp => ?_⟩
  obtain ⟨off, e, hc⟩ := h4 hp
  exact ⟨off, e, fun j hj => (hb.cell (p := ⟨b, off + j, none⟩) (hB hp)).trans (hc j hj)⟩

theorem Byt.below {w w' : World} {v : Value} {xs : List Int} (h : Byt w v xs) (hb : Below w.heap.size w w') : Byt w' v xs := by
  obtain ⟨b, h⟩ := h
  exact ⟨b, h.below hb fun hp => h.lt hp⟩

theorem Byt.drew {w : World} {v : Value} {xs : List Int} (h : Byt w v xs) : Byt w.drew v xs := h.below (Below.refl _ _).drew

/-- What the walk is told of a slice of integers that came in. -/
def IsRow (k : IntKind) (w : World) (a : Option Addr) (len cap : Nat) (zs : List Int) : Prop :=
  (a = none ∧ len = 0 ∧ cap = 0 ∧ zs = []) ∨
  ∃ x, a = some x ∧ len ≤ cap ∧ cap ≤ maxLen ∧ zs.length = cap ∧ (∀ i, i < zs.length → w.cell? (x.add i) = some (.int k (zs.getD i 0))) ∧ ∀ n ∈ zs, (Lit.int k n).wf = true

theorem Byt.of_row {w : World} {a : Option Addr} {len cap : Nat} {zs : List Int} (h : IsRow .u8 w a len cap zs) : (zs.take len).length = len ∧ Byt w (.slice a len cap) (zs.take len) := by
  rcases h with ⟨rfl, rfl, rfl, rfl⟩ | ⟨x, rfl, hl, hm, hz, hcell, hwz⟩
  · exact ⟨rfl, 0, by simp, none, 0, rfl, Nat.le_refl _, by simp [maxLen], fun _ => rfl, fun h => by simp at h⟩
  · have hlen : (zs.take len).length = len := by simp; omega
    refine ⟨hlen, x.block, ?_, some x, cap, by rw [hlen], by rw [hlen]; exact hl, hm, fun e => by simp at e, fun hp => ?_⟩
    · intro y hy
      have := hwz y (List.mem_of_mem_take hy)
      simp [Lit.wf, IntKind.min, IntKind.max, IntKind.signed, IntKind.bits] at this
      omega
    · rw [hlen] at hp
      obtain ⟨b, off, spot⟩ := x
      have hc := hcell 0 (by omega)
      have hspot : spot = none := by simpa [Addr.add] using World.cell?_spot hc
      subst hspot
      refine ⟨off, rfl, fun j hj => ?_⟩
      rw [hlen] at hj
      have := hcell j (by omega)
      rw [Addr.add_lit] at this
      rw [this]
      simp [hj]

/-- Numbers of a kind that came in: where they lie. -/
def Ints (k : IntKind) (w : World) (ao : Option Addr) (zs : List Int) : Prop :=
  0 < zs.length → ∃ b off, ao = some ⟨b, off, none⟩ ∧ b < w.heap.size ∧ ∀ j, j < zs.length → w.cell? ⟨b, off + j, none⟩ = some (.int k (zs.getD j 0))

theorem Ints.of_row {k : IntKind} {w : World} {a : Option Addr} {len cap : Nat} {zs : List Int} (h : IsRow k w a len cap zs) :
    (zs.take len).length = len ∧ Ints k w a (zs.take len) ∧ ∀ n ∈ zs.take len, (Lit.int k n).wf = true := by
  rcases h with ⟨rfl, rfl, rfl, rfl⟩ | ⟨x, rfl, hl, hm, hz, hcell, hwz⟩
  · exact ⟨rfl, fun h => by simp at h, by simp⟩
  · have hlen : (zs.take len).length = len := by simp; omega
    refine ⟨hlen, fun hp => ?_, fun n hn => hwz n (List.mem_of_mem_take hn)⟩
    rw [hlen] at hp
    obtain ⟨b, off, spot⟩ := x
    have hc := hcell 0 (by omega)
    have hspot : spot = none := by simpa [Addr.add] using World.cell?_spot hc
    subst hspot
    refine ⟨b, off, rfl, World.block_lt_of_cell? w _ hc, fun j hj => ?_⟩
    rw [hlen] at hj
    have := hcell j (by omega)
    rw [Addr.add_lit] at this
    rw [this]
    simp [hj]

theorem Byt.nil (w : World) : Byt w (.slice none 0 0) [] :=
  ⟨0, by simp, none, 0, rfl, Nat.le_refl _, by simp [maxLen], fun _ => rfl, fun h => by simp at h⟩

/-- Unlike bytes are unlike strings. -/
theorem str_inj : ∀ {xs ys : List Int}, (∀ x ∈ xs, 0 ≤ x ∧ x < 256) → (∀ x ∈ ys, 0 ≤ x ∧ x < 256) → (xs.map fun n => UInt8.ofNat n.toNat) = (ys.map fun n => UInt8.ofNat n.toNat) → xs = ys
  | [], [], _, _, _ => rfl
  | [], y :: ys, _, _, h => by simp at h
  | x :: xs, [], _, _, h => by simp at h
  | x :: xs, y :: ys, hx, hy, h => by
    simp only [List.map_cons, List.cons.injEq] at h
    have h1 := hx x (by simp)
    have h2 := hy y (by simp)
    have h3 := congrArg UInt8.toNat h.1
    simp only [UInt8.toNat_ofNat'] at h3
    have e : x = y := by omega
    rw [e, str_inj (fun z hz => hx z (by simp [hz])) (fun z hz => hy z (by simp [hz])) h.2]

theorem str_beq {xs ys : List Int} (hx : ∀ x ∈ xs, 0 ≤ x ∧ x < 256) (hy : ∀ x ∈ ys, 0 ≤ x ∧ x < 256) : ((strOfNums xs).toList == (strOfNums ys).toList) = decide (xs = ys) := by
  rw [Go.ByteArray.toList_eq, Go.ByteArray.toList_eq, strOfNums_data, strOfNums_data, Bool.eq_iff_iff]
  simp only [beq_iff_eq, decide_eq_true_eq]
  exact ⟨str_inj hx hy, fun h => by rw [h]⟩

theorem ret_bool {c : Bool} (h : c = true) : Ending.returned (.bool c) = .returned (.bool true) := by rw [h]

theorem Byt.slice {w : World} {v : Value} {xs : List Int} (h : Byt w v xs) : ∃ ao cap, v = .slice ao xs.length cap := by
  obtain ⟨b, _, ao, cap, h, _⟩ := h
  exact ⟨ao, cap, h⟩

theorem bel_of {w w1 w2 : World} (h1 : Below w.heap.size w w1) (h2 : Below w1.heap.size w1 w2) : Below w.heap.size w w2 :=
  h1.trans (h2.mono h1.size)

theorem grownBy_refl' (w : World) (r : Option Nat) : w.grownBy w r := ⟨rfl, rfl, rfl, Nat.le_refl _, fun _ _ _ => rfl⟩

/-- 'string(v)' of bytes. -/
theorem Byt.str {P : Program} {w : World} {v : Value} {xs : List Int} (h : Byt w v xs) (src e dst : TypeId) (hs : P.underlying src = some (.slice e)) (he : P.underlying e = some (.int .u8)) (hd : P.underlying dst = some .string) :
    (convert src dst v).run P w = .ok (.string (strOfNums xs)) w := by
  obtain ⟨b, h0, ao, cap, rfl, h2, h3, h3', h4⟩ := h
  cases ao with
  | none =>
    have hc := h3' rfl
    have : xs = [] := List.eq_nil_of_length_eq_zero (by omega)
    subst this
    exact run_convert_bytes_nil w src e hs he _ _ dst hd
  | some a =>
    by_cases hp : 0 < xs.length
    · obtain ⟨off, e1, hc⟩ := h4 hp
      simp only [Option.some.injEq] at e1
      subst e1
      exact run_convert_bytes_arg w src e hs he b off xs.length cap xs rfl hc dst hd
    · have : xs = [] := List.eq_nil_of_length_eq_zero (by omega)
      subst this
      rw [run_convert_bytes_string w src dst e _ _ cap hs he hd]
      simp [Conv.bytesToString, loadCells, loadCellsFrom, strOfNums, ByteArray.empty, ByteArray.emptyWithCapacity]
      rfl

/-- What the call itself has gathered, read as bytes. -/
theorem Byt.of_owns {w : World} {base : Nat} {v : Value} {n : Nat} {xs : List Int} (h : w.ownsRow base 5 1 v n (xs.map (Value.int .u8))) (hx : ∀ x ∈ xs, 0 ≤ x ∧ x < 256) : Byt w v xs := by
  have hl : n = xs.length := by have := h.1; simp at this; omega
  subst hl
  rcases h.2 with ⟨rfl, h0⟩ | ⟨g, cap, cur, rfl, _, hg, hnc, hcm, _, _⟩
  · have : xs = [] := List.eq_nil_of_length_eq_zero h0
    subst this; exact Byt.nil w
  · refine ⟨g, hx, _, cap, rfl, hnc, hcm, fun e => by simp at e, fun _ => ⟨0, rfl, fun j hj => ?_⟩⟩
    have := h.cellAt j (by omega)
    simp only [Nat.zero_add]
    rw [this]
    simp [List.getElem?_eq_getElem hj]

/-- The same, and in which block it lies. -/
theorem BytAt.of_owns {w : World} {base : Nat} {v : Value} {n : Nat} {xs : List Int} (h : w.ownsRow base 5 1 v n (xs.map (Value.int .u8))) (hx : ∀ x ∈ xs, 0 ≤ x ∧ x < 256) : ∃ b, base ≤ b ∧ BytAt b w v xs := by
  have hl : n = xs.length := by have := h.1; simp at this; omega
  subst hl
  rcases h.2 with ⟨rfl, h0⟩ | ⟨g, cap, cur, rfl, hb, hg, hnc, hcm, _, _⟩
  · have : xs = [] := List.eq_nil_of_length_eq_zero h0
    subst this; exact ⟨base, Nat.le_refl _, by simp, none, 0, rfl, Nat.le_refl _, by simp [maxLen], fun _ => rfl, fun h => by simp at h⟩
  · refine ⟨g, hb, hx, _, cap, rfl, hnc, hcm, fun e => by simp at e, fun _ => ⟨0, rfl, fun j hj => ?_⟩⟩
    have := h.cellAt j (by omega)
    simp only [Nat.zero_add]
    rw [this]
    simp [List.getElem?_eq_getElem hj]

theorem or128 : ∀ x : Nat, x < 256 → x ||| 128 = x % 128 + 128 := by decide +kernel
/-- 'byte(n) | 0x80', as the walk writes it. -/
theorem more_byte (m : Nat) : bits .or .u8 ((m : Int) % 256) 128 = ((m % 128 + 128 : Nat) : Int) := by
  have h : ((m : Int) % 256) = ((m % 256 : Nat) : Int) := by omega
  rw [h, show (128 : Int) = ((128 : Nat) : Int) from rfl, u8_or_nat _ _ (by omega) (by omega), or128 _ (by omega)]
  omega

theorem andNot128 : ∀ x : Nat, x < 256 → x &&& (255 - 128) = x % 128 := by decide +kernel
/-- 'n | uint64(c &^ 0x80) << (7*i)', as the walk writes it. -/
theorem joined (i acc : Nat) (c : Int) (h0 : 0 ≤ c) (h1 : c < 256) (hi : i ≤ 9) (h9 : i = 9 → c ≤ 1) (ha : acc < 128 ^ i) :
    bits .or .u64 (acc : Int) (IntKind.u64.wrap (IntKind.u64.wrap (bits .andNot .u8 c 128) * 2 ^ (7 * i))) = ((acc + c.toNat % 128 * 128 ^ i : Nat) : Int) := by
  obtain ⟨d, rfl⟩ := Int.eq_ofNat_of_zero_le h0
  have e1 : bits .andNot .u8 (d : Int) 128 = ((d % 128 : Nat) : Int) := by
    rw [show (128 : Int) = ((128 : Nat) : Int) from rfl, u8_andNot_nat _ _ (by omega) (by omega), andNot128 _ (by omega)]
  have hp : 128 ^ i = 2 ^ (7 * i) := by rw [Nat.pow_mul]
  have hpos : 0 < 2 ^ (7 * i) := Nat.two_pow_pos _
  have hle : d % 128 * 2 ^ (7 * i) + 2 ^ (7 * i) ≤ 18446744073709551616 := by
    by_cases h : i = 9
    · subst h
      have := h9 rfl
      have hd : d % 128 ≤ 1 := by omega
      rw [show (2 : Nat) ^ (7 * 9) = 9223372036854775808 from by decide +kernel]
      omega
    · have h3 : 2 ^ (7 * i) ≤ 72057594037927936 := by
        rw [show (72057594037927936 : Nat) = 2 ^ 56 from by decide +kernel]
        exact Nat.pow_le_pow_right (by omega) (by omega)
      have h4 : (d % 128 + 1) * 2 ^ (7 * i) ≤ 128 * 72057594037927936 := Nat.mul_le_mul (by omega) h3
      rw [Nat.add_mul] at h4
      omega
  have e2 : IntKind.u64.wrap (IntKind.u64.wrap ((d % 128 : Nat) : Int) * 2 ^ (7 * i)) = ((d % 128 * 2 ^ (7 * i) : Nat) : Int) := by
    have e3 : IntKind.u64.wrap ((d % 128 : Nat) : Int) = ((d % 128 : Nat) : Int) := by rw [IntKind.wrap_u64]; omega
    have e4 : (((d % 128 : Nat) : Int) * 2 ^ (7 * i)) = ((d % 128 * 2 ^ (7 * i) : Nat) : Int) := by push_cast; rfl
    rw [e3, e4, IntKind.wrap_u64]
    omega
  rw [e1, e2, u64_or_nat _ _ (by omega) (by omega), Int.toNat_natCast, hp]
  congr 1
  have := Nat.two_pow_add_eq_or_of_lt (i := 7 * i) (b := acc) (by omega) (d % 128)
  rw [Nat.or_comm, Nat.mul_comm (d % 128), ← this]
  omega

/-- '^n' of a number below 0. -/
theorem i64_not_neg (m : Nat) (hm : m < 9223372036854775808) : bits .xor .i64 (-1) (-1 - (m : Int)) = (m : Int) := by
  show IntKind.i64.wrap ((BitVec.ofInt 64 (-1) ^^^ BitVec.ofInt 64 (-1 - (m : Int))).toNat : Int) = _
  have h1 : BitVec.ofInt 64 (-1) = BitVec.allOnes 64 := by decide
  have h2 : (BitVec.ofInt 64 (-1 - (m : Int))).toNat = 18446744073709551615 - m := by
    rw [BitVec.toNat_ofInt]
    simp
    omega
  rw [h1, BitVec.allOnes_xor, BitVec.toNat_not, h2]
  simp [IntKind.wrap, IntKind.bits, IntKind.signed]
  omega
theorem i64_not_pos (a : Nat) (ha : a < 9223372036854775808) : bits .xor .i64 (-1) (a : Int) = -1 - (a : Int) := by
  show IntKind.i64.wrap ((BitVec.ofInt 64 (-1) ^^^ BitVec.ofInt 64 (a : Int)).toNat : Int) = _
  have h1 : BitVec.ofInt 64 (-1) = BitVec.allOnes 64 := by decide
  rw [h1, BitVec.allOnes_xor, BitVec.toNat_not, ofInt_u64 a (by omega)]
  simp [IntKind.wrap, IntKind.bits, IntKind.signed]
  omega
theorem i64_not_any (i : Int) (h1 : -9223372036854775808 ≤ i) (h2 : i ≤ 9223372036854775807) : bits .xor .i64 (-1) i = -1 - i := by
  by_cases h : i < 0
  · obtain ⟨m, hm⟩ : ∃ m : Nat, i = -1 - (m : Int) := ⟨(-1 - i).toNat, by omega⟩
    subst hm
    rw [i64_not_neg m (by omega)]
    omega
  · obtain ⟨m, hm⟩ : ∃ m : Nat, i = (m : Int) := ⟨i.toNat, by omega⟩
    subst hm
    exact i64_not_pos m (by omega)
/-- 'uint64(^n)<<1 | 1' and 'uint64(n)<<1', as the walk writes them. -/
theorem zig_neg (m : Nat) (hm : m < 9223372036854775808) :
    bits .or .u64 (IntKind.u64.wrap (IntKind.u64.wrap (bits .xor .i64 (-1) (-1 - (m : Int))) * 2)) 1 = ((2 * m + 1 : Nat) : Int) := by
  rw [i64_not_neg m hm, IntKind.wrap_u64, IntKind.wrap_u64]
  have h : ((m : Int) % 18446744073709551616 * 2 % 18446744073709551616) = ((2 * m : Nat) : Int) := by omega
  rw [h, show (1 : Int) = ((1 : Nat) : Int) from rfl, u64_or_nat _ _ (by omega) (by omega)]
  congr 1
  have := Nat.two_pow_add_eq_or_of_lt (i := 1) (b := 1) (by omega) m
  rw [Nat.pow_one] at this
  omega
theorem zig_pos (m : Nat) (hm : m < 9223372036854775808) : IntKind.u64.wrap (IntKind.u64.wrap (m : Int) * 2) = ((2 * m : Nat) : Int) := by
  rw [IntKind.wrap_u64, IntKind.wrap_u64]; omega

/-- So many zero bytes, as cells. -/
def zrow (m : Nat) : List Value := List.replicate m (Value.int .u8 0)
theorem zrow_length (m : Nat) : (zrow m).length = m := by simp [zrow]
theorem hide {p : Prop} (h : p) : Hid p := h

/-- 'make([]byte, n, c)', n and c variables: a new row of c zeros. -/
theorem wpList_make_lc {P : Program} (w : World) {ops : Array Oper} {rest : List Oper} {o : Oper} {a : Act} {Q : Exit → Act → World → Prop}
    (hg : o.guard = none) (l c : Operand) (t : TypeId) (hop : o.op = Op.makeSlice t l c)
    (e : TypeId) (i : TypeInfo) (h1 : P.underlying t = some (.slice e)) (h2 : P.info? e = some i) (h3 : i.zero = some (.int .u8 0)) (h4 : i.size = 1)
    (kl kc : IntKind) (L C : Int) (n m : Nat) (hl : a.eval l = .int kl L) (hc : a.eval c = .int kc C) (hL : L = (n : Int)) (hC : C = (m : Int)) (hnm : n ≤ m) (b2 : i.bytes * m ≤ 281474976710656) (b3 : m ≤ maxLen)
    (hK : ∀ w', Hid (w'.heap[w.heap.size]? = some (.cells (zrow m).toArray e (0, 0))) → Below w.heap.size w w' → w.heap.size < w'.heap.size →
      wpList P ops Q rest (a.put o.dst (.slice (some ⟨w.heap.size, 0, none⟩) n m)) w') :
    wpList P ops Q (o :: rest) a w := by
  refine wpList_plain hg fun K hK' => ?_
  subst hL
  subst hC
  have h63' : (m : Int) ≤ 9223372036854775807 := by
    have h := b3
    simp [maxLen] at h
    omega
  have hb' : (i.bytes : Int) * (m : Int) ≤ 281474976710656 := by
    have h : ((i.bytes * m : Nat) : Int) ≤ 281474976710656 := by omega
    rwa [Int.natCast_mul] at h
  have hrun := run_make (P := P) w t e i (.int .u8 0) h1 h2 h3 kl kc n m (by omega) (by omega) hb' h63'
  simp only [Int.toNat_natCast] at hrun
  unfold Oper.wp
  simp only [execOp, hop, hl, hc]
  simp [hrun, Result.andThen]
  refine hK' _ _ (hK _ ?_ ((Below.refl _ _).alloc (Nat.le_refl _) _) (by simp))
  show _ = _
  rw [heap_alloc_new]
  have : (madeCells (Value.int IntKind.u8 0).cells (m * i.size)) = (zrow m).toArray := by
    apply Array.ext'
    rw [h4, Nat.mul_one]
    simpa [Value.cells, zrow] using toList_madeCells_one (Value.int .u8 0) m
  rw [this]

/-- The row behind 'make' and 'copy' of the whole, as what is owned. -/
theorem owns_of_splice {w : World} {g base n cap : Nat} {cs : List Value} (h : w.heap[g]? = some (.cells (splice (zrow cap) 0 cs).toArray 5 (0, 0)))
    (hb : base ≤ g) (hl : cs.length = n) (hn : n ≤ cap) (hc : cap ≤ maxLen) : w.ownsRow base 5 1 (.slice (some ⟨g, 0, none⟩) n cap) n cs := by
  refine ⟨by omega, .inr ⟨g, cap, _, rfl, hb, h, hn, hc, ?_, ?_⟩⟩
  · simp [splice, zrow]; omega
  · simp [splice, hl]

/-- 'append(out, u...)' of bytes, out the call's own. -/
theorem wpList_append_byt {P : Program} (w : World) {ops : Array Oper} {rest : List Oper} {o : Oper} {a : Act} {Q : Exit → Act → World → Prop} (hgd : o.guard = none) (s x : Operand) (t : TypeId)
    (ho : o.op = .call { callee := .builtin .append, args := #[s, x], argTypes := #[t, t] })
    (base : Nat) (i : TypeInfo) (ht : P.underlying t = some (.slice 5)) (hi : P.info? 5 = some i) (hz : i.zero = some (.int .u8 0)) (hsize : i.size = 1) (hby : i.bytes = 1)
    (v : Value) (n : Nat) (cur : List Value) (hs : a.eval s = v) (hown : w.ownsRow base 5 1 v n cur)
    (u : Value) (xs : List Int) (hx : a.eval x = u) (hu : Byt w u xs) (hlen : n + xs.length ≤ 140737488355328) (hbase : base ≤ w.heap.size)
    (h : ∀ v' w', w'.ownsRow base 5 1 v' (n + xs.length) (cur ++ xs.map (Value.int .u8)) → w.grownBy w' v.ownBlock → wpList P ops Q rest (a.put o.dst v') w') : wpList P ops Q (o :: rest) a w := by
  obtain ⟨b, h0, ao, cap, rfl, h2, h3, h3', h4⟩ := hu
  have none_case : xs = [] → ao = none → wpList P ops Q (o :: rest) a w := by
    intro hxs hao
    subst hxs
    subst hao
    have hc := h3' rfl
    subst hc
    refine wpList_append_own_none hgd s x t ho base 5 i 1 ht hi v n cur hs hown hx ?_
    exact h v w (by simpa using hown) (grownBy_refl' w _)
  cases ao with
  | none =>
    have hc := h3' rfl
    exact none_case (List.eq_nil_of_length_eq_zero (by omega)) rfl
  | some ad =>
    refine wpList_append_own w hgd s x t ho base 5 i (.int .u8 0) 1 1 ht hi hz hsize hby rfl (by decide) v n cur hs hown ad xs.length cap (xs.map (Value.int .u8)) hx (by simp) ?_ ?_ (by unfold maxLen; omega) (by omega) hbase ?_
    · intro j y hj
      have hjl : j < xs.length := by
        rcases Nat.lt_or_ge j xs.length with h | h
        · exact h
        · simp [List.getElem?_eq_none h] at hj
      obtain ⟨off, e, hc⟩ := h4 (by omega)
      simp only [Option.some.injEq] at e
      subst e
      rw [Addr.add_lit, hc j hjl]
      simp [List.getElem?_eq_getElem hjl] at hj
      simp [hj, List.getElem?_eq_getElem hjl]
    · intro y hy
      obtain ⟨x, _, rfl⟩ := List.mem_map.1 hy
      rfl
    · intro v' w' hown' hg _
      exact h v' w' hown' hg

/-- One byte, two bytes, no byte that have just been laid. -/
theorem Byt.one (w : World) (c : Int) (h0 : 0 ≤ c) (h1 : c < 256) : Byt (w.alloc (.cells #[.int .u8 c] 5)) (.slice (some ⟨w.heap.size, 0, none⟩) 1 1) [c] := by
  refine ⟨w.heap.size, by simp; omega, _, 1, rfl, by simp, by simp [maxLen], by simp, fun _ => ⟨0, rfl, fun j hj => ?_⟩⟩
  simp only [Nat.zero_add]
  rw [World.cell?_alloc_new]
  match j, hj with
  | 0, _ => rfl
theorem Byt.two (w : World) (c d : Int) (h0 : 0 ≤ c) (h1 : c < 256) (h2 : 0 ≤ d) (h3 : d < 256) : Byt (w.alloc (.cells #[.int .u8 c, .int .u8 d] 5)) (.slice (some ⟨w.heap.size, 0, none⟩) 2 2) [c, d] := by
  refine ⟨w.heap.size, by simp; omega, _, 2, rfl, by simp, by simp [maxLen], by simp, fun _ => ⟨0, rfl, fun j hj => ?_⟩⟩
  simp only [Nat.zero_add]
  rw [World.cell?_alloc_new]
  match j, hj with
  | 0, _ => rfl
  | 1, _ => rfl
theorem owns_empty (w : World) (base : Nat) (hb : base ≤ w.heap.size) : (w.alloc (.cells #[] 5)).ownsRow base 5 1 (.slice (some ⟨w.heap.size, 0, none⟩) 0 0) 0 [] :=
  World.ownsRow_made w #[] 0 hb (by simp [maxLen]) (by simp)

/-- A reader lies at block p: the bytes xs are left (they lie in block b), its fault is 'code'. -/
def RdrAt (w : World) (p b : Nat) (xs : List Int) (code : Int) : Prop :=
  ∃ v, w.cell? ⟨p, 0, none⟩ = some v ∧ w.cell? ⟨p, 1, none⟩ = some (.int .i64 code) ∧ w.frozen? ⟨p, 0, none⟩ = false ∧ w.frozen? ⟨p, 1, none⟩ = false ∧ BytAt b w v xs ∧ b ≠ p

theorem RdrAt.lt {w : World} {p b : Nat} {xs : List Int} {code : Int} (h : RdrAt w p b xs code) : p < w.heap.size := by
  obtain ⟨v, h1, _⟩ := h
  exact World.block_lt_of_cell? w _ h1

theorem grownBy_refl (w : World) (r : Option Nat) : w.grownBy w r := ⟨rfl, rfl, rfl, Nat.le_refl _, fun _ _ _ => rfl⟩
theorem grownBy_trans {w w1 w2 : World} {r : Option Nat} (h1 : w.grownBy w1 r) (h2 : w1.grownBy w2 r) : w.grownBy w2 r :=
  ⟨h2.os.trans h1.os, h2.tape.trans h1.tape, h2.output.trans h1.output, Nat.le_trans h1.size h2.size, fun k hk hr => (h2.block k (Nat.lt_of_lt_of_le hk h1.size) hr).trans (h1.block k hk hr)⟩
theorem grownBy_below {w w1 : World} (h : Below w.heap.size w w1) (r : Option Nat) : w.grownBy w1 r := ⟨h.os, h.tape, h.output, h.size, fun k hk _ => h.block k hk⟩
theorem grownBy_setCell (w : World) (p o : Nat) (u : Value) : w.grownBy (w.setCell ⟨p, o, none⟩ u) (some p) :=
  ⟨rfl, rfl, rfl, by simp [World.setCell], fun k _ hr => Below.heap_setCell _ _ _ _ (fun e => hr (by rw [e]))⟩

theorem BytAt.kept {b q : Nat} {w w' : World} {v : Value} {xs : List Int} (h : BytAt b w v xs) (hg : w.grownBy w' (some q)) (hq : q ≠ b) : BytAt b w' v xs := by
  have hlt := h.lt
  obtain ⟨h0, ao, cap, h1, h2, h3, h3', h4⟩ := h
  refine ⟨h0, ao, cap, h1, h2, h3, h3', fun hp => ?_⟩
  obtain ⟨off, e, hc⟩ := h4 hp
  exact ⟨off, e, fun j hj => hg.cell (hc j hj) (by simp; omega)⟩

/-- What is done at another block leaves a reader as it was. -/
theorem RdrAt.kept {w w' : World} {p b q : Nat} {xs : List Int} {code : Int} (h : RdrAt w p b xs code) (hg : w.grownBy w' (some q)) (hp : q ≠ p) (hb : q ≠ b) : RdrAt w' p b xs code := by
  have hl := h.lt
  obtain ⟨v, h1, h2, h3, h4, h5, h6⟩ := h
  have hblk := hg.block p hl (by simp; omega)
  refine ⟨v, (World.cell?_of_block (a := ⟨p, 0, none⟩) hblk).trans h1, (World.cell?_of_block (a := ⟨p, 1, none⟩) hblk).trans h2, (World.frozen?_of_block (a := ⟨p, 0, none⟩) hblk).trans h3, (World.frozen?_of_block (a := ⟨p, 1, none⟩) hblk).trans h4, h5.kept hg hb, h6⟩

theorem RdrAt.below {w w' : World} {p b : Nat} {xs : List Int} {code : Int} (h : RdrAt w p b xs code) (hg : Below w.heap.size w w') : RdrAt w' p b xs code := by
  have hl := h.lt
  obtain ⟨v, h1, h2, h3, h4, h5, h6⟩ := h
  have hblk := hg.block p hl
  refine ⟨v, (World.cell?_of_block (a := ⟨p, 0, none⟩) hblk).trans h1, (World.cell?_of_block (a := ⟨p, 1, none⟩) hblk).trans h2, (World.frozen?_of_block (a := ⟨p, 0, none⟩) hblk).trans h3, (World.frozen?_of_block (a := ⟨p, 1, none⟩) hblk).trans h4, h5.below hg (fun hp => h5.lt hp), h6⟩

theorem RdrAt.setCode {w : World} {p b : Nat} {xs : List Int} {code : Int} (h : RdrAt w p b xs code) (c : Int) : RdrAt (w.setCell ⟨p, 1, none⟩ (.int .i64 c)) p b xs c := by
  obtain ⟨v, h1, h2, h3, h4, h5, h6⟩ := h
  refine ⟨v, ?_, ?_, ?_, ?_, h5.kept (grownBy_setCell w p 1 _) (by omega), h6⟩
  · exact (World.cell?_setCell_other (w := w) (a := ⟨p, 1, none⟩) (b := ⟨p, 0, none⟩) (v := .int .i64 c) (by simp)).trans h1
  · exact World.cell?_setCell_same (w := w) (a := ⟨p, 1, none⟩) (v := .int .i64 c) h2
  · simpa using h3
  · simpa using h4

theorem RdrAt.setRest {w : World} {p b : Nat} {xs ys : List Int} {code : Int} {v : Value} (h : RdrAt w p b xs code) (hv : BytAt b w v ys) : RdrAt (w.setCell ⟨p, 0, none⟩ v) p b ys code := by
  obtain ⟨v0, h1, h2, h3, h4, h5, h6⟩ := h
  refine ⟨v, ?_, ?_, ?_, ?_, hv.kept (grownBy_setCell w p 0 _) (by omega), h6⟩
  · exact World.cell?_setCell_same (w := w) (a := ⟨p, 0, none⟩) (v := v) h1
  · exact (World.cell?_setCell_other (w := w) (a := ⟨p, 0, none⟩) (b := ⟨p, 1, none⟩) (v := v) (by simp)).trans h2
  · simpa using h3
  · simpa using h4

/-- A reader that has just been laid. -/
theorem RdrAt.new {w : World} {t : TypeId} {v : Value} {xs : List Int} {b : Nat} {code : Int} (h : BytAt b w v xs) (hb : b < w.heap.size) :
    RdrAt (w.alloc (.cells #[v, .int .i64 code] t)) w.heap.size b xs code := by
  have hn := heap_alloc_new w (.cells #[v, .int .i64 code] t)
  refine ⟨v, ?_, ?_, ?_, ?_, h.below ((Below.refl w.heap.size w).alloc (Nat.le_refl _) _) (fun hp => h.lt hp), by omega⟩
  · rw [cell_of_row _ _ _ _ _ _ hn]; rfl
  · rw [cell_of_row _ _ _ _ _ _ hn]; rfl
  · exact frozen_of_row _ _ _ _ _ hn
  · exact frozen_of_row _ _ _ _ _ hn

/-- What a slice leads to, cut at its front. -/
theorem BytAt.drop {b : Nat} {w : World} {ao : Option Addr} {cap : Nat} {xs : List Int} (h : BytAt b w (.slice ao xs.length cap) xs) (k : Nat) (hk : k ≤ xs.length) (ao' : Option Addr)
    (hao : ∀ off, ao = some ⟨b, off, none⟩ → k < xs.length → ao' = some ⟨b, off + k, none⟩) (hno : ao' = none → ao = none) : BytAt b w (.slice ao' (xs.length - k) (cap - k)) (xs.drop k) := by
  obtain ⟨h0, ao1, cap1, e, h2, h3, h3', h4⟩ := h
  simp only [Value.slice.injEq, true_and] at e
  obtain ⟨rfl, rfl⟩ := e
  refine ⟨fun x hx => h0 x (List.mem_of_mem_drop hx), ao', cap - k, by simp, by simp; omega, by omega, fun hn => by have := h3' (hno hn); omega, fun hp => ?_⟩
  simp at hp
  obtain ⟨off, rfl, hc⟩ := h4 (by omega)
  refine ⟨off + k, hao off rfl (by omega), fun j hj => ?_⟩
  simp at hj
  have := hc (k + j) (by omega)
  rw [show off + k + j = off + (k + j) from by omega, this]
  simp

end Go.Proofs.Ytbjnhicikkjadab.Lb
