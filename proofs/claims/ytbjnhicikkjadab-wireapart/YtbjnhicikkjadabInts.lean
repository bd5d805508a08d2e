/- Lists of numbers: copied, compared; what an instruction takes and gives, by ir and by the document. -/
import Derived.Test.YtbjnhicikkjadabMem
import Derived.BigQuiet
import Derived.Deep.QuietTactic
namespace Go.Proofs.Ytbjnhicikkjadab
open Go.RowKit Ir

theorem info_parts {t : TypeId} {z : Value} {s b : Nat} (h : (Try.prog.info? t).map (fun i => (i.zero, i.size, i.bytes)) = some (some z, s, b)) : ∃ i, Try.prog.info? t = some i ∧ i.zero = some z ∧ i.size = s ∧ i.bytes = b := by
  cases hi : Try.prog.info? t with
  | none => rw [hi] at h; simp at h
  | some i =>
    rw [hi] at h
    simp at h
    exact ⟨i, rfl, h.1, h.2.1, h.2.2⟩
theorem info3 : (Try.prog.info? 3).map (fun i => (i.zero, i.size, i.bytes)) = some (some (.int .i64 0), 1, 8) := by kernel_rfl
theorem bel1' (w : World) (o : Obj) : Below w.heap.size w (w.alloc o) := (Below.refl _ _).alloc (Nat.le_refl _) o
theorem bel2' (w : World) (o o' : Obj) : Below w.heap.size w ((w.alloc o).alloc o') := (bel1' w o).alloc (by simp) o'

/-- 'append(out, u...)' of numbers, out the call's own. -/
theorem wpList_append_ints (w : World) {ops : Array Oper} {rest : List Oper} {o : Oper} {a : Act} {Q : Exit → Act → World → Prop} (hgd : o.guard = none) (s x : Operand)
    (ho : o.op = .call { callee := .builtin .append, args := #[s, x], argTypes := #[47, 47] })
    (base : Nat) (v : Value) (cur : List Int) (hs : a.eval s = v) (hown : ArgsO base w v cur)
    (u : Value) (xs : List Int) (hx : a.eval x = u) (hu : IntsV w u xs) (hlen : cur.length + xs.length ≤ 2000000000) (hbase : base ≤ w.heap.size)
    (h : ∀ v' w', ArgsO base w' v' (cur ++ xs) → w.grownBy w' v.ownBlock → wpList Try.prog ops Q rest (a.put o.dst v') w') : wpList Try.prog ops Q (o :: rest) a w := by
  obtain ⟨i, hi, hz, hsize, hby⟩ := info_parts info3
  obtain ⟨ao, cap, rfl, h2, h3, h3', h4⟩ := hu
  cases ao with
  | none =>
    have hc := h3' rfl
    have : xs = [] := List.eq_nil_of_length_eq_zero (by omega)
    subst this
    subst hc
    refine wpList_append_own_none hgd s x 47 ho base 3 i 1 Try.underlying47 hi v _ _ hs hown hx ?_
    exact h v w (by simpa using hown) ⟨rfl, rfl, rfl, Nat.le_refl _, fun _ _ _ => rfl⟩
  | some ad =>
    refine wpList_append_own w hgd s x 47 ho base 3 i (.int .i64 0) 1 8 Try.underlying47 hi hz hsize hby rfl (by decide) v _ _ hs hown ad xs.length cap (xs.map (Value.int .i64)) hx (by simp) ?_ ?_ (by unfold maxLen; omega) (by omega) hbase ?_
    · intro j y hj
      have hjl : j < xs.length := by
        rcases Nat.lt_or_ge j xs.length with h | h
        · exact h
        · simp [List.getElem?_eq_none h] at hj
      obtain ⟨b, off, e, hc⟩ := h4 (by omega)
      simp only [Option.some.injEq] at e
      subst e
      have := hc j hjl
      rw [Nat.mul_one] at this
      rw [Addr.add_lit, this]
      simp [List.getElem?_eq_getElem hjl] at hj
      simp [hj, List.getElem?_eq_getElem hjl]
    · intro y hy
      obtain ⟨x, _, rfl⟩ := List.mem_map.1 hy
      rfl
    · intro v' w' hown' hg _
      exact h v' w' (owns_cast hown' (by simp) (by simp)) hg

theorem args_empty (w : World) (B : Nat) (hB : B ≤ w.heap.size) : ArgsO B (w.alloc (.cells #[] 3)) (.slice (some ⟨w.heap.size, 0, none⟩) 0 0) [] :=
  World.ownsRow_made w #[] 0 hB (by simp [maxLen]) (by simp)
theorem args_one (w : World) (B : Nat) (hB : B ≤ w.heap.size) (x : Int) : ArgsO B (w.alloc (.cells #[.int .i64 x] 3)) (.slice (some ⟨w.heap.size, 0, none⟩) 1 1) [x] :=
  ⟨rfl, .inr ⟨w.heap.size, 1, _, rfl, hB, heap_alloc_new w _, Nat.le_refl _, by simp [maxLen], rfl, rfl⟩⟩
theorem args_two (w : World) (B : Nat) (hB : B ≤ w.heap.size) (x y : Int) : ArgsO B (w.alloc (.cells #[.int .i64 x, .int .i64 y] 3)) (.slice (some ⟨w.heap.size, 0, none⟩) 2 2) [x, y] :=
  ⟨rfl, .inr ⟨w.heap.size, 2, _, rfl, hB, heap_alloc_new w _, Nat.le_refl _, by simp [maxLen], rfl, rfl⟩⟩

set_option maxRecDepth 100000 in
theorem clone_any (v : Value) (xs : List Int) (w : World) (hv : IntsV w v xs) (hl : xs.length ≤ 1000000000) :
    Calls Try.prog 31 #[v] w fun e w' => ∃ u, e = .returned u ∧ ArgsO w.heap.size w' u xs ∧ Below w.heap.size w w' := by
  obtain ⟨ao, cap, rfl⟩ := hv.slice
  have hcap := SlV.cap hv
  cases ao with
  | none =>
    have hc := hcap.2.2.2 rfl
    have hx : xs = [] := List.eq_nil_of_length_eq_zero (by omega)
    subst hx
    subst hc
    clear hv hcap
    have q44 : ∀ (w : World) (a : Option Addr) (n c n' c' : Nat), (binOp .eql 47 (.slice a n c) (.slice none n' c')).run Try.prog w = .ok (.bool a.isNone) w := fun w a n c n' c' => Lib.run_eql_slice_nil w _ _ a n c n' c' Try.underlying47
    go_enter Try.func31, Try.ntmps31
    go_wp2_with fail
    go_ret
    exact ⟨_, rfl, ArgsO.nil _ _, Below.refl _ _⟩
  | some ad =>
    have hO := args_empty w w.heap.size (Nat.le_refl _)
    have hV := hv.below (bel1' w (.cells #[] 3))
    have hB := bel1' w (.cells #[] 3)
    have hz : w.heap.size ≤ (w.alloc (.cells #[] 3)).heap.size := hB.size
    clear hcap hv
    have q44 : ∀ (w : World) (a : Option Addr) (n c n' c' : Nat), (binOp .eql 47 (.slice a n c) (.slice none n' c')).run Try.prog w = .ok (.bool a.isNone) w := fun w a n c n' c' => Lib.run_eql_slice_nil w _ _ a n c n' c' Try.underlying47
    go_enter Try.func31, Try.ntmps31
    go_wp2_with (at_builtin; go_must (refine wpList_append_ints _ rfl (.tmp 5) (.tmp 6) rfl w.heap.size _ _ rfl hO _ _ rfl hV (by simp; omega) hz ?_))
    intro v' w' hO' hg
    have hB' := hB.grown hg hz (fun k hk => (hO.lt k hk).1)
    clear hO hV hg hB
    go_wp2_with fail
    go_ret
    exact ⟨_, rfl, hO', hB'⟩

set_option maxRecDepth 100000 in
theorem uses_2 (op d a b n : Int) (args : List Int) (u : Value) (w : World) (hu : IntsV w u args) :
    Calls Try.prog 24 #[insV ⟨2, op, d, a, b, n, args⟩ u] w fun e w' => ∃ r, e = .returned r ∧ ArgsO w.heap.size w' r (uses ⟨2, op, d, a, b, n, args⟩) ∧ Below w.heap.size w w' := by
  obtain ⟨ua, ca, rfl⟩ := hu.slice
  have hB := bel1' w (.cells #[.int .u8 2, .int .u8 op, .int .i64 d, .int .i64 a, .int .i64 b, .int .i64 n, .slice ua args.length ca] 49)
  have hO := hide (args_one (w.alloc (.cells #[.int .u8 2, .int .u8 op, .int .i64 d, .int .i64 a, .int .i64 b, .int .i64 n, .slice ua args.length ca] 49)) w.heap.size hB.size a)
  have hB2 := bel2' w (.cells #[.int .u8 2, .int .u8 op, .int .i64 d, .int .i64 a, .int .i64 b, .int .i64 n, .slice ua args.length ca] 49) (.cells #[.int .i64 a] 3)
  have hE : Hid (uses ⟨2, op, d, a, b, n, args⟩ = [a]) := by show _ = _; simp [uses]
  unfold insV
  clear hu
  go_enter Try.func24, Try.ntmps24
  go_wp2_with fail
  go_ret
  exact ⟨_, rfl, by rw [hE.out]; have h1 := hO.out; simp only [World.size_alloc] at h1; exact h1, hB2⟩
set_option maxRecDepth 100000 in
theorem uses_4 (op d a b n : Int) (args : List Int) (u : Value) (w : World) (hu : IntsV w u args) :
    Calls Try.prog 24 #[insV ⟨4, op, d, a, b, n, args⟩ u] w fun e w' => ∃ r, e = .returned r ∧ ArgsO w.heap.size w' r (uses ⟨4, op, d, a, b, n, args⟩) ∧ Below w.heap.size w w' := by
  obtain ⟨ua, ca, rfl⟩ := hu.slice
  have hB := bel1' w (.cells #[.int .u8 4, .int .u8 op, .int .i64 d, .int .i64 a, .int .i64 b, .int .i64 n, .slice ua args.length ca] 49)
  have hO := hide (args_one (w.alloc (.cells #[.int .u8 4, .int .u8 op, .int .i64 d, .int .i64 a, .int .i64 b, .int .i64 n, .slice ua args.length ca] 49)) w.heap.size hB.size a)
  have hB2 := bel2' w (.cells #[.int .u8 4, .int .u8 op, .int .i64 d, .int .i64 a, .int .i64 b, .int .i64 n, .slice ua args.length ca] 49) (.cells #[.int .i64 a] 3)
  have hE : Hid (uses ⟨4, op, d, a, b, n, args⟩ = [a]) := by show _ = _; simp [uses]
  unfold insV
  clear hu
  go_enter Try.func24, Try.ntmps24
  go_wp2_with fail
  go_ret
  exact ⟨_, rfl, by rw [hE.out]; have h1 := hO.out; simp only [World.size_alloc] at h1; exact h1, hB2⟩
set_option maxRecDepth 100000 in
theorem uses_7 (op d a b n : Int) (args : List Int) (u : Value) (w : World) (hu : IntsV w u args) :
    Calls Try.prog 24 #[insV ⟨7, op, d, a, b, n, args⟩ u] w fun e w' => ∃ r, e = .returned r ∧ ArgsO w.heap.size w' r (uses ⟨7, op, d, a, b, n, args⟩) ∧ Below w.heap.size w w' := by
  obtain ⟨ua, ca, rfl⟩ := hu.slice
  have hB := bel1' w (.cells #[.int .u8 7, .int .u8 op, .int .i64 d, .int .i64 a, .int .i64 b, .int .i64 n, .slice ua args.length ca] 49)
  have hO := hide (args_one (w.alloc (.cells #[.int .u8 7, .int .u8 op, .int .i64 d, .int .i64 a, .int .i64 b, .int .i64 n, .slice ua args.length ca] 49)) w.heap.size hB.size a)
  have hB2 := bel2' w (.cells #[.int .u8 7, .int .u8 op, .int .i64 d, .int .i64 a, .int .i64 b, .int .i64 n, .slice ua args.length ca] 49) (.cells #[.int .i64 a] 3)
  have hE : Hid (uses ⟨7, op, d, a, b, n, args⟩ = [a]) := by show _ = _; simp [uses]
  unfold insV
  clear hu
  go_enter Try.func24, Try.ntmps24
  go_wp2_with fail
  go_ret
  exact ⟨_, rfl, by rw [hE.out]; have h1 := hO.out; simp only [World.size_alloc] at h1; exact h1, hB2⟩
set_option maxRecDepth 100000 in
theorem uses_3 (op d a b n : Int) (args : List Int) (u : Value) (w : World) (hu : IntsV w u args) :
    Calls Try.prog 24 #[insV ⟨3, op, d, a, b, n, args⟩ u] w fun e w' => ∃ r, e = .returned r ∧ ArgsO w.heap.size w' r (uses ⟨3, op, d, a, b, n, args⟩) ∧ Below w.heap.size w w' := by
  obtain ⟨ua, ca, rfl⟩ := hu.slice
  have hB := bel1' w (.cells #[.int .u8 3, .int .u8 op, .int .i64 d, .int .i64 a, .int .i64 b, .int .i64 n, .slice ua args.length ca] 49)
  have hO := hide (args_two (w.alloc (.cells #[.int .u8 3, .int .u8 op, .int .i64 d, .int .i64 a, .int .i64 b, .int .i64 n, .slice ua args.length ca] 49)) w.heap.size hB.size a b)
  have hB2 := bel2' w (.cells #[.int .u8 3, .int .u8 op, .int .i64 d, .int .i64 a, .int .i64 b, .int .i64 n, .slice ua args.length ca] 49) (.cells #[.int .i64 a, .int .i64 b] 3)
  have hE : Hid (uses ⟨3, op, d, a, b, n, args⟩ = [a, b]) := by show _ = _; simp [uses]
  unfold insV
  clear hu
  go_enter Try.func24, Try.ntmps24
  go_wp2_with fail
  go_ret
  exact ⟨_, rfl, by rw [hE.out]; have h1 := hO.out; simp only [World.size_alloc] at h1; exact h1, hB2⟩
set_option maxRecDepth 100000 in
theorem uses_5 (op d a b n : Int) (args : List Int) (u : Value) (w : World) (hu : IntsV w u args) :
    Calls Try.prog 24 #[insV ⟨5, op, d, a, b, n, args⟩ u] w fun e w' => ∃ r, e = .returned r ∧ ArgsO w.heap.size w' r (uses ⟨5, op, d, a, b, n, args⟩) ∧ Below w.heap.size w w' := by
  obtain ⟨ua, ca, rfl⟩ := hu.slice
  have hB := bel1' w (.cells #[.int .u8 5, .int .u8 op, .int .i64 d, .int .i64 a, .int .i64 b, .int .i64 n, .slice ua args.length ca] 49)
  have hO := hide (args_two (w.alloc (.cells #[.int .u8 5, .int .u8 op, .int .i64 d, .int .i64 a, .int .i64 b, .int .i64 n, .slice ua args.length ca] 49)) w.heap.size hB.size a b)
  have hB2 := bel2' w (.cells #[.int .u8 5, .int .u8 op, .int .i64 d, .int .i64 a, .int .i64 b, .int .i64 n, .slice ua args.length ca] 49) (.cells #[.int .i64 a, .int .i64 b] 3)
  have hE : Hid (uses ⟨5, op, d, a, b, n, args⟩ = [a, b]) := by show _ = _; simp [uses]
  unfold insV
  clear hu
  go_enter Try.func24, Try.ntmps24
  go_wp2_with fail
  go_ret
  exact ⟨_, rfl, by rw [hE.out]; have h1 := hO.out; simp only [World.size_alloc] at h1; exact h1, hB2⟩
set_option maxRecDepth 100000 in
theorem uses_6 (op d a b n : Int) (args : List Int) (u : Value) (w : World) (hu : IntsV w u args) (hl : args.length ≤ 1000000000) :
    Calls Try.prog 24 #[insV ⟨6, op, d, a, b, n, args⟩ u] w fun e w' => ∃ r, e = .returned r ∧ ArgsO w.heap.size w' r (uses ⟨6, op, d, a, b, n, args⟩) ∧ Below w.heap.size w w' := by
  obtain ⟨ua, ca, rfl⟩ := hu.slice
  have hB := bel1' w (.cells #[.int .u8 6, .int .u8 op, .int .i64 d, .int .i64 a, .int .i64 b, .int .i64 n, .slice ua args.length ca] 49)
  have hE : Hid (uses ⟨6, op, d, a, b, n, args⟩ = args) := by show _ = _; simp [uses]
  have hu2 := hu.below hB
  have hC := hide (clone_any _ args (w.alloc (.cells #[.int .u8 6, .int .u8 op, .int .i64 d, .int .i64 a, .int .i64 b, .int .i64 n, .slice ua args.length ca] 49)) hu2 hl)
  unfold insV
  clear hu hu2
  go_enter Try.func24, Try.ntmps24
  go_wp2_with fail
  refine hC.out.mono ?_
  rintro e w1 ⟨r, rfl, hO, hB1⟩
  have hBw := bel_of hB hB1
  have hO2 := hide (owns_mono hO hB.size)
  clear hC hO hB1 hB
  go_wp2_with fail
  go_ret
  exact ⟨_, rfl, by rw [hE.out]; exact hO2.out, hBw⟩
set_option maxRecDepth 100000 in
theorem uses_k (k op d a b n : Int) (args : List Int) (u : Value) (w : World) (hu : IntsV w u args) (hk : k ≠ 2 ∧ k ≠ 4 ∧ k ≠ 7 ∧ k ≠ 3 ∧ k ≠ 5 ∧ k ≠ 6) :
    Calls Try.prog 24 #[insV ⟨k, op, d, a, b, n, args⟩ u] w fun e w' => ∃ r, e = .returned r ∧ ArgsO w.heap.size w' r (uses ⟨k, op, d, a, b, n, args⟩) ∧ Below w.heap.size w w' := by
  obtain ⟨ua, ca, rfl⟩ := hu.slice
  have hB := bel1' w (.cells #[.int .u8 k, .int .u8 op, .int .i64 d, .int .i64 a, .int .i64 b, .int .i64 n, .slice ua args.length ca] 49)
  have hE : Hid (uses ⟨k, op, d, a, b, n, args⟩ = []) := by show _ = _; simp [uses, hk]
  have b2 : (k == 2) = false := by simp [hk]
  have b4 : (k == 4) = false := by simp [hk]
  have b7 : (k == 7) = false := by simp [hk]
  have b3 : (k == 3) = false := by simp [hk]
  have b5 : (k == 5) = false := by simp [hk]
  have b6 : (k == 6) = false := by simp [hk]
  unfold insV
  clear hu hk
  go_enter Try.func24, Try.ntmps24
  go_wp2_with fail
  go_ret
  exact ⟨_, rfl, by rw [hE.out]; exact ArgsO.nil _ _, hB⟩
theorem uses_any (i : Ins) (u : Value) (w : World) (hu : IntsV w u i.args) (hl : i.args.length ≤ 1000000000) :
    Calls Try.prog 24 #[insV i u] w fun e w' => ∃ r, e = .returned r ∧ ArgsO w.heap.size w' r (uses i) ∧ Below w.heap.size w w' := by
  obtain ⟨k, op, d, a, b, n, args⟩ := i
  by_cases k2 : k = 2
  · subst k2
    exact uses_2 op d a b n args u w hu
  by_cases k4 : k = 4
  · subst k4
    exact uses_4 op d a b n args u w hu
  by_cases k7 : k = 7
  · subst k7
    exact uses_7 op d a b n args u w hu
  by_cases k3 : k = 3
  · subst k3
    exact uses_3 op d a b n args u w hu
  by_cases k5 : k = 5
  · subst k5
    exact uses_5 op d a b n args u w hu
  by_cases k6 : k = 6
  · subst k6
    exact uses_6 op d a b n args u w hu hl
  exact uses_k k op d a b n args u w hu ⟨k2, k4, k7, k3, k5, k6⟩
def gv (i : Ins) : Int := if gives i.k = true then i.d else 0
theorem gives_eq (k : Int) : gives k = (k == 1 || (k == 2 || (k == 3 || (k == 4 || (k == 6 || k == 8))))) := by
  unfold gives
  rw [Bool.eq_iff_iff]
  simp
set_option maxRecDepth 100000 in
theorem gives_any (i : Ins) (u : Value) (w : World) (hu : IntsV w u i.args) : Calls Try.prog 26 #[insV i u] w fun e w' => e = .returned (.tuple #[.int .i64 (gv i), .bool (gives i.k)]) ∧ Below w.heap.size w w' := by
  obtain ⟨k, op, d, a, b, n, args⟩ := i
  obtain ⟨ua, ca, rfl⟩ := hu.slice
  have hB := bel1' w (.cells #[.int .u8 k, .int .u8 op, .int .i64 d, .int .i64 a, .int .i64 b, .int .i64 n, .slice ua args.length ca] 49)
  have hE := hide (gives_eq k)
  clear hu
  unfold insV
  go_enter Try.func26, Try.ntmps26
  go_wp2_with fail
  all_goals
    go_ret2
    refine ⟨?_, hB⟩
    simp only [gv]
    rw [hE.out]
    simp_all
end Go.Proofs.Ytbjnhicikkjadab
