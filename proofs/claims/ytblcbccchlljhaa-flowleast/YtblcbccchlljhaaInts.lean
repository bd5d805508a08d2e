/- Lists of numbers: copied, compared; what an instruction takes and gives, by ir and by the document. -/
import Derived.Test.YtblcbccchlljhaaMem
import Derived.BigQuiet
import Derived.Deep.QuietTactic
namespace Go.Proofs.Ytblcbccchlljhaa
open Go.RowKit Ir

theorem info_parts {t : TypeId} {z : Value} {s b : Nat} (h : (Try.prog.info? t).map (fun i => (i.zero, i.size, i.bytes)) = some (some z, s, b)) : ∃ i, Try.prog.info? t = some i ∧ i.zero = some z ∧ i.size = s ∧ i.bytes = b := by
  cases hi : Try.prog.info? t with
  | none => rw [hi] at h; simp at h
  | some i =>
    rw [hi] at h
    simp at h
    exact ⟨i, rfl, h.1, h.2.1, h.2.2⟩
theorem info3 : (Try.prog.info? 3).map (fun i => (i.zero, i.size, i.bytes)) = some (some (.int .i64 0), 1, 8) := by kernel_rfl
theorem bel1' (w : World) (o : Obj) : Below w.heap.size w (w.alloc o) := (Below.refl _ _).alloc (Nat.le_refl _) o
theorem bel2' (w : World) (o o' : Obj) : Below w.heap.size w ((w.alloc o).alloc o') := (bel1' w o).alloc (by simp) o'

/-- 'append(out, u...)' of numbers, out the call's own. -/
theorem wpList_append_ints (w : World) {ops : Array Oper} {rest : List Oper} {o : Oper} {a : Act} {Q : Exit → Act → World → Prop} (hgd : o.guard = none) (s x : Operand)
    (ho : o.op = .call { callee := .builtin .append, args := #[s, x], argTypes := #[48, 48] })
    (base : Nat) (v : Value) (cur : List Int) (hs : a.eval s = v) (hown : ArgsO base w v cur)
    (u : Value) (xs : List Int) (hx : a.eval x = u) (hu : IntsV w u xs) (hlen : cur.length + xs.length ≤ 2000000000) (hbase : base ≤ w.heap.size)
    (h : ∀ v' w', ArgsO base w' v' (cur ++ xs) → w.grownBy w' v.ownBlock → wpList Try.prog ops Q rest (a.put o.dst v') w') : wpList Try.prog ops Q (o :: rest) a w := by
  obtain ⟨i, hi, hz, hsize, hby⟩ := info_parts info3
  obtain ⟨ao, cap, rfl, h2, h3, h3', h4⟩ := hu
  cases ao with
  | none =>
    have hc := h3' rfl
    have : xs = [] := List.eq_nil_of_length_eq_zero (by omega)
    subst this
    subst hc
    refine wpList_append_own_none hgd s x 48 ho base 3 i 1 Try.underlying48 hi v _ _ hs hown hx ?_
    exact h v w (by simpa using hown) ⟨rfl, rfl, rfl, Nat.le_refl _, fun _ _ _ => rfl⟩
  | some ad =>
    refine wpList_append_own w hgd s x 48 ho base 3 i (.int .i64 0) 1 8 Try.underlying48 hi hz hsize hby rfl (by decide) v _ _ hs hown ad xs.length cap (xs.map (Value.int .i64)) hx (by simp) ?_ ?_ (by unfold maxLen; omega) (by omega) hbase ?_
    · intro j y hj
      have hjl : j < xs.length := by
        rcases Nat.lt_or_ge j xs.length with h | h
        · exact h
        · simp [List.getElem?_eq_none h] at hj
      obtain ⟨b, off, e, hc⟩ := h4 (by omega)
      simp only [Option.some.injEq] at e
      subst e
      have := hc j hjl
      rw [Nat.mul_one] at this
      rw [Addr.add_lit, this]
      simp [List.getElem?_eq_getElem hjl] at hj
      simp [hj, List.getElem?_eq_getElem hjl]
    · intro y hy
      obtain ⟨x, _, rfl⟩ := List.mem_map.1 hy
      rfl
    · intro v' w' hown' hg _
      exact h v' w' (owns_cast hown' (by simp) (by simp)) hg

theorem args_empty (w : World) (B : Nat) (hB : B ≤ w.heap.size) : ArgsO B (w.alloc (.cells #[] 3)) (.slice (some ⟨w.heap.size, 0, none⟩) 0 0) [] :=
  World.ownsRow_made w #[] 0 hB (by simp [maxLen]) (by simp)
theorem args_one (w : World) (B : Nat) (hB : B ≤ w.heap.size) (x : Int) : ArgsO B (w.alloc (.cells #[.int .i64 x] 3)) (.slice (some ⟨w.heap.size, 0, none⟩) 1 1) [x] :=
  ⟨rfl, .inr ⟨w.heap.size, 1, _, rfl, hB, heap_alloc_new w _, Nat.le_refl _, by simp [maxLen], rfl, rfl⟩⟩
theorem args_two (w : World) (B : Nat) (hB : B ≤ w.heap.size) (x y : Int) : ArgsO B (w.alloc (.cells #[.int .i64 x, .int .i64 y] 3)) (.slice (some ⟨w.heap.size, 0, none⟩) 2 2) [x, y] :=
  ⟨rfl, .inr ⟨w.heap.size, 2, _, rfl, hB, heap_alloc_new w _, Nat.le_refl _, by simp [maxLen], rfl, rfl⟩⟩

def gv (i : Ins) : Int := if gives i.k = true then i.d else 0
theorem gives_eq (k : Int) : gives k = (k == 1 || (k == 2 || (k == 3 || (k == 4 || (k == 6 || k == 8))))) := by
  unfold gives
  rw [Bool.eq_iff_iff]
  simp
end Go.Proofs.Ytblcbccchlljhaa
