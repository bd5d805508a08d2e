/- FlowMore: bytes that are appended; more marks. -/
import Derived.Test.YtblcbccchlljhaaWn
import Derived.Laws.AppendOwnNone
namespace Go.Proofs.Ytblcbccchlljhaa
open Go.RowKit Ir Wy

theorem info5 : (Try.prog.info? 5).map (fun i => (i.zero, i.size, i.bytes)) = some (some (.int .u8 0), 1, 1) := by kernel_rfl
/-- Three new blocks. -/
theorem three (w : World) (o1 o2 o3 : Obj) : (((w.alloc o1).alloc o2).alloc o3).heap[w.heap.size]? = some o1 ∧ (((w.alloc o1).alloc o2).alloc o3).heap[w.heap.size + 1]? = some o2 ∧ (((w.alloc o1).alloc o2).alloc o3).heap[w.heap.size + 2]? = some o3 ∧ Below w.heap.size w (((w.alloc o1).alloc o2).alloc o3) := by
  have h2 := heap_alloc_new (w.alloc o1) o2
  have h3 := heap_alloc_new ((w.alloc o1).alloc o2) o3
  rw [World.size_alloc] at h2
  rw [World.size_alloc, World.size_alloc] at h3
  exact ⟨((bel2' (w.alloc o1) o2 o3).block w.heap.size (by simp)).trans (heap_alloc_new w o1), ((bel1' ((w.alloc o1).alloc o2) o3).block (w.heap.size + 1) (by simp)).trans h2, h3, bel_of (bel1' w o1) (bel2' (w.alloc o1) o2 o3)⟩
/-- A list of bytes, the call's own. -/
def BytO (B : Nat) (w : World) (v : Value) (xs : List Int) : Prop := w.ownsRow B 5 1 v xs.length (xs.map (Value.int .u8))
theorem BytO.made (w : World) {B : Nat} (hB : B ≤ w.heap.size) : BytO B (w.alloc (.cells #[] 5)) (.slice (some ⟨w.heap.size, 0, none⟩) 0 0) [] := World.ownsRow_made w #[] 0 hB (by simp [maxLen]) rfl
theorem BytO.v {B : Nat} {w : World} {v : Value} {xs : List Int} (h : BytO B w v xs) (hr : ∀ x ∈ xs, 0 ≤ x ∧ x < 256) : Byt w v xs := by
  rcases h.2 with ⟨rfl, h0⟩ | ⟨g, cap, cur, rfl, _, hg, hnc, hcm, _, ht⟩
  · have : xs = [] := List.eq_nil_of_length_eq_zero h0
    subst this
    exact SlV.nil
  · refine ⟨_, cap, rfl, hnc, hcm, (fun e => by simp at e), fun _ => ⟨g, 0, rfl, fun j hj => ?_⟩⟩
    have hm : xs.getD j 0 ∈ xs := by rw [getD_get _ _ _ hj]; exact List.getElem_mem hj
    refine ⟨?_, hr _ hm⟩
    show w.cell? _ = _
    rw [Nat.zero_add, Nat.mul_one, cell_of_row w g j cur _ _ hg]
    have h1 : (cur.toList.take (xs.length * 1))[j]? = some (Value.int .u8 (xs.getD j 0)) := by
      rw [ht]
      simp [List.getElem?_eq_getElem hj]
    rw [List.getElem?_take, if_pos (by omega)] at h1
    simpa using h1
theorem byt_range {w : World} {v : Value} {xs : List Int} (h : Byt w v xs) : ∀ x ∈ xs, 0 ≤ x ∧ x < 256 := by
  intro x hx
  obtain ⟨j, hj, rfl⟩ := List.getElem_of_mem hx
  obtain ⟨ao, cap, rfl, h2, h3, h3', h4⟩ := h
  obtain ⟨b, off, e, hc⟩ := h4 (by omega)
  have := (hc j hj).2
  rwa [getD_get _ _ _ hj] at this
/-- append(out, u...) of bytes, out the call's own. -/
theorem wpList_append_byt (w : World) {ops : Array Oper} {rest : List Oper} {o : Oper} {a : Act} {Q : Exit → Act → World → Prop} (hgd : o.guard = none) (s x : Operand)
    (ho : o.op = .call { callee := .builtin .append, args := #[s, x], argTypes := #[22, 22] })
    (base : Nat) (v : Value) (cur : List Int) (hs : a.eval s = v) (hown : BytO base w v cur)
    (u : Value) (xs : List Int) (hx : a.eval x = u) (hu : Byt w u xs) (hlen : cur.length + xs.length ≤ 140737488355328) (hbase : base ≤ w.heap.size)
    (h : ∀ v' w', BytO base w' v' (cur ++ xs) → w.grownBy w' v.ownBlock → wpList Try.prog ops Q rest (a.put o.dst v') w') : wpList Try.prog ops Q (o :: rest) a w := by
  obtain ⟨i, hi, hz, hsize, hby⟩ := info_parts info5
  obtain ⟨ao, cap, rfl, h2, h3, h3', h4⟩ := hu
  cases ao with
  | none =>
    have hc := h3' rfl
    have : xs = [] := List.eq_nil_of_length_eq_zero (by omega)
    subst this
    subst hc
    refine wpList_append_own_none hgd s x 22 ho base 5 i 1 Try.underlying22 hi v _ _ hs hown hx ?_
    exact h v w (by simpa using hown) ⟨rfl, rfl, rfl, Nat.le_refl _, fun _ _ _ => rfl⟩
  | some ad =>
    refine wpList_append_own w hgd s x 22 ho base 5 i (.int .u8 0) 1 1 Try.underlying22 hi hz hsize hby rfl (by decide) v _ _ hs hown ad xs.length cap (xs.map (Value.int .u8)) hx (by simp) ?_ ?_ (by unfold maxLen; omega) (by omega) hbase ?_
    · intro j y hj
      have hjl : j < xs.length := by
        rcases Nat.lt_or_ge j xs.length with h | h
        · exact h
        · simp [List.getElem?_eq_none h] at hj
      obtain ⟨b, off, e, hc⟩ := h4 (by omega)
      simp only [Option.some.injEq] at e
      subst e
      have := (hc j hjl).1
      rw [Nat.mul_one] at this
      rw [Addr.add_lit, this]
      simp [List.getElem?_eq_getElem hjl] at hj
      simp [hj, List.getElem?_eq_getElem hjl]
    · intro y hy
      obtain ⟨x, _, rfl⟩ := List.mem_map.1 hy
      rfl
    · intro v' w' h1 h2 _
      exact h v' w' (by simpa [BytO] using h1) h2
/-- More that blocks add. -/
theorem mset_more {n : Nat} {ms ns : List Int} (b y : Nat) (hy : mset n ms b y = true) : mset n (ms ++ ns) b y = true := by
  rw [mset_mem] at hy ⊢
  have hy := of_decide_eq_true hy
  refine decide_eq_true ?_
  rw [mkL_mem] at hy ⊢
  obtain ⟨j, h1, h2, h3, h4⟩ := hy
  refine ⟨j, by rw [List.length_append]; omega, h2, h3, ?_⟩
  rw [h4]
  simp [List.getD, List.getElem?_append_left h1]
/-- With more that blocks add no fact is less. -/
theorem more_sub {back : Bool} {es : List En} {ms ns cs : List Int} {fs gs : Nat → Nat → Bool} (hin : EndsIn es) (hc : (mP back es ms cs).Come fs) (hc' : (mP back es (ms ++ ns) cs).Come gs) (hs' : (mP back es (ms ++ ns) cs).Still gs) : ∀ b y, fs b y = true → gs b y = true :=
  Fl.sets_more (sP_fit (back := back) hin zero_fit (ms ++ ns)) hc hc' hs' fun b y hy => mset_more b y hy
end Go.Proofs.Ytblcbccchlljhaa
