/- What grows: a number appended to a row of the call's own, and where the row lies then; changes that leave all but some blocks. -/
import Derived.Test.YtblcbccchlljhaaEm
namespace Go.Proofs.Ytblcbccchlljhaa
open Go.RowKit Ir Wy

theorem grown_none {w w' : World} (hg : w.grownBy w' none) (r : Option Nat) : w.grownBy w' r := ⟨hg.os, hg.tape, hg.output, hg.size, fun k hk _ => hg.block k hk (by simp)⟩
theorem ArgsO.mono {B B' : Nat} {w : World} {v : Value} {l : List Int} (h : ArgsO B w v l) (hB : B' ≤ B) : ArgsO B' w v l := owns_mono h hB
theorem ArgsO.below {B : Nat} {w w' : World} {v : Value} {xs : List Int} (h : ArgsO B w v xs) (hk : Below w.heap.size w w') : ArgsO B w' v xs := owns_below h hk
theorem ArgsO.slice {B : Nat} {w : World} {v : Value} {xs : List Int} (h : ArgsO B w v xs) : ∃ ao cap, v = .slice ao xs.length cap := h.v.slice
/-- No number, or the numbers' block. -/
theorem ArgsO.ways {B : Nat} {w : World} {v : Value} {xs : List Int} (h : ArgsO B w v xs) : (v = .slice none 0 0 ∧ xs = []) ∨ ∃ g cap cur, v = .slice (some ⟨g, 0, none⟩) xs.length cap ∧ B ≤ g ∧ w.heap[g]? = some (Obj.cells cur 3 (0, 0)) ∧ xs.length ≤ cap ∧ cap ≤ maxLen ∧ cur.size = cap ∧ cur.toList.take xs.length = xs.map (Value.int .i64) := by
  rcases h.2 with ⟨rfl, h0⟩ | ⟨g, cap, cur, rfl, hb, hg, h1, h2, h3, h4⟩
  · exact .inl ⟨rfl, List.eq_nil_of_length_eq_zero h0⟩
  · exact .inr ⟨g, cap, cur, rfl, hb, hg, h1, h2, by simpa using h3, by simpa using h4⟩
theorem ArgsO.block {B : Nat} {w : World} {v : Value} {xs : List Int} (h : ArgsO B w v xs) : ∀ k, v.ownBlock = some k → B ≤ k ∧ k < w.heap.size ∧ ∃ cur, w.heap[k]? = some (Obj.cells cur 3 (0, 0)) := by
  intro k hk
  refine ⟨(h.lt k hk).1, (h.lt k hk).2, ?_⟩
  rcases h.ways with ⟨rfl, _⟩ | ⟨g, cap, cur, rfl, _, hg, _⟩
  · simp [Value.ownBlock] at hk
  · simp only [Value.ownBlock, Option.some.injEq] at hk
    subst hk
    exact ⟨cur, hg⟩
/-- All but one block stays: a row in another one stays. -/
theorem ArgsO.stays {B : Nat} {w w' : World} {v : Value} {xs : List Int} (h : ArgsO B w v xs) (hk : ∀ k, v.ownBlock = some k → w'.heap[k]? = w.heap[k]?) : ArgsO B w' v xs := by
  rcases h.2 with hn | ⟨g, cap, cur, rfl, hb, hg, h1⟩
  · exact ⟨h.1, .inl hn⟩
  · exact ⟨h.1, .inr ⟨g, cap, cur, rfl, hb, (hk g rfl).trans hg, h1⟩⟩

theorem cells_one {w : World} {h : Nat} {x : Int} (hh : w.heap[h]? = some (Obj.cells #[.int .i64 x] 3 (0, 0))) : ∀ j u, [Value.int .i64 x][j]? = some u → w.cell? ((⟨h, 0, none⟩ : Addr).add j) = some u := by
  intro j u hj
  rw [Addr.add_lit, Nat.zero_add, cell_of_row _ _ _ _ _ _ hh]
  simpa using hj
/-- A number more: what is read, what has turned, and where the row lies. -/
theorem run_snoc (w : World) (ty B h : Nat) (v : Value) (l : List Int) (x : Int) (hO : ArgsO B w v l) (hh : w.heap[h]? = some (Obj.cells #[.int .i64 x] 3 (0, 0))) (hl : l.length ≤ 1000000) (hB : B ≤ w.heap.size) :
    ∃ v' w', (Builtin.append_ #[48, 48] ty #[v, .slice (some ⟨h, 0, none⟩) 1 1]).run Try.prog w = .ok v' w' ∧ ArgsO B w' v' (l ++ [x]) ∧ w.grownBy w' v.ownBlock ∧ ∀ k, v'.ownBlock = some k → v.ownBlock = some k ∨ w.heap.size ≤ k := by
  obtain ⟨i, hi, hz, hsize, hby⟩ := info_parts info3
  have hn1 : ∀ u ∈ [Value.int .i64 x], u.oneCell' = true := by simp [Value.oneCell']
  have key : ∀ b, w.ownsRow b 3 1 v l.length (l.map (Value.int .i64)) → b ≤ w.heap.size → ∃ v' w', (Builtin.append_ #[48, 48] ty #[v, .slice (some ⟨h, 0, none⟩) 1 1]).run Try.prog w = .ok v' w' ∧ ArgsO b w' v' (l ++ [x]) ∧ w.grownBy w' v.ownBlock := by
    intro b hb hb2
    obtain ⟨v', w', h1, h2, h3, _⟩ := run_append_own (P := Try.prog) w b 48 ty 3 i (.int .i64 0) 1 8 Try.underlying48 hi hz hsize hby rfl (by decide) v _ _ hb ⟨h, 0, none⟩ 1 1 [.int .i64 x] rfl (cells_one hh) hn1 (by unfold maxLen; omega) (by omega) hb2
    exact ⟨v', w', h1, owns_cast h2 (by simp) (by simp), h3⟩
  rcases hO.ways with ⟨rfl, rfl⟩ | ⟨g, cap, cur, rfl, hb, hg, hle, hm, hsz, ht⟩
  · obtain ⟨v', w', h1, h2, h3⟩ := key w.heap.size (World.ownsRow_nil _ _ _ _) (Nat.le_refl _)
    exact ⟨v', w', h1, h2.mono hB, h3, fun k hk => .inr (h2.lt k hk).1⟩
  · obtain ⟨v', w', h1, h2, h3⟩ := key B hO hB
    refine ⟨v', w', h1, h2, h3, fun k hk => ?_⟩
    by_cases hroom : l.length + 1 ≤ cap
    · have hr := run_append_room (P := Try.prog) w 48 ty 3 i Try.underlying48 hi g l.length cap cur hg ⟨h, 0, none⟩ 1 1 [.int .i64 x] (by simp [hsize]) (cells_one hh) hn1 hroom (by rw [hsize]; simp; omega)
      rw [hr] at h1
      obtain ⟨rfl, _⟩ := Result.ok.inj h1
      simp only [Value.ownBlock, Option.some.injEq] at hk
      subst hk
      exact .inl rfl
    · have hr := run_append_grow (P := Try.prog) w 48 ty 3 i (.int .i64 0) Try.underlying48 hi hz ⟨g, 0, none⟩ l.length cap (l.map (Value.int .i64)) (by simp [hsize]) (World.ownsRow.cells hO (g := g) rfl) ⟨h, 0, none⟩ 1 1 [.int .i64 x] (by simp [hsize]) (cells_one hh) (by omega) (by omega) (growslice_fits (by omega) (by rw [hby]; omega))
      rw [hr] at h1
      obtain ⟨rfl, _⟩ := Result.ok.inj h1
      simp only [Value.ownBlock, Option.some.injEq] at hk
      subst hk
      exact .inr (Nat.le_refl _)
section
variable {w : World} {ops : Array Oper} {rest : List Oper} {o : Oper} {a : Act} {Q : Exit → Act → World → Prop} {B h : Nat} {v : Value}
theorem snoc_int {l : List Int} {x : Int} (s y : Operand) (hgd : o.guard = none) (ho : o.op = .call { callee := .builtin .append, args := #[s, y], argTypes := #[48, 48] }) (hO : ArgsO B w v l) (hh : w.heap[h]? = some (Obj.cells #[.int .i64 x] 3 (0, 0))) (hs : a.eval s = v) (hy : a.eval y = .slice (some ⟨h, 0, none⟩) 1 1) (hl : l.length ≤ 1000000) (hB : B ≤ w.heap.size)
    (hK : ∀ v' w', ArgsO B w' v' (l ++ [x]) → w.grownBy w' v.ownBlock → (∀ k, v'.ownBlock = some k → v.ownBlock = some k ∨ w.heap.size ≤ k) → wpList Try.prog ops Q rest (a.put o.dst v') w') : wpList Try.prog ops Q (o :: rest) a w := by
  refine wpList_plain hgd fun _ hK' => ?_
  obtain ⟨v', w', h1, h2, h3, h4⟩ := run_snoc w o.type B h v l x hO hh hl hB
  unfold Oper.wp execOp
  simp only [ho, resolve, invoke, builtin, Sem.run_bind, Sem.run_pure, Result.andThen_ok, List.map_toArray, List.map_cons, List.map_nil, hs, hy, h1]
  exact hK' _ _ (hK v' w' h2 h3 h4)
end

/-- What has turned: the blocks F, the row's block r, what is new; the row lies in v' then. -/
structure Dwn (F : Nat → Prop) (w : World) (v v' : Value) (w' : World) : Prop where
  os : w'.os = w.os
  tape : w'.tape = w.tape
  output : w'.output = w.output
  size : w.heap.size ≤ w'.heap.size
  block : ∀ k, k < w.heap.size → ¬ F k → v.ownBlock ≠ some k → w'.heap[k]? = w.heap[k]?
  own : ∀ k, v'.ownBlock = some k → v.ownBlock = some k ∨ w.heap.size ≤ k
theorem Dwn.refl (F : Nat → Prop) (w : World) (v : Value) : Dwn F w v v w := ⟨rfl, rfl, rfl, Nat.le_refl _, fun _ _ _ _ => rfl, fun _ h => .inl h⟩
theorem Dwn.trans {F : Nat → Prop} {w w1 w2 : World} {v v1 v2 : Value} (h : Dwn F w v v1 w1) (k : Dwn F w1 v1 v2 w2) : Dwn F w v v2 w2 := by
  refine ⟨k.os.trans h.os, k.tape.trans h.tape, k.output.trans h.output, Nat.le_trans h.size k.size, fun g hg hF hr => ?_, fun g hg => ?_⟩
  · refine (k.block g (Nat.lt_of_lt_of_le hg h.size) hF fun e => ?_).trans (h.block g hg hF hr)
    rcases h.own g e with q | q
    · exact hr q
    · omega
  · rcases k.own g hg with q | q
    · exact h.own g q
    · exact .inr (Nat.le_trans h.size q)
theorem Dwn.of_below {F : Nat → Prop} {w w1 : World} {v : Value} (h : Below w.heap.size w w1) : Dwn F w v v w1 := ⟨h.os, h.tape, h.output, h.size, fun k hk _ _ => h.block k hk, fun _ e => .inl e⟩
theorem Dwn.of_set {F : Nat → Prop} {w w1 : World} {v : Value} {s : Nat} (h : w.grownBy w1 (some s)) (hs : F s) : Dwn F w v v w1 :=
  ⟨h.os, h.tape, h.output, h.size, fun k hk hF _ => h.block k hk (fun e => by cases e; exact hF hs), fun _ e => .inl e⟩
theorem Dwn.of_snoc {F : Nat → Prop} {w w1 : World} {v v1 : Value} (h : w.grownBy w1 v.ownBlock) (ho : ∀ k, v1.ownBlock = some k → v.ownBlock = some k ∨ w.heap.size ≤ k) : Dwn F w v v1 w1 :=
  ⟨h.os, h.tape, h.output, h.size, fun k hk _ hr => h.block k hk (fun e => hr e.symm), ho⟩
/-- Nothing below B has turned. -/
theorem Dwn.below {F : Nat → Prop} {w0 w w' : World} {v v' : Value} (h : Dwn F w v v' w') (h0 : Below w0.heap.size w0 w) (hF : ∀ k, F k → w0.heap.size ≤ k) (hv : ∀ k, v.ownBlock = some k → w0.heap.size ≤ k) : Below w0.heap.size w0 w' :=
  ⟨h.os.trans h0.os, h.tape.trans h0.tape, h.output.trans h0.output, Nat.le_trans h0.size h.size, fun k hk => (h.block k (Nat.lt_of_lt_of_le hk h0.size) (fun e => by have := hF k e; omega) (fun e => by have := hv k e; omega)).trans (h0.block k hk)⟩
/-- Another row stays. -/
theorem Dwn.row {F : Nat → Prop} {w w' : World} {v v' u : Value} {B : Nat} {xs : List Int} (h : Dwn F w v v' w') (hu : ArgsO B w u xs) (hF : ∀ k, F k → u.ownBlock ≠ some k) (hv : ∀ k, v.ownBlock = some k → u.ownBlock ≠ some k) : ArgsO B w' u xs :=
  hu.stays fun k hk => h.block k (hu.lt k hk).2 (fun e => hF k e hk) (fun e => hv k e hk)
end Go.Proofs.Ytblcbccchlljhaa
