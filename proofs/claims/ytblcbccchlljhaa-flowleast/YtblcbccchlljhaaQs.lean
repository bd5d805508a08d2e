/- Numbers as keys of maps. -/
import Derived.Test.YtblcbccchlljhaaMem
import Derived.StringKeys
import Derived.Maps.OwnOps
import Derived.Maps.OwnSet
import Derived.Test.YtblcbccchlljhaaOf
import Derived.Tactics
import Derived.Tactics2
import Derived.Defers
import Derived.Recover
import Derived.Laws.Pointers
import Derived.Test.YtblcbccchlljhaaWy
namespace Go.Proofs.Ytblcbccchlljhaa
open Go.RowKit Ir Go.Maps Go.WideMaps

abbrev DT := DataW Unit
def lk (k : Nat) : Lit := .int .i64 (k : Int)
theorem lk_inj {a b : Nat} (h : lk a = lk b) : a = b := by
  unfold lk at h
  simp only [Lit.int.injEq, true_and] at h
  omega
theorem key3 : Keyed Try.prog 3 := int_keyed Try.underlying3
theorem zero4 (W : World) : (zeroValue 4).run Try.prog W = .ok (.bool false) W := by kernel_rfl
theorem lk_key {k : Nat} (hk : k < 4096) : keyOf Try.prog 3 (.int .i64 (k : Int)) = some (lk k) := by
  unfold lk
  refine keyOf_int_mk Try.underlying3 ?_
  simp [Lit.wf, IntKind.min, IntKind.max, IntKind.signed, IntKind.bits]
  omega
end Go.Proofs.Ytblcbccchlljhaa
namespace Go.Proofs.Ytblcbccchlljhaa.Bg
open Go.RowKit Bag Go.Maps Go.WideMaps Go
/-- All but the blocks of S is as it was; no block has gone. -/
structure Chg (S : Nat → Prop) (w w' : World) : Prop where
  os : w'.os = w.os
  tape : w'.tape = w.tape
  output : w'.output = w.output
  size : w.heap.size ≤ w'.heap.size
  block : ∀ k, k < w.heap.size → ¬ S k → w'.heap[k]? = w.heap[k]?
theorem Chg.refl (S : Nat → Prop) (w : World) : Chg S w w := ⟨rfl, rfl, rfl, Nat.le_refl _, fun _ _ _ => rfl⟩
theorem Chg.of_gb {w w' : World} {r : Option Nat} (h : w.grownBy w' r) : Chg (fun k => some k = r) w w' := ⟨h.os, h.tape, h.output, h.size, fun k hk hn => h.block k hk hn⟩
theorem Chg.mono {S T : Nat → Prop} {w w' : World} (h : Chg S w w') (e : ∀ k, k < w.heap.size → S k → T k) : Chg T w w' := ⟨h.os, h.tape, h.output, h.size, fun k hk hn => h.block k hk fun hs => hn (e k hk hs)⟩
theorem Chg.trans {S T : Nat → Prop} {a b c : World} (h : Chg S a b) (k : Chg T b c) (e : ∀ j, j < a.heap.size → T j → S j) : Chg S a c :=
  ⟨k.os.trans h.os, k.tape.trans h.tape, k.output.trans h.output, Nat.le_trans h.size k.size, fun j hj hn => (k.block j (Nat.lt_of_lt_of_le hj h.size) fun ht => hn (e j hj ht)).trans (h.block j hj hn)⟩
theorem Chg.gb {w w' : World} {S : Nat → Prop} (h : Chg S w w') (b : Nat) (hb : b < w.heap.size) (hn : ¬ S b) : w'.heap[b]? = w.heap[b]? := h.block b hb hn
theorem Chg.below {w w' : World} {S : Nat → Prop} {B : Nat} (h : Chg S w w') (hB : B ≤ w.heap.size) (hn : ∀ k, S k → B ≤ k) : Below B w w' :=
  ⟨h.os, h.tape, h.output, h.size, fun k hk => h.block k (by omega) fun hs => by have := hn k hs; omega⟩
/-- Seen from one block alone. -/
theorem Chg.one {w w' : World} {S : Nat → Prop} (h : Chg S w w') (b : Nat) (hb : b < w.heap.size) (hn : ¬ S b) : ∃ w1 : World, w1.heap[b]? = w.heap[b]? ∧ w'.heap[b]? = w1.heap[b]? := ⟨w', h.block b hb hn, rfl⟩

theorem zero3 (W : World) : (zeroValue 3).run Try.prog W = .ok (.int .i64 0) W := by kernel_rfl
theorem run_eql_map_nil {P : Program} (w : World) {t k e : TypeId} (mo : Option Nat) (ht : P.underlying t = some (.map k e)) : (binOp .eql t (.map mo) (.map none)).run P w = .ok (.bool mo.isNone) w := by
  have h : ∀ d : Nat, (Op.equalIn (d + 1) t (.map mo) (.map none)).run P w = .ok mo.isNone w := fun d => by
    cases mo <;> simp [Op.equalIn, run_underlying ht]
  simp only [binOp]
  simp [Op.equal, Op.maxDepth, h 9999]
theorem chg_turned {w w' : World} {m : Nat} (h : w.mapTurned w' m) : Chg (fun k => k = m) w w' := (Chg.of_gb h.grown).mono fun k _ e => by simpa using e
/-- v is a row of n elements, of sz cells each, these cells xs, anywhere in a block; there is nothing else in that block that counts. -/
def RowW (w : World) (e : TypeId) (sz : Nat) (v : Value) (n : Nat) (xs : List Value) : Prop :=
  xs.length = n * sz ∧ ((v = .slice none 0 0 ∧ n = 0) ∨ ∃ g off cap cur, v = .slice (some ⟨g, off, none⟩) n cap ∧ w.heap[g]? = some (.cells cur e (0, 0)) ∧ n ≤ cap ∧ cap ≤ maxLen ∧ off + cap * sz ≤ cur.size ∧ (cur.toList.drop off).take (n * sz) = xs)
section
variable {w w' : World} {e : TypeId} {sz : Nat} {v : Value} {n : Nat} {xs : List Value}
theorem RowW.nil (w : World) (e : TypeId) (sz : Nat) : RowW w e sz (.slice none 0 0) 0 [] := ⟨by simp, .inl ⟨rfl, rfl⟩⟩
theorem RowW.lt (h : RowW w e sz v n xs) : ∀ k, v.ownBlock = some k → k < w.heap.size := by
  intro k hk
  rcases h.2 with ⟨rfl, _⟩ | ⟨g, off, cap, cur, rfl, hg, _⟩
  · simp [Value.ownBlock] at hk
  · simp [Value.ownBlock] at hk
    subst hk
    exact (Array.getElem?_eq_some_iff.1 hg).1
theorem RowW.slice (h : RowW w e sz v n xs) : ∃ ao cap, v = .slice ao n cap := by
  rcases h.2 with ⟨rfl, rfl⟩ | ⟨g, off, cap, cur, rfl, _⟩
  · exact ⟨_, _, rfl⟩
  · exact ⟨_, _, rfl⟩
theorem RowW.chg {S : Nat → Prop} (h : RowW w e sz v n xs) (k : Chg S w w') (hn : ∀ g, v.ownBlock = some g → ¬ S g) : RowW w' e sz v n xs := by
  refine ⟨h.1, ?_⟩
  rcases h.2 with hh | ⟨g, off, cap, cur, rfl, hg, rest⟩
  · exact .inl hh
  · exact .inr ⟨g, off, cap, cur, rfl, (k.block g (Array.getElem?_eq_some_iff.1 hg).1 (hn g rfl)).trans hg, rest⟩
theorem RowW.cell (h : RowW w e sz v n xs) (j : Nat) (hj : j < n) : ∃ g off cap, v = .slice (some ⟨g, off, none⟩) n cap ∧ ∀ i, i < sz → w.cell? ⟨g, off + j * sz + i, none⟩ = xs[j * sz + i]? ∧ w.frozen? ⟨g, off + j * sz + i, none⟩ = false := by
  rcases h.2 with ⟨rfl, h0⟩ | ⟨g, off, cap, cur, rfl, hg, hnc, hcm, hcs, ht⟩
  · omega
  · refine ⟨g, off, cap, rfl, fun i hi => ⟨?_, by simp [World.frozen?, hg]⟩⟩
    rw [cell_of_row w g _ cur e _ hg, ← ht, List.getElem?_take, if_pos (by
      have : (j + 1) * sz ≤ n * sz := Nat.mul_le_mul_right _ (by omega)
      rw [Nat.add_mul] at this
      omega), List.getElem?_drop]
    simp [Nat.add_assoc]
end
section
variable {P : Program} (w : World)
theorem run_append_room' (t ty e : TypeId) (i : TypeInfo) (ht : P.underlying t = some (.slice e)) (hi : P.info? e = some i)
    (g off sLen sCap : Nat) (cur : Array Value) (hg : w.heap[g]? = some (.cells cur e (0, 0)))
    (a : Addr) (m c : Nat) (news : List Value) (hl : news.length = m * i.size) (hnews : ∀ j u, news[j]? = some u → w.cell? (a.add j) = some u) (h1 : ∀ u ∈ news, u.oneCell' = true)
    (hroom : sLen + m ≤ sCap) (hfit : off + sLen * i.size + news.length ≤ cur.size) :
    (Builtin.append_ #[t, t] ty #[.slice (some ⟨g, off, none⟩) sLen sCap, .slice (some a) m c]).run P w =
      .ok (.slice (some ⟨g, off, none⟩) (sLen + m) sCap) (w.setRow g (cur.toList.take (off + sLen * i.size) ++ news ++ cur.toList.drop (off + sLen * i.size + news.length)).toArray) := by
  have hf := run_firstCells_some (P := P) w i.size m a m c news hl hnews
  have hst := run_storeCells_at P g (off + sLen * i.size) e news 0 cur w hg (by simpa using hfit) h1
  simp only [Nat.add_zero] at hst
  simp [Builtin.append_, run_underlying ht, sizeOf, typeInfo, hi, Builtin.lenOf, hroom, hf, Addr.add_lit, hst]
theorem run_append_row (t ty e : TypeId) (i : TypeInfo) (z : Value) (size bytes : Nat) (ht : P.underlying t = some (.slice e)) (hi : P.info? e = some i) (hz : i.zero = some z)
    (hsize : i.size = size) (hby : i.bytes = bytes) (hzs : z.cells.size = size) (hsz : 0 < size)
    (v : Value) (n : Nat) (xs : List Value) (hown : RowW w e size v n xs)
    (a : Addr) (m c : Nat) (hm : 0 < m) (news : List Value) (hl : news.length = m * size) (hnews : ∀ j u, news[j]? = some u → w.cell? (a.add j) = some u) (h1 : ∀ u ∈ news, u.oneCell' = true)
    (h63 : n + m ≤ maxLen) (hbytes : (n + m) * bytes ≤ 140737488355328) :
    ∃ v' w', (Builtin.append_ #[t, t] ty #[v, .slice (some a) m c]).run P w = .ok v' w' ∧ RowW w' e size v' (n + m) (xs ++ news) ∧ w.grownBy w' v.ownBlock ∧ (v'.ownBlock = v.ownBlock ∨ v'.ownBlock = some w.heap.size) := by
  subst hsize
  subst hby
  have hsmall : n + m ≤ 9223372036854775807 := by simp only [maxLen] at h63; omega
  have hlen : (xs ++ news).length = (n + m) * i.size := by rw [List.length_append, hown.1, hl, Nat.add_mul]
  have grown : ∀ (old : Nat), old < n + m → ∀ (row : Option Nat),
      RowW (w.drew.alloc (.cells (xs.toArray ++ news.toArray ++ Builtin.zeroCells z.cells (grownCap w (n + m) old e - (n + m))) e)) e i.size
        (.slice (some ⟨w.heap.size, 0, none⟩) (n + m) (grownCap w (n + m) old e)) (n + m) (xs ++ news) ∧
      w.grownBy (w.drew.alloc (.cells (xs.toArray ++ news.toArray ++ Builtin.zeroCells z.cells (grownCap w (n + m) old e - (n + m))) e)) row := by
    intro old ho row
    have hge := grownCap_ge w (n + m) old e
    have hcm : grownCap w (n + m) old e ≤ maxLen := grownCap_le_maxLen w (n + m) old e h63
    refine ⟨⟨hlen, .inr ⟨w.heap.size, 0, _, _, rfl, heap_alloc_new w.drew _, hge, hcm, ?_, ?_⟩⟩, ⟨rfl, rfl, rfl, by simp, fun k hk _ => heap_alloc_old w.drew _ hk⟩⟩
    · simp only [Array.size_append, List.size_toArray, size_zeroCells, hzs, hown.1, hl, ← Nat.add_mul]
      rw [Nat.zero_add]
      refine Nat.le_of_eq ?_
      congr 1
      omega
    · simp only [Array.toList_append, List.append_assoc, List.drop_zero]
      rw [← List.append_assoc, ← hlen]
      exact List.take_left
  rcases hown.2 with ⟨rfl, rfl⟩ | ⟨g, off, cap, cur, rfl, hg, hnc, hcm, hcs, htake⟩
  · have hx : xs = [] := List.eq_nil_of_length_eq_zero (by simpa using hown.1)
    subst hx
    have hr := run_append_nil (P := P) w t ty e i z ht hi hz a m c news hl hnews (by omega) (by omega) (by have hb := hbytes; simp only [Nat.zero_add] at hb; omega)
    have hgr := grown 0 (by omega) (Value.ownBlock (.slice none 0 0))
    simp only [Nat.zero_add, List.nil_append, Array.empty_append] at hgr ⊢
    exact ⟨_, _, hr, hgr.1, hgr.2, .inr rfl⟩
  · by_cases hroom : n + m ≤ cap
    · have hfit : off + n * i.size + news.length ≤ cur.size := by
        have : (n + m) * i.size ≤ cap * i.size := Nat.mul_le_mul_right _ hroom
        rw [Nat.add_mul] at this
        omega
      have hr := run_append_room' (P := P) w t ty e i ht hi g off n cap cur hg a m c news hl hnews h1 hroom hfit
      refine ⟨_, _, hr, ⟨hlen, .inr ⟨g, off, cap, _, rfl, setRow_heap w g cur _ e _ hg, hroom, hcm, ?_, ?_⟩⟩, ⟨rfl, rfl, rfl, by simp, fun k _ hk => setRow_other w g k _ (fun e => hk (by simp [Value.ownBlock, e]))⟩, .inl rfl⟩
      · simp only [List.size_toArray, List.length_append, List.length_take, List.length_drop, Array.length_toList]
        omega
      · have hX := hown.1
        rw [← hlen]
        have e1 : (cur.toList.take (off + n * i.size)).drop off = xs := by
          rw [List.drop_take, show off + n * i.size - off = n * i.size by omega, htake]
        have e2 : (cur.toList.take (off + n * i.size) ++ news ++ cur.toList.drop (off + n * i.size + news.length)).drop off = xs ++ (news ++ cur.toList.drop (off + n * i.size + news.length)) := by
          rw [List.append_assoc, List.drop_append_of_le_length (by rw [List.length_take, Array.length_toList]; omega), e1]
        rw [e2, ← List.append_assoc]
        exact List.take_left
    · have holds : ∀ j u, xs[j]? = some u → w.cell? ((⟨g, off, none⟩ : Addr).add j) = some u := by
        intro j u hu
        rw [Addr.add_lit, cell_of_row w g _ cur e _ hg]
        have hj := (List.getElem?_eq_some_iff.1 hu).1
        rw [← htake, List.getElem?_take, if_pos (by rw [← hown.1]; exact hj), List.getElem?_drop] at hu
        simpa using hu
      have hr := run_append_grow (P := P) w t ty e i z ht hi hz ⟨g, off, none⟩ n cap xs hown.1 holds a m c news hl hnews (by omega) (by omega) (growslice_fits (by omega) hbytes)
      have hgr := grown cap (by omega) (Value.ownBlock (.slice (some ⟨g, off, none⟩) n cap))
      exact ⟨_, _, hr, hgr.1, hgr.2, .inr rfl⟩
theorem wpList_append_row {ops : Array Oper} {rest : List Oper} {o : Oper} {a : Act} {Q : Exit → Act → World → Prop} (hgd : o.guard = none) (s x : Operand) (t : TypeId)
    (ho : o.op = .call { callee := .builtin .append, args := #[s, x], argTypes := #[t, t] })
    (e : TypeId) (i : TypeInfo) (z : Value) (size bytes : Nat) (ht : P.underlying t = some (.slice e)) (hi : P.info? e = some i) (hz : i.zero = some z)
    (hsize : i.size = size) (hby : i.bytes = bytes) (hzs : z.cells.size = size) (hsz : 0 < size)
    (v : Value) (n : Nat) (xs : List Value) (hs : a.eval s = v) (hown : RowW w e size v n xs)
    (ad : Addr) (m c : Nat) (news : List Value) (hx : a.eval x = .slice (some ad) m c) (hm : 0 < m) (hl : news.length = m * size) (hnews : ∀ j u, news[j]? = some u → w.cell? (ad.add j) = some u) (h1 : ∀ u ∈ news, u.oneCell' = true)
    (h63 : n + m ≤ maxLen) (hbytes : (n + m) * bytes ≤ 140737488355328)
    (h : ∀ v' w', RowW w' e size v' (n + m) (xs ++ news) → w.grownBy w' v.ownBlock → (v'.ownBlock = v.ownBlock ∨ v'.ownBlock = some w.heap.size) → wpList P ops Q rest (a.put o.dst v') w') : wpList P ops Q (o :: rest) a w := by
  obtain ⟨v', w', hr, h2, h3, h4⟩ := run_append_row (P := P) w t o.type e i z size bytes ht hi hz hsize hby hzs hsz v n xs hown ad m c hm news hl hnews h1 h63 hbytes
  refine wpList_is hgd ?_ (h v' w' h2 h3 h4)
  unfold execOp
  simp only [ho, resolve, invoke, builtin, Sem.run_bind, Sem.run_pure, Result.andThen_ok, List.map_toArray, List.map_cons, List.map_nil, hs, hx, hr]
/-- The first element goes. -/
theorem RowW.tail {w : World} {e : TypeId} {sz : Nat} {g off n cap : Nat} {xs : List Value} (h : RowW w e sz (.slice (some ⟨g, off, none⟩) (n + 1) cap) (n + 1) xs) : RowW w e sz (.slice (if cap = 1 then some ⟨g, off, none⟩ else some ⟨g, off + sz, none⟩) n (cap - 1)) n (xs.drop sz) := by
  rcases h.2 with ⟨h0, _⟩ | ⟨g', off', cap', cur, e1, hg, hnc, hcm, hcs, ht⟩
  · cases h0
  · simp only [Value.slice.injEq, Option.some.injEq, Addr.mk.injEq, true_and, and_true] at e1
    obtain ⟨⟨rfl, rfl⟩, rfl⟩ := e1
    refine ⟨by rw [List.length_drop, h.1, Nat.add_mul]; omega, ?_⟩
    by_cases hc : cap = 1
    · subst hc
      obtain rfl : n = 0 := by omega
      refine .inr ⟨g, off, 0, cur, rfl, hg, by omega, by simp [maxLen], by omega, ?_⟩
      rw [Nat.zero_mul, List.take_zero]
      symm
      refine List.eq_nil_of_length_eq_zero ?_
      rw [List.length_drop, h.1]
      omega
    · rw [if_neg hc]
      have hcap : cap * sz = (cap - 1) * sz + sz := by
        obtain ⟨d, rfl⟩ : ∃ d, cap = d + 1 := ⟨cap - 1, by omega⟩
        rw [Nat.add_mul, Nat.one_mul, Nat.add_sub_cancel]
      refine .inr ⟨g, off + sz, cap - 1, cur, rfl, hg, by omega, by omega, by omega, ?_⟩
      rw [← ht, List.drop_take, Nat.add_mul, Nat.one_mul, Nat.add_sub_cancel, List.drop_drop]
end

end Go.Proofs.Ytblcbccchlljhaa.Bg
namespace Go.Proofs.Ytblcbccchlljhaa.Bg
open Go.RowKit Bag Go.Maps Go.WideMaps Go
/-- A number as a value. -/
abbrev nv (k : Nat) : Value := .int .i64 (k : Int)
theorem idle48 (p : Addr) (w : World) :
    CallsD Try.prog 48 #[.pointer (some p)] .returning w fun e u' w' => e = .returned (.tuple #[]) ∧ u' = .returning ∧ w' = w := by
  refine callsD_of_wpS Try.func48 rfl fun c₀ cs hu => ?_
  apply wpS_seq
  apply wpS_region
  simp [wpOpsS, go_sem, recoverD, hu, Try.ntmps48, Exit.thenS]
  refine wpS_cond (t := false) (by simp [Act.eval, Array.replicate]) ?_
  simp only [Bool.false_eq_true, if_false]
  refine wpS_of_wp (wp_skip ?_)
  cases c₀
  simp_all [bodyPostS, results, Try.results48]
theorem found49 (k : Nat) (w : World) : Calls Try.prog 49 #[nv k] w fun e w' => e = .returned (.bool true) ∧ w' = w := by
  go_enter Try.func49, Try.ntmps49
  go_wp2
  go_ret
  exact ⟨by simp, rfl⟩
/-- What a queue's map tells: just what is in the row. -/
structure QueD (N : Nat) (l : List Nat) (D : DT) : Prop where
  key : ∀ k, has D (lk k) = true ↔ k ∈ l
  map : IsMap D
  nodup : l.Nodup
/-- A queue in block b: its row, its map. -/
structure QueV (w : World) (b : Nat) (v : Value) (mo : Option Nat) (N : Nat) (l : List Nat) (D : DT) : Prop where
  cell : ∃ t, w.heap[b]? = some (.cells #[v, .map mo] t (0, 0))
  row : RowW w 3 1 v l.length (l.map nv)
  rne : v.ownBlock ≠ some b
  nil : mo = none → D = .map []
  own : ∀ m, mo = some m → m ≠ b ∧ v.ownBlock ≠ some m ∧ w.ownsMap Try.prog 3 unitElem m N D
  dat : QueD N l D
theorem zero94 (W : World) : (zeroValue 94).run Try.prog W = .ok (.agg #[]) W := by kernel_rfl
section
variable {P : Program} {ops : Array Oper} {rest : List Oper} {o : Oper} {a : Act} {w : World} {Q : Exit → Act → World → Prop}
/-- A new block of whatever zero value, its pointer in temporary d. -/
theorem wpList_newv (d : Tmp) (hd : o.dst = some d) (hgd : o.guard = none) (t : TypeId) (ho : o.op = .alloc t) (z : Value) (hz : ∀ W, (zeroValue t).run P W = .ok z W) (hK : ∀ (g : Nat) (w' : World), Hid (g = w.heap.size ∧ w'.heap[g]? = some (Obj.cells z.cells t (0, 0)) ∧ Below g w w') → wpList P ops Q rest (a.put (some d) (.pointer (some ⟨g, 0, none⟩))) w') : wpList P ops Q (o :: rest) a w := by
  have hK' := hK _ _ ⟨rfl, heap_alloc_new w _, bel1' w (.cells z.cells t)⟩
  rw [← hd] at hK'
  refine wpList_is hgd ?_ hK'
  unfold execOp
  simp only [ho, Instr.alloc, Sem.run_bind, hz, Result.andThen_ok]
  rfl
end
theorem at0 {w : World} {g : Nat} {v : Value} {t : TypeId} (h : w.heap[g]? = some (.cells #[v] t (0, 0))) : w.cell? ⟨g, 0, none⟩ = some v ∧ w.frozen? ⟨g, 0, none⟩ = false :=
  ⟨(cell_of_row w g 0 _ _ _ h).trans rfl, by simp [World.frozen?, h]⟩
theorem fz {w : World} {g : Nat} {cs : Array Value} {t : TypeId} (h : w.heap[g]? = some (.cells cs t (0, 0))) (i : Nat) : w.frozen? ⟨g, i, none⟩ = false := by simp [World.frozen?, h]
theorem cellw {w w' : World} {b i : Nat} {v : Value} (hB : w.grownBy w' none) (h : w.cell? ⟨b, i, none⟩ = some v) : w'.cell? ⟨b, i, none⟩ = some v := hB.cell h (by simp)
set_option maxHeartbeats 4000000 in
set_option maxRecDepth 100000 in
theorem qput_old (b m N : Nat) (v : Value) (l : List Nat) (D : DT) (k : Nat) (w : World) (h : QueV w b v (some m) N l D) (hk : k < 4096) (hin : k ∈ l) :
    Calls Try.prog 41 #[.pointer (some ⟨b, 0, none⟩), nv k] w fun e w' => e = .returned (.bool false) ∧ w.grownBy w' none := by
  obtain ⟨t, ht⟩ := h.cell
  have c1 : Hid (w.cell? ⟨b, 1, none⟩ = some (.map (some m))) := hide ((cell_of_row w b 1 _ _ _ ht).trans rfl)
  have hhas : has D (lk k) = true := (h.dat.key k).2 hin
  have HO := hide (h.own m rfl).2.2
  have HK := hide (lk_key hk)
  have hmf : ∀ (fn : Fn) (first cap : Array Value) (w : World), (Instr.makeFunc fn first cap).run Try.prog w = .ok (.func fn first cap) w := fun _ _ _ _ => rfl
  clear h ht
  go_enter_defers Try.func41, Try.ntmps41
  go_wp2_with (first | (refine wpList_newv 4 rfl rfl 4 rfl (.bool false) zero4 ?_; intro g1 w1 h1; have c1' := cellw (gb_at h1.out) c1.out) | (go_at_call 49; refine (found49 k _).mono ?_; rintro e w2 ⟨rfl, hw1⟩; subst hw1) | (at_lookup; refine wpList_lookup_own_unit _ rfl _ _ 83 rfl 3 94 key3 Try.underlying83 (zero94 _) m N D rfl (World.ownsMap.kept HO.out (gb_at h1.out) (by simp)) _ _ rfl HK.out ?_; rw [hhas]) | (refine wpList_newv 5 rfl rfl 94 rfl (.agg #[]) zero94 ?_; intro g2 w3 h3; obtain ⟨d0, d1⟩ := at0 (cells_at h1.out.2.1 (gb_at h3.out) (by simp))))
  refine leaves_cons (f := 48) (args := #[.pointer (some ⟨g1, 0, none⟩)]) (by simp) (by simp [go_sem]) ?_
  refine (idle48 ⟨g1, 0, none⟩ _).mono ?_
  rintro e u' w'' ⟨rfl, rfl, rfl⟩
  simp [Leaves, settle, results, Try.results41, go_sem, d0]
  exact ((gb_at h1.out).trans (gb_at h3.out)).andThen (gb_set _ _ _ _) (fun j e => by cases e; exact .inl (by rw [h1.out.1]; exact Nat.le_refl _))
theorem info3q : (Try.prog.info? 3).map (fun i => (i.zero, i.size, i.bytes)) = some (some (.int .i64 0), 1, 8) := by kernel_rfl
theorem QueD.put {N : Nat} {l : List Nat} {D : DT} (h : QueD N l D) {k : Nat} (hn : ¬ k ∈ l) (M : Nat) : QueD M (l ++ [k]) (D.put (lk k) (.agg [])) := by
  refine ⟨fun j => ?_, h.map.put _ _, List.nodup_append.2 ⟨h.nodup, by simp, fun a ha b hb e => hn (by simp at hb; rw [← hb, ← e]; exact ha)⟩⟩
  by_cases e : j = k
  · subst e
    simp [has_put_same h.map (by trivial : WideAt.IsKeyLit (lk j))]
  · have hne : lk j ≠ lk k := fun he => e (lk_inj he)
    rw [has_put_other hne, h.key j]
    simp [e]
theorem Chg.gb0 {S : Nat → Prop} {a b : World} (h : a.grownBy b none) : Chg S a b := (Chg.of_gb h).mono fun _ _ e => by simp at e
theorem Chg.then {S : Nat → Prop} {a b c : World} {r : Option Nat} (h : Chg S a b) (k : b.grownBy c r) (e : ∀ j, j < a.heap.size → some j = r → S j) : Chg S a c := h.trans (Chg.of_gb k) e
theorem map_chg {R : Value → Option (DT × List MemPlace)} {K : TypeId} {w w' : World} {m N : Nat} {D : DT} {S : Nat → Prop} (h : w.ownsMap Try.prog K R m N D) (k : Chg S w w') (hn : ¬ S m) : w'.ownsMap Try.prog K R m N D := by
  have hl := World.ownsMap.lt h
  obtain ⟨es, clock, h1, h2⟩ := h
  exact ⟨es, clock, (k.block m hl hn).trans h1, h2⟩
/-- What is behind the two stores of a Put. -/
theorem que_done {w w5 : World} {b g1 m M : Nat} {v v' : Value} {t : TypeId} {l : List Nat} {D : DT} {S : Nat → Prop} (hb : b < w.heap.size) (hg1 : g1 = w.heap.size) (h5b : w5.heap[b]? = some (.cells #[v, .map (some m)] t (0, 0)))
    (hr : RowW w5 3 1 v' l.length (l.map nv)) (hvb : v'.ownBlock ≠ some b) (hvg : v'.ownBlock ≠ some g1) (hvm : v'.ownBlock ≠ some m) (hmb : m ≠ b) (hmg : m ≠ g1) (hown : w5.ownsMap Try.prog 3 unitElem m M D) (hd : QueD M l D) (hc : Chg S w w5) (hS : S b) :
    QueV ((w5.setCell ⟨b, 0, none⟩ v').setCell ⟨g1, 0, none⟩ (.bool true)) b v' (some m) M l D ∧ Chg S w ((w5.setCell ⟨b, 0, none⟩ v').setCell ⟨g1, 0, none⟩ (.bool true)) := by
  have hne : b ≠ g1 := by omega
  have k1 : Chg (fun j => j = b) w5 (w5.setCell ⟨b, 0, none⟩ v') := (Chg.of_gb (gb_set w5 b 0 v')).mono fun _ _ e => by simpa using e
  have k2 : Chg (fun j => j = g1) (w5.setCell ⟨b, 0, none⟩ v') ((w5.setCell ⟨b, 0, none⟩ v').setCell ⟨g1, 0, none⟩ (.bool true)) := (Chg.of_gb (gb_set _ g1 0 _)).mono fun _ _ e => by simpa using e
  have k3 : Chg (fun j => j = b ∨ j = g1) w5 ((w5.setCell ⟨b, 0, none⟩ v').setCell ⟨g1, 0, none⟩ (.bool true)) := (k1.mono fun _ _ e => .inl e).trans k2 fun _ _ e => .inr e
  have hown' := map_chg hown k3 (by simp [hmb, hmg])
  refine ⟨⟨⟨t, ?_⟩, ?_, hvb, fun e => by simp at e, fun m' e => by cases e; exact ⟨hmb, hvm, hown'⟩, hd⟩, hc.trans k3 fun j hj e => ?_⟩
  · rw [Below.heap_setCell _ _ _ _ hne]
    simp [World.setCell, Array.getElem?_modify, h5b]
  · exact hr.chg k3 fun g e1 e2 => by rcases e2 with e2 | e2 <;> (rw [e2] at e1; first | exact hvb e1 | exact hvg e1)
  · rcases e with e | e
    · rw [e]; exact hS
    · omega
set_option maxHeartbeats 4000000 in
set_option maxRecDepth 100000 in
theorem qput_some (b m N : Nat) (v : Value) (l : List Nat) (D : DT) (k : Nat) (w : World) (h : QueV w b v (some m) N l D) (hk : k < 4096) (hin : ¬ k ∈ l) (hN : N < maxLen) (hl : l.length ≤ 1000000) :
    Calls Try.prog 41 #[.pointer (some ⟨b, 0, none⟩), nv k] w fun e w' => e = .returned (.bool true) ∧ ∃ v', (v'.ownBlock = v.ownBlock ∨ ∃ g, v'.ownBlock = some g ∧ w.heap.size ≤ g) ∧ QueV w' b v' (some m) (N + 1) (l ++ [k]) (D.put (lk k) (.agg [])) ∧ Chg (fun j => j = b ∨ j = m ∨ v.ownBlock = some j) w w' := by
  obtain ⟨i0, hi, hz0, hz1, hz2⟩ := info_parts info3q
  obtain ⟨t, ht⟩ := h.cell
  have c0 : Hid (w.cell? ⟨b, 0, none⟩ = some v) := hide ((cell_of_row w b 0 _ _ _ ht).trans rfl)
  have c1 : Hid (w.cell? ⟨b, 1, none⟩ = some (.map (some m))) := hide ((cell_of_row w b 1 _ _ _ ht).trans rfl)
  have hhas : has D (lk k) = false := by cases e : has D (lk k); rfl; exact absurd ((h.dat.key k).1 e) hin
  have HO := hide (h.own m rfl).2.2
  have HR := hide h.row
  have HK := hide (lk_key hk)
  have HH := hide h
  have HT := hide ht
  have hmb := (h.own m rfl).1
  have hvm := (h.own m rfl).2.1
  have HMB := hide hmb
  have HVM := hide hvm
  have HVB := hide h.rne
  have hmf : ∀ (fn : Fn) (first cap : Array Value) (w : World), (Instr.makeFunc fn first cap).run Try.prog w = .ok (.func fn first cap) w := fun _ _ _ _ => rfl
  have hnil := fun W => run_eql_map_nil (P := Try.prog) W (some m) Try.underlying83
  clear h ht hmb hvm
  go_enter_defers Try.func41, Try.ntmps41
  go_wp2_with (first | (refine wpList_newv 4 rfl rfl 4 rfl (.bool false) zero4 ?_; intro g1 w1 h1; have c1' := cellw (gb_at h1.out) c1.out) | (go_at_call 49; refine (found49 k _).mono ?_; rintro e w2 ⟨rfl, hw1⟩; subst hw1) | (at_lookup; refine wpList_lookup_own_unit _ rfl _ _ 83 rfl 3 94 key3 Try.underlying83 (zero94 _) m N D rfl (World.ownsMap.kept HO.out (gb_at h1.out) (by simp)) _ _ rfl HK.out ?_; rw [hhas]) | (refine wpList_newv 5 rfl rfl 94 rfl (.agg #[]) zero94 ?_; intro g2 w3 h3; have c1'' := cellw (gb_at h3.out) c1') | (at_mapUpdate; refine wpList_mapUpdate_own _ rfl _ _ _ 83 rfl 3 94 key3 Try.underlying83 (unitElem (H := Unit)) m N D rfl (World.ownsMap.kept HO.out ((gb_at h1.out).trans (gb_at h3.out)) (by simp)) hN _ _ _ rfl rfl HK.out _ [] unitElem_mk ?_; intro w4 hown4 hgrow4; have hB4 := cells_at (cells_at HT.out ((gb_at h1.out).trans (gb_at h3.out)) (by simp)) hgrow4 (by have := HMB.out; simp; omega); have e0 : w4.cell? ⟨b, 0, none⟩ = some v := (cell_of_row w4 b 0 _ _ _ hB4).trans rfl) | (at_builtin; go_must (refine wpList_append_row _ rfl (.tmp 39) (.tmp 41) 48 rfl 3 i0 (.int .i64 0) 1 8 Try.underlying48 hi hz0 hz1 hz2 rfl (by decide) v l.length (l.map nv) rfl (((HR.out.chg (Chg.of_gb ((gb_at h1.out).trans (gb_at h3.out))) (fun _ _ e => by simp at e)).chg (Chg.of_gb hgrow4) (fun g e1 e2 => HVM.out (by rw [e1, e2]))).chg (Chg.of_gb (World.grownBy_alloc _ _ none)) (fun _ _ e => by simp at e)) ⟨w4.heap.size, 0, none⟩ 1 1 [nv k] rfl (by decide) rfl ?c1 ?c2 ?c3 ?c4 ?_)))
  case c1 =>
    intro j u hj
    match j, hj with
    | 0, hj => simp at hj; subst hj; simp [Addr.add]
  case c2 => intro u hu; simp at hu; subst hu; rfl
  case c3 => unfold maxLen; omega
  case c4 => omega
  intro v' w5 hr5 hg5 hloc
  obtain ⟨ao, cap, rfl⟩ := hr5.slice
  have hbw : b < w.heap.size := (Array.getElem?_eq_some_iff.1 HT.out).1
  have G3 := (gb_at h1.out).trans (gb_at h3.out)
  have hmw : m < w.heap.size := World.ownsMap.lt HO.out
  have hg1w := h1.out.1
  have hg14 : g1 < w4.heap.size := by
    have := (Array.getElem?_eq_some_iff.1 h1.out.2.1).1
    have := h3.out.2.2.size
    have := hgrow4.size
    omega
  have hw4 : w.heap.size ≤ w4.heap.size := Nat.le_trans G3.size hgrow4.size
  have hv0 : ∀ g, v.ownBlock = some g → g < w.heap.size := fun g e => HR.out.lt g e
  have h5b : w5.heap[b]? = some (.cells #[v, .map (some m)] t (0, 0)) := cells_at (cells_at hB4 (World.grownBy_alloc w4 (.cells #[nv k] 3) none) (by simp)) hg5 (fun e => HVB.out e.symm)
  have h5g : w5.heap[g1]? = some (.cells #[.bool false] 4 (0, 0)) := cells_at (cells_at (cells_at (cells_at h1.out.2.1 (gb_at h3.out) (by simp)) hgrow4 (by simp; omega)) (World.grownBy_alloc w4 (.cells #[nv k] 3) none) (by simp)) hg5 (fun e => by have := hv0 g1 e.symm; omega)
  have hvb : (Value.slice ao (l.length + 1) cap).ownBlock ≠ some b := fun e => by
    rcases hloc with q | q
    · rw [q] at e; exact HVB.out e
    · rw [q] at e; simp at e; omega
  have hvg : (Value.slice ao (l.length + 1) cap).ownBlock ≠ some g1 := fun e => by
    rcases hloc with q | q
    · rw [q] at e; have := hv0 g1 e; omega
    · rw [q] at e; simp at e; omega
  have hvm : (Value.slice ao (l.length + 1) cap).ownBlock ≠ some m := fun e => by
    rcases hloc with q | q
    · rw [q] at e; exact HVM.out e
    · rw [q] at e; simp at e; omega
  have hown5 : w5.ownsMap Try.prog 3 unitElem m (N + 1) (D.put (lk k) (.agg [])) := (World.ownsMap.kept (World.ownsMap.kept hown4 (World.grownBy_alloc w4 (.cells #[nv k] 3) none) (by simp)) hg5 (fun e => HVM.out e.symm))
  have hc5 : Chg (fun j => j = b ∨ j = m ∨ v.ownBlock = some j) w w5 :=
    (((Chg.gb0 G3).then hgrow4 fun j _ e => .inr (.inl (by simpa using e))).then (World.grownBy_alloc w4 (.cells #[nv k] 3) none) fun j _ e => by simp at e).then hg5 fun j _ e => .inr (.inr e.symm)
  have hd : QueD (N + 1) (l ++ [k]) (D.put (lk k) (.agg [])) := HH.out.dat.put hin (N + 1)
  have hr5' : RowW w5 3 1 (.slice ao (l.length + 1) cap) (l ++ [k]).length ((l ++ [k]).map nv) := by simpa using hr5
  obtain ⟨hq, hcq⟩ := que_done hbw hg1w h5b hr5' hvb hvg hvm HMB.out (by omega) hown5 hd hc5 (.inl rfl)
  have p0 : w5.cell? ⟨b, 0, none⟩ = some v := (cell_of_row w5 b 0 _ _ _ h5b).trans rfl
  have p1 : w5.frozen? ⟨b, 0, none⟩ = false := by simp [World.frozen?, h5b]
  obtain ⟨p2, p3⟩ := at0 h5g
  have hgb : ¬ (g1 = b) := by omega
  have hQ := hide (⟨hq, hcq⟩ : _ ∧ _)
  have hL := hide hloc
  have HW4 := hide hw4
  clear hq hcq hloc hc5 hd hr5 hr5' hvb hvg hvm hown5 hg5 hg14 hw4 hv0 hgrow4 hB4 hmw hbw hg1w
  go_wp2
  refine leaves_cons (f := 48) (args := #[.pointer (some ⟨g1, 0, none⟩)]) (by simp) (by simp [go_sem]) ?_
  refine (idle48 ⟨g1, 0, none⟩ _).mono ?_
  rintro e u' w'' ⟨rfl, rfl, rfl⟩
  simp [Leaves, settle, results, Try.results41, go_sem, p2]
  exact ⟨_, hL.out.imp id (fun e => ⟨_, e, by have := HW4.out; omega⟩), hQ.out⟩
/-- A map laid in a struct's field. -/
theorem laid_map (w3 : World) (b : Nat) (v : Value) (c : Value) (t : TypeId) (K : TypeId) (R : Value → Option (DT × List MemPlace)) (hb : w3.heap[b]? = some (.cells #[v, c] t (0, 0))) :
    ((w3.alloc (.map #[] 0)).setCell ⟨b, 1, none⟩ (.map (some w3.heap.size))).ownsMap Try.prog K R w3.heap.size 0 (.map []) ∧
    ((w3.alloc (.map #[] 0)).setCell ⟨b, 1, none⟩ (.map (some w3.heap.size))).heap[b]? = some (.cells #[v, .map (some w3.heap.size)] t (0, 0)) ∧
    w3.grownBy ((w3.alloc (.map #[] 0)).setCell ⟨b, 1, none⟩ (.map (some w3.heap.size))) (some b) := by
  have hbl := (Array.getElem?_eq_some_iff.1 hb).1
  refine ⟨World.ownsMap.setCell (World.ownsMap_made (H := Unit) w3 Try.prog K R) (by simp only; omega) _, ?_, (gb_any (World.grownBy_alloc w3 _ none)).trans (gb_set _ b 1 _)⟩
  have := cells_at hb (World.grownBy_alloc w3 (.map #[] 0) none) (by simp)
  simp [World.setCell, Array.getElem?_modify, this]
set_option maxHeartbeats 4000000 in
set_option maxRecDepth 100000 in
theorem qput_none (b N : Nat) (v : Value) (l : List Nat) (D : DT) (k : Nat) (w : World) (h : QueV w b v none N l D) (hk : k < 4096) :
    Calls Try.prog 41 #[.pointer (some ⟨b, 0, none⟩), nv k] w fun e w' => l = [] ∧ e = .returned (.bool true) ∧ ∃ v' m, w.heap.size ≤ m ∧ (v'.ownBlock = v.ownBlock ∨ ∃ g, v'.ownBlock = some g ∧ w.heap.size ≤ g) ∧ QueV w' b v' (some m) (N + 1) (l ++ [k]) (D.put (lk k) (.agg [])) ∧ Chg (fun j => j = b ∨ v.ownBlock = some j) w w' := by
  obtain ⟨i0, hi, hz0, hz1, hz2⟩ := info_parts info3q
  obtain ⟨t, ht⟩ := h.cell
  have c1 : Hid (w.cell? ⟨b, 1, none⟩ = some (.map none)) := hide ((cell_of_row w b 1 _ _ _ ht).trans rfl)
  obtain rfl := h.nil rfl
  have hl0 : l = [] := by
    cases l with
    | nil => rfl
    | cons x r => exact absurd ((h.dat.key x).2 (by simp)) (by simp [has])
  subst hl0
  have HR := hide h.row
  have HK := hide (lk_key hk)
  have HH := hide h
  have HT := hide ht
  have HVB := hide h.rne
  have hmf : ∀ (fn : Fn) (first cap : Array Value) (w : World), (Instr.makeFunc fn first cap).run Try.prog w = .ok (.func fn first cap) w := fun _ _ _ _ => rfl
  have hnil := fun W => run_eql_map_nil (P := Try.prog) W none Try.underlying83
  have hrun := fun W => look_nil (w := W) true key3 Try.underlying83 (zero94 W) HK.out
  clear h ht
  go_enter_defers Try.func41, Try.ntmps41
  have hmm := @run_makeMap Try.prog
  go_wp2_with (first | (refine wpList_newv 4 rfl rfl 4 rfl (.bool false) zero4 ?_; intro g1 w1 h1; have c1' := cellw (gb_at h1.out) c1.out) | (go_at_call 49; refine (found49 k _).mono ?_; rintro e w2 ⟨rfl, hw1⟩; subst hw1) | (refine wpList_newv 5 rfl rfl 94 rfl (.agg #[]) zero94 ?_; intro g2 w3 h3; have c1'' := cellw (gb_at h3.out) c1'; have hB3 := hide (cells_at HT.out ((gb_at h1.out).trans (gb_at h3.out)) (by simp)); have hB3a := cells_at hB3.out (World.grownBy_alloc w3 (.map #[] 0) none) (by simp); have f1a := fz hB3a 1; have c1a : (w3.alloc (.map #[] 0)).cell? ⟨b, 1, none⟩ = some (.map none) := (cell_of_row _ b 1 _ _ _ hB3a).trans rfl; clear hB3a) | (at_mapUpdate; refine wpList_mapUpdate_own _ rfl _ _ _ 83 rfl 3 94 key3 Try.underlying83 (unitElem (H := Unit)) w3.heap.size 0 (.map []) rfl (laid_map w3 b v _ t 3 unitElem hB3.out).1 (by unfold maxLen; omega) _ _ _ rfl rfl HK.out _ [] unitElem_mk ?_; intro w4 hown4 hgrow4; have hB4 := cells_at (laid_map w3 b v _ t 3 unitElem hB3.out).2.1 hgrow4 (by have := (Array.getElem?_eq_some_iff.1 hB3.out).1; simp; omega); have e0 : w4.cell? ⟨b, 0, none⟩ = some v := (cell_of_row w4 b 0 _ _ _ hB4).trans rfl) | (at_builtin; go_must (refine wpList_append_row _ rfl (.tmp 39) (.tmp 41) 48 rfl 3 i0 (.int .i64 0) 1 8 Try.underlying48 hi hz0 hz1 hz2 rfl (by decide) v 0 [] rfl ?c0 ⟨w4.heap.size, 0, none⟩ 1 1 [nv k] rfl (by decide) rfl ?c1 ?c2 ?c3 ?c4 ?_)))
  case c0 =>
    have q := ((HR.out.chg (Chg.of_gb ((gb_at h1.out).trans (gb_at h3.out))) (fun _ _ e => by simp at e)).chg (Chg.of_gb (laid_map w3 b v _ t 3 unitElem hB3.out).2.2) (fun g e1 e2 => HVB.out (by rw [e1, e2])))
    refine (q.chg (Chg.of_gb hgrow4) (fun g e1 e2 => ?_)).chg (Chg.of_gb (World.grownBy_alloc _ _ none)) (fun _ _ e => by simp at e)
    have h0 := HR.out.lt g e1
    have := ((gb_at h1.out).trans (gb_at h3.out)).size
    simp at e2
    omega
  case c1 =>
    intro j u hj
    match j, hj with
    | 0, hj => simp at hj; subst hj; simp [Addr.add]
  case c2 => intro u hu; simp at hu; subst hu; rfl
  case c3 => unfold maxLen; omega
  case c4 => omega
  intro v' w5 hr5 hg5 hloc
  obtain ⟨ao, cap, rfl⟩ := hr5.slice
  have hbw : b < w.heap.size := (Array.getElem?_eq_some_iff.1 HT.out).1
  have G3 := (gb_at h1.out).trans (gb_at h3.out)
  have L4 := laid_map w3 b v _ t 3 unitElem hB3.out
  have hg1w := h1.out.1
  have hg13 : g1 < w3.heap.size := by
    have := (Array.getElem?_eq_some_iff.1 h1.out.2.1).1
    have := h3.out.2.2.size
    omega
  have hw34 : w3.heap.size < w4.heap.size := by
    have := World.ownsMap.lt hown4
    exact this
  have hw4 : w.heap.size ≤ w4.heap.size := by have := G3.size; omega
  have hv0 : ∀ g, v.ownBlock = some g → g < w.heap.size := fun g e => HR.out.lt g e
  have hw3 := G3.size
  have h5b : w5.heap[b]? = some (.cells #[v, .map (some w3.heap.size)] t (0, 0)) := cells_at (cells_at hB4 (World.grownBy_alloc w4 (.cells #[nv k] 3) none) (by simp)) hg5 (fun e => HVB.out e.symm)
  have h5g : w5.heap[g1]? = some (.cells #[.bool false] 4 (0, 0)) := cells_at (cells_at (cells_at (cells_at (cells_at h1.out.2.1 (gb_at h3.out) (by simp)) L4.2.2 (by simp; omega)) hgrow4 (by simp; omega)) (World.grownBy_alloc w4 (.cells #[nv k] 3) none) (by simp)) hg5 (fun e => by have := hv0 g1 e.symm; omega)
  have hvb : (Value.slice ao (0 + 1) cap).ownBlock ≠ some b := fun e => by
    rcases hloc with q | q
    · rw [q] at e; exact HVB.out e
    · rw [q] at e; simp at e; omega
  have hvg : (Value.slice ao (0 + 1) cap).ownBlock ≠ some g1 := fun e => by
    rcases hloc with q | q
    · rw [q] at e; have := hv0 g1 e; omega
    · rw [q] at e; simp at e; omega
  have hvm : (Value.slice ao (0 + 1) cap).ownBlock ≠ some w3.heap.size := fun e => by
    rcases hloc with q | q
    · rw [q] at e; have := hv0 _ e; omega
    · rw [q] at e; simp at e; omega
  have hown5 : w5.ownsMap Try.prog 3 unitElem w3.heap.size (N + 1) ((DataW.map []).put (lk k) (.agg [])) := World.ownsMap.mono (World.ownsMap.kept (World.ownsMap.kept hown4 (World.grownBy_alloc w4 (.cells #[nv k] 3) none) (by simp)) hg5 (fun e => by have := hv0 _ e.symm; omega)) (by omega)
  have hc5 : Chg (fun j => j = b ∨ v.ownBlock = some j) w w5 :=
    ((((Chg.gb0 G3).then L4.2.2 fun j _ e => .inl (by simpa using e)).then hgrow4 fun j hj e => by simp at e; omega).then (World.grownBy_alloc w4 (.cells #[nv k] 3) none) fun j _ e => by simp at e).then hg5 fun j _ e => .inr e.symm
  have hd : QueD (N + 1) ([] ++ [k]) ((DataW.map []).put (lk k) (.agg [])) := HH.out.dat.put (by simp) (N + 1)
  have hr5' : RowW w5 3 1 (.slice ao (0 + 1) cap) ([] ++ [k]).length (([] ++ [k]).map nv) := by simpa using hr5
  obtain ⟨hq, hcq⟩ := que_done hbw hg1w h5b hr5' hvb hvg hvm (by omega) (by omega) hown5 hd hc5 (.inl rfl)
  have p0 : w5.cell? ⟨b, 0, none⟩ = some v := (cell_of_row w5 b 0 _ _ _ h5b).trans rfl
  have p1 : w5.frozen? ⟨b, 0, none⟩ = false := fz h5b 0
  obtain ⟨p2, p3⟩ := at0 h5g
  have hgb : ¬ (g1 = b) := by omega
  have hQ := hide (⟨hq, hcq⟩ : _ ∧ _)
  have hL := hide hloc
  have HW4 := hide hw4
  have HW3 := hide hw3
  clear hq hcq hloc hc5 hd hr5 hr5' hvb hvg hvm hown5 hg5 hg13 hw34 hw4 hw3 hv0 hgrow4 hB4 hbw hg1w hown4 L4
  go_wp2
  refine leaves_cons (f := 48) (args := #[.pointer (some ⟨g1, 0, none⟩)]) (by simp) (by simp [go_sem]) ?_
  refine (idle48 ⟨g1, 0, none⟩ _).mono ?_
  rintro e u' w'' ⟨rfl, rfl, rfl⟩
  simp [Leaves, settle, results, Try.results41, go_sem, p2]
  exact ⟨_, w3.heap.size, HW3.out, hL.out.imp id (fun e => ⟨_, e, by have := HW4.out; simp; omega⟩), hQ.out⟩
/-- Put: one that is there already; another one. -/
theorem qput_any (b N : Nat) (v : Value) (mo : Option Nat) (l : List Nat) (D : DT) (k : Nat) (w : World) (h : QueV w b v mo N l D) (hk : k < 4096) (hN : N < maxLen) (hl : l.length ≤ 1000000) :
    (k ∈ l → Calls Try.prog 41 #[.pointer (some ⟨b, 0, none⟩), nv k] w fun e w' => e = .returned (.bool false) ∧ w.grownBy w' none) ∧
    (¬ k ∈ l → Calls Try.prog 41 #[.pointer (some ⟨b, 0, none⟩), nv k] w fun e w' => e = .returned (.bool true) ∧ ∃ v' m, (mo = some m ∨ w.heap.size ≤ m) ∧ (v'.ownBlock = v.ownBlock ∨ ∃ g, v'.ownBlock = some g ∧ w.heap.size ≤ g) ∧ QueV w' b v' (some m) (N + 1) (l ++ [k]) (D.put (lk k) (.agg [])) ∧ Chg (fun j => j = b ∨ mo = some j ∨ v.ownBlock = some j) w w') := by
  cases mo with
  | some m =>
    refine ⟨fun hin => qput_old b m N v l D k w h hk hin, fun hin => (qput_some b m N v l D k w h hk hin hN hl).mono ?_⟩
    rintro e w' ⟨rfl, v', h1, h2, h3⟩
    exact ⟨rfl, v', m, .inl rfl, h1, h2, h3.mono fun j _ e => by rcases e with e | e | e; exact .inl e; exact .inr (.inl (by rw [e])); exact .inr (.inr e)⟩
  | none =>
    have hl0 : l = [] := by
      cases l with
      | nil => rfl
      | cons x r => exact absurd ((h.dat.key x).2 (by simp)) (by rw [h.nil rfl]; simp [has])
    refine ⟨fun hin => by rw [hl0] at hin; simp at hin, fun hin => (qput_none b N v l D k w h hk).mono ?_⟩
    rintro e w' ⟨_, rfl, v', m, h0, h1, h2, h3⟩
    exact ⟨rfl, v', m, .inr h0, h1, h2, h3.mono fun j _ e => by rcases e with e | e; exact .inl e; exact .inr (.inr e)⟩
theorem QueD.cut {N : Nat} {x : Nat} {r : List Nat} {D : DT} (h : QueD N (x :: r) D) : QueD N r (D.del (lk x)) := by
  have hn := List.nodup_cons.1 h.nodup
  refine ⟨fun j => ?_, h.map.del _, hn.2⟩
  by_cases e : j = x
  · subst e
    rw [has_del_same]
    simp [hn.1]
  · rw [has_del_other (fun q => e (lk_inj q)), h.key j]
    simp [e]
/-- The first cell is written, and the row begins behind it. -/
theorem RowW.tail_set {w : World} {e : TypeId} {g off n cap : Nat} {xs : List Value} {y : Value} (h : RowW w e 1 (.slice (some ⟨g, off, none⟩) (n + 1) cap) (n + 1) xs) : RowW (w.setCell ⟨g, off, none⟩ y) e 1 (.slice (if cap = 1 then some ⟨g, off, none⟩ else some ⟨g, off + 1, none⟩) n (cap - 1)) n (xs.drop 1) := by
  have ht := h.tail
  refine ⟨ht.1, ?_⟩
  rcases ht.2 with ⟨h0, h1⟩ | ⟨g', off', cap', cur, e1, hg, hnc, hcm, hcs, hx⟩
  · exact .inl ⟨h0, h1⟩
  · by_cases hc : cap = 1
    · rw [if_pos hc] at e1
      simp only [Value.slice.injEq, Option.some.injEq, Addr.mk.injEq, true_and, and_true] at e1
      obtain ⟨⟨rfl, rfl⟩, rfl⟩ := e1
      refine .inr ⟨g, off, _, cur.setIfInBounds off y, by rw [if_pos hc], by simp [World.setCell, Array.getElem?_modify, hg], hnc, hcm, by simpa using hcs, ?_⟩
      obtain rfl : n = 0 := by omega
      rw [← hx]
      simp
    · rw [if_neg hc] at e1
      simp only [Value.slice.injEq, Option.some.injEq, Addr.mk.injEq, true_and, and_true] at e1
      obtain ⟨⟨rfl, rfl⟩, rfl⟩ := e1
      refine .inr ⟨g, off + 1, _, cur.setIfInBounds off y, by rw [if_neg hc], by simp [World.setCell, Array.getElem?_modify, hg], hnc, hcm, by simpa using hcs, ?_⟩
      rw [← hx, Array.toList_setIfInBounds, List.drop_set_of_lt (by omega)]
theorem qlen_any (b N : Nat) (v : Value) (mo : Option Nat) (l : List Nat) (D : DT) (w : World) (h : QueV w b v mo N l D) : Calls Try.prog 42 #[.pointer (some ⟨b, 0, none⟩)] w fun e w' => e = .returned (.int .i64 (l.length : Nat)) ∧ w' = w := by
  obtain ⟨t, ht⟩ := h.cell
  have c0 : w.cell? ⟨b, 0, none⟩ = some v := (cell_of_row w b 0 _ _ _ ht).trans rfl
  obtain ⟨ao, cap, rfl⟩ := h.row.slice
  clear h ht
  go_enter Try.func42, Try.ntmps42
  go_wp2
  go_ret
  exact ⟨rfl, rfl⟩
theorem qtake_nil (b N : Nat) (v : Value) (mo : Option Nat) (D : DT) (w : World) (h : QueV w b v mo N [] D) : Calls Try.prog 43 #[.pointer (some ⟨b, 0, none⟩)] w fun e w' => e = .returned (.tuple #[.int .i64 0, .bool false]) ∧ w' = w := by
  obtain ⟨t, ht⟩ := h.cell
  have c0 : w.cell? ⟨b, 0, none⟩ = some v := (cell_of_row w b 0 _ _ _ ht).trans rfl
  obtain ⟨ao, cap, rfl⟩ := h.row.slice
  clear h ht
  go_enter Try.func43, Try.ntmps43
  go_wp2
  go_ret2
  exact ⟨rfl, rfl⟩
theorem qtake_done {w w3 : World} {b m N g off cap : Nat} {x : Nat} {r : List Nat} {D : DT} (h : QueV w b (.slice (some ⟨g, off, none⟩) (x :: r).length cap) (some m) N (x :: r) D)
    (hr : RowW (w.setCell ⟨g, off, none⟩ (.int .i64 0)) 3 1 (.slice (if cap = 1 then some ⟨g, off, none⟩ else some ⟨g, off + 1, none⟩) r.length (cap - 1)) r.length (((x :: r).map nv).drop 1))
    (hown : w3.ownsMap Try.prog 3 unitElem m N (D.del (lk x))) (ht : ((w.setCell ⟨g, off, none⟩ (.int .i64 0)).setCell ⟨b, 0, none⟩ (.slice (if cap = 1 then some ⟨g, off, none⟩ else some ⟨g, off + 1, none⟩) r.length (cap - 1))).mapTurned w3 m) :
    ∃ v' : Value, v'.ownBlock = some g ∧ QueV w3 b v' (some m) N r (D.del (lk x)) ∧ Chg (fun j => j = b ∨ j = m ∨ some g = some j) w w3 := by
  obtain ⟨t, hb⟩ := h.cell
  have hgb : g ≠ b := fun e => h.rne (by simp [Value.ownBlock, e])
  have hgm : g ≠ m := fun e => (h.own m rfl).2.1 (by simp [Value.ownBlock, e])
  have hmb := (h.own m rfl).1
  have ho : (Value.slice (if cap = 1 then some ⟨g, off, none⟩ else some ⟨g, off + 1, none⟩) r.length (cap - 1)).ownBlock = some g := by
    by_cases e : cap = 1 <;> simp [e, Value.ownBlock]
  have hgw : g < w.heap.size := h.row.lt g rfl
  have hbw := (Array.getElem?_eq_some_iff.1 hb).1
  generalize hv : (Value.slice (if cap = 1 then some ⟨g, off, none⟩ else some ⟨g, off + 1, none⟩) r.length (cap - 1)) = v' at *
  have k1 : Chg (fun j => j = g) w (w.setCell ⟨g, off, none⟩ (.int .i64 0)) := (Chg.of_gb (gb_set w g off _)).mono fun _ _ e => by simpa using e
  have k2 : Chg (fun j => j = b) (w.setCell ⟨g, off, none⟩ (.int .i64 0)) ((w.setCell ⟨g, off, none⟩ (.int .i64 0)).setCell ⟨b, 0, none⟩ v') := (Chg.of_gb (gb_set _ b 0 v')).mono fun _ _ e => by simpa using e
  have k3 := chg_turned ht
  have hb1 := (k1.block b hbw (fun e => hgb e.symm)).trans hb
  have hb2 : ((w.setCell ⟨g, off, none⟩ (.int .i64 0)).setCell ⟨b, 0, none⟩ v').heap[b]? = some (.cells #[v', .map (some m)] t (0, 0)) := by
    generalize w.setCell ⟨g, off, none⟩ (.int .i64 0) = W at hb1 ⊢
    simp [World.setCell, Array.getElem?_modify, hb1]
  have hbw2 := (Array.getElem?_eq_some_iff.1 hb2).1
  refine ⟨v', ho, ⟨⟨t, (k3.block b hbw2 (fun e => hmb e.symm)).trans hb2⟩, ?_, by rw [ho]; simpa using hgb, fun e => by simp at e, fun m' e => by cases e; exact ⟨hmb, by rw [ho]; simpa using hgm, hown⟩, h.dat.cut⟩, ?_⟩
  · have q := (hr.chg k2 fun g' e1 e2 => by rw [ho] at e1; simp at e1; omega).chg k3 fun g' e1 e2 => by rw [ho] at e1; simp at e1; omega
    simpa using q
  · exact ((k1.mono fun _ _ e => .inr (.inr (by rw [e]))).trans k2 fun _ _ e => .inl e).trans k3 fun _ _ e => .inr (.inl e)
set_option maxHeartbeats 4000000 in
set_option maxRecDepth 100000 in
theorem qtake_cons (b m N : Nat) (v : Value) (x : Nat) (r : List Nat) (D : DT) (w : World) (h : QueV w b v (some m) N (x :: r) D) (hk : x < 4096) : Calls Try.prog 43 #[.pointer (some ⟨b, 0, none⟩)] w fun e w' => e = .returned (.tuple #[nv x, .bool true]) ∧ ∃ v', v'.ownBlock = v.ownBlock ∧ QueV w' b v' (some m) N r (D.del (lk x)) ∧ Chg (fun j => j = b ∨ j = m ∨ v.ownBlock = some j) w w' := by
  obtain ⟨t, ht⟩ := h.cell
  have c0 : w.cell? ⟨b, 0, none⟩ = some v := (cell_of_row w b 0 _ _ _ ht).trans rfl
  have c1 : w.cell? ⟨b, 1, none⟩ = some (.map (some m)) := (cell_of_row w b 1 _ _ _ ht).trans rfl
  have hf0 : w.frozen? ⟨b, 0, none⟩ = false := fz ht 0
  obtain ⟨g, off, cap, rfl, hx⟩ := h.row.cell 0 (by simp)
  obtain ⟨cx, hfx⟩ := hx 0 (by decide)
  simp at cx hfx
  have HO := hide (h.own m rfl).2.2
  have hmb := (h.own m rfl).1
  have hvm := (h.own m rfl).2.1
  have hgm : g ≠ m := fun e => hvm (by simp [Value.ownBlock, e])
  have hgb : ¬ g = b := fun e => h.rne (by simp [Value.ownBlock, e])
  have hbg : ¬ b = g := fun e => hgb e.symm
  have hrow : RowW w 3 1 (.slice (some ⟨g, off, none⟩) (r.length + 1) cap) (r.length + 1) ((x :: r).map nv) := by simpa using h.row
  have HR := hide (hrow.tail_set (y := .int .i64 0))
  have hcap : r.length + 1 ≤ cap ∧ cap ≤ maxLen := by
    rcases hrow.2 with ⟨e, _⟩ | ⟨g', off', cap', cur, e1, hg, hnc, hcm, _⟩
    · cases e
    · simp only [Value.slice.injEq] at e1
      omega
  have hcap1 : 1 ≤ cap := by omega
  have hcap2 : cap ≤ 9223372036854775807 := by have := hcap.2; unfold maxLen at this; omega
  have HK := hide (lk_key hk)
  have HH := hide h
  have HT := hide ht
  have HX : Hid (∀ v' : Value, (w.setCell ⟨g, off, none⟩ (.int .i64 0)).grownBy ((w.setCell ⟨g, off, none⟩ (.int .i64 0)).setCell ⟨b, 0, none⟩ v') (some b)) := hide fun v' => gb_set _ _ _ _
  clear h ht hrow hx hcap
  go_enter Try.func43, Try.ntmps43
  go_wp2_with (first | (go_at_call 49; refine (found49 x _).mono ?_; rintro e w2 ⟨rfl, hw1⟩; subst hw1) | (at_delete; refine wpList_delete_own _ rfl _ _ 83 3 rfl 94 key3 Try.underlying83 _ m N D rfl (World.ownsMap.kept (World.ownsMap.kept HO.out (gb_set w g off _) (by simpa using fun e => hgm e.symm)) (gb_set _ b 0 _) (by simpa using hmb)) _ _ rfl HK.out ?_; intro w3 hown3 hturn3))
  all_goals (go_ret2; exact ⟨rfl, qtake_done HH.out HR.out hown3 hturn3⟩)

end Go.Proofs.Ytblcbccchlljhaa.Bg
namespace Go.Proofs.Ytblcbccchlljhaa
open Go.RowKit Ir Wy Go.Maps Go.WideMaps

theorem queV_chg {S : Nat → Prop} {w w' : World} {b N : Nat} {v : Value} {mo : Option Nat} {l : List Nat} {D : DT} (h : Bg.QueV w b v mo N l D) (k : Bg.Chg S w w') (hb : ¬ S b) (hm : ∀ m, mo = some m → ¬ S m) (hv : ∀ g, v.ownBlock = some g → ¬ S g) : Bg.QueV w' b v mo N l D := by
  obtain ⟨t, ht⟩ := h.cell
  exact ⟨⟨t, (k.block b (Array.getElem?_eq_some_iff.1 ht).1 hb).trans ht⟩, h.row.chg k hv, h.rne, h.nil, fun m e => ⟨(h.own m e).1, (h.own m e).2.1, Bg.map_chg (h.own m e).2.2 k (hm m e)⟩, h.dat⟩
theorem queV_more {w : World} {b N M : Nat} {v : Value} {mo : Option Nat} {l : List Nat} {D : DT} (h : Bg.QueV w b v mo N l D) (hM : N ≤ M) : Bg.QueV w b v mo M l D :=
  ⟨h.cell, h.row, h.rne, h.nil, fun m e => ⟨(h.own m e).1, (h.own m e).2.1, World.ownsMap.mono (h.own m e).2.2 hM⟩, ⟨h.dat.key, h.dat.map, h.dat.nodup⟩⟩
/-- The queue in block q holds l. -/
def Que (B : Nat) (w : World) (q N : Nat) (l : List Nat) : Prop := ∃ v mo D, Bg.QueV w q v mo N l D ∧ B ≤ q ∧ (∀ m, mo = some m → B ≤ m) ∧ ∀ k, v.ownBlock = some k → B ≤ k
theorem Que.nodup {B q N : Nat} {w : World} {l : List Nat} (h : Que B w q N l) : l.Nodup := by
  obtain ⟨v, mo, D, h1, _⟩ := h
  exact h1.dat.nodup
theorem Que.chg {S : Nat → Prop} {B q N : Nat} {w w' : World} {l : List Nat} (h : Que B w q N l) (k : Bg.Chg S w w') (hS : ∀ j, S j → j < B) : Que B w' q N l := by
  obtain ⟨v, mo, D, h1, h2, h3, h4⟩ := h
  refine ⟨v, mo, D, queV_chg h1 k (fun e => by have := hS _ e; omega) (fun m e e1 => ?_) (fun g e e1 => ?_), h2, h3, h4⟩
  · have := hS _ e1; have := h3 m e; omega
  · have := hS _ e1; have := h4 g e; omega
/-- One more, if it isn't there. -/
def put1 (l : List Nat) (k : Nat) : List Nat := if k ∈ l then l else l ++ [k]
theorem put1_sub {l : List Nat} {k y : Nat} (h : y ∈ l) : y ∈ put1 l k := by
  unfold put1
  split
  · exact h
  · exact List.mem_append.2 (.inl h)
theorem put1_self (l : List Nat) (k : Nat) : k ∈ put1 l k := by
  unfold put1
  split
  · assumption
  · simp
theorem put1_mem {l : List Nat} {k y : Nat} (h : y ∈ put1 l k) : y ∈ l ∨ y = k := by
  unfold put1 at h
  split at h
  · exact .inl h
  · rcases List.mem_append.1 h with h | h
    · exact .inl h
    · exact .inr (by simpa using h)
theorem que_new (w : World) : Que w.heap.size (w.alloc (.cells #[.slice none 0 0, .map none] 85)) w.heap.size 0 [] :=
  ⟨.slice none 0 0, none, .map [], ⟨⟨85, heap_alloc_new w _⟩, Bg.RowW.nil _ _ _, by simp [Value.ownBlock], fun _ => rfl, fun m e => (by cases e), ⟨fun k => by simp [has], isMap_empty, by simp⟩⟩, Nat.le_refl _, fun m e => (by simp at e), fun k e => by simp [Value.ownBlock] at e⟩
theorem que_len {B q N : Nat} {w : World} {l : List Nat} (h : Que B w q N l) : Calls Try.prog 42 #[.pointer (some ⟨q, 0, none⟩)] w fun e w' => e = .returned (.int .i64 (l.length : Nat)) ∧ w' = w := by
  obtain ⟨v, mo, D, h1, _⟩ := h
  exact Bg.qlen_any q N v mo l D w h1
theorem que_put {B q N : Nat} {w : World} {l : List Nat} (h : Que B w q N l) (k : Nat) (hk : k < 4096) (hN : N < maxLen) (hl : l.length ≤ 1000000) (hB : B ≤ w.heap.size) : Calls Try.prog 41 #[.pointer (some ⟨q, 0, none⟩), .int .i64 (k : Int)] w fun e w' => ∃ r, e = .returned (.bool r) ∧ Que B w' q (N + 1) (put1 l k) ∧ Bg.Chg (fun j => B ≤ j) w w' := by
  obtain ⟨v, mo, D, h1, h2, h3, h4⟩ := h
  obtain ⟨p1, p2⟩ := Bg.qput_any q N v mo l D k w h1 hk hN hl
  by_cases hin : k ∈ l
  · refine (p1 hin).mono ?_
    rintro e w' ⟨rfl, hg⟩
    refine ⟨_, rfl, ?_, ⟨hg.os, hg.tape, hg.output, hg.size, fun j hj _ => hg.block j hj (by simp)⟩⟩
    rw [put1, if_pos hin]
    exact ⟨v, mo, D, queV_more (queV_chg h1 (Bg.Chg.gb0 (S := fun _ => False) hg) (fun e => e) (fun _ _ e => e) (fun _ _ e => e)) (by omega), h2, h3, h4⟩
  · refine (p2 hin).mono ?_
    rintro e w' ⟨rfl, v', m, hm, hv, hq, hc⟩
    refine ⟨_, rfl, ?_, hc.mono fun j hj e => ?_⟩
    · rw [put1, if_neg hin]
      refine ⟨v', some m, _, hq, h2, fun m' e => ?_, fun j e => ?_⟩
      · cases e
        rcases hm with e | e
        · exact h3 m e
        · omega
      · rcases hv with e1 | ⟨g, e1, e2⟩
        · rw [e1] at e; exact h4 j e
        · rw [e1] at e; cases e; omega
    · rcases e with e | e | e
      · rw [e]; exact h2
      · exact h3 j e
      · exact h4 j e
theorem que_take {B q N x : Nat} {w : World} {r : List Nat} (h : Que B w q N (x :: r)) (hk : x < 4096) : Calls Try.prog 43 #[.pointer (some ⟨q, 0, none⟩)] w fun e w' => e = .returned (.tuple #[.int .i64 (x : Int), .bool true]) ∧ Que B w' q N r ∧ Bg.Chg (fun j => B ≤ j) w w' := by
  obtain ⟨v, mo, D, h1, h2, h3, h4⟩ := h
  cases mo with
  | none =>
    have := (h1.dat.key x).2 (by simp)
    rw [h1.nil rfl] at this
    simp [has] at this
  | some m =>
    refine (Bg.qtake_cons q m N v x r D w h1 hk).mono ?_
    rintro e w' ⟨rfl, v', hv, hq, hc⟩
    refine ⟨rfl, ⟨v', some m, _, hq, h2, h3, fun k e => h4 k (by rw [← hv]; exact e)⟩, hc.mono fun j hj e => ?_⟩
    rcases e with e | e | e
    · rw [e]; exact h2
    · rw [e]; exact h3 m rfl
    · exact h4 j e
/-- A table of rows stays where all but some blocks stay. -/
theorem RowsO.chg {S : Nat → Prop} {B g n : Nat} {w w' : World} {V : Nat → Value} {R : Nat → List Int} (h : RowsO B g n w V R) (k : Bg.Chg S w w') (hg : ¬ S g) (hr : ∀ b, b < n → ∀ j, (V b).ownBlock = some j → ¬ S j) : RowsO B g n w' V R :=
  h.keep (k.block g h.lt hg) fun b hb j hj => k.block j ((h.row b hb).lt j hj).2 (hr b hb j hj)
end Go.Proofs.Ytblcbccchlljhaa
