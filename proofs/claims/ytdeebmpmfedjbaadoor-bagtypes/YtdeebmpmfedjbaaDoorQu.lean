/- Queues of strings: Put. -/
import Derived.Test.YtdeebmpmfedjbaaDoorRo
import Derived.Tactics
import Derived.Tactics2
import Derived.Defers
import Derived.Recover
import Derived.Laws.Pointers
namespace Go.Proofs.YtdeebmpmfedjbaaDoor
open Go.RowKit Bag Go.Maps Go.WideMaps
theorem idle46 (p : Addr) (w : World) :
    CallsD Tryd.prog 46 #[.pointer (some p)] .returning w fun e u' w' => e = .returned (.tuple #[]) ∧ u' = .returning ∧ w' = w := by
  refine callsD_of_wpS Tryd.func46 rfl fun c₀ cs hu => ?_
  apply wpS_seq
  apply wpS_region
  simp [wpOpsS, go_sem, recoverD, hu, Tryd.ntmps46, Exit.thenS]
  refine wpS_cond (t := false) (by simp [Act.eval, Array.replicate]) ?_
  simp only [Bool.false_eq_true, if_false]
  refine wpS_of_wp (wp_skip ?_)
  cases c₀
  simp_all [bodyPostS, results, Tryd.results46]
theorem found47 (k : ByteArray) (w : World) : Calls Tryd.prog 47 #[.string k] w fun e w' => e = .returned (.bool true) ∧ w' = w := by
  go_enter Tryd.func47, Tryd.ntmps47
  go_wp2
  go_ret
  exact ⟨by simp, rfl⟩
/-- What a queue's map tells: just what is in the row. -/
structure QueD (N : Nat) (l : List ByteArray) (D : DT) : Prop where
  key : ∀ k, has D (lk k) = true ↔ k ∈ l
  map : IsMap D
  nodup : l.Nodup
/-- A queue in block b: its row, its map. -/
structure QueV (w : World) (b : Nat) (v : Value) (mo : Option Nat) (N : Nat) (l : List ByteArray) (D : DT) : Prop where
  cell : ∃ t, w.heap[b]? = some (.cells #[v, .map mo] t (0, 0))
  row : RowW w 9 1 v l.length (l.map Value.string)
  rne : v.ownBlock ≠ some b
  nil : mo = none → D = .map []
  own : ∀ m, mo = some m → m ≠ b ∧ v.ownBlock ≠ some m ∧ w.ownsMap Tryd.prog 9 unitElem m N D
  dat : QueD N l D
theorem zero92 (W : World) : (zeroValue 92).run Tryd.prog W = .ok (.agg #[]) W := by kernel_rfl
section
variable {P : Program} {ops : Array Oper} {rest : List Oper} {o : Oper} {a : Act} {w : World} {Q : Exit → Act → World → Prop}
/-- A new block of whatever zero value, its pointer in temporary d. -/
theorem wpList_newv (d : Tmp) (hd : o.dst = some d) (hgd : o.guard = none) (t : TypeId) (ho : o.op = .alloc t) (z : Value) (hz : ∀ W, (zeroValue t).run P W = .ok z W) (hK : ∀ (g : Nat) (w' : World), Hid (g = w.heap.size ∧ w'.heap[g]? = some (Obj.cells z.cells t (0, 0)) ∧ Below g w w') → wpList P ops Q rest (a.put (some d) (.pointer (some ⟨g, 0, none⟩))) w') : wpList P ops Q (o :: rest) a w := by
  have hK' := hK _ _ ⟨rfl, heap_alloc_new w _, bel1' w (.cells z.cells t)⟩
  rw [← hd] at hK'
  refine wpList_is hgd ?_ hK'
  unfold execOp
  simp only [ho, Instr.alloc, Sem.run_bind, hz, Result.andThen_ok]
  rfl
end
theorem zero4 (W : World) : (zeroValue 4).run Tryd.prog W = .ok (.bool false) W := by kernel_rfl
theorem at0 {w : World} {g : Nat} {v : Value} {t : TypeId} (h : w.heap[g]? = some (.cells #[v] t (0, 0))) : w.cell? ⟨g, 0, none⟩ = some v ∧ w.frozen? ⟨g, 0, none⟩ = false :=
  ⟨(cell_of_row w g 0 _ _ _ h).trans rfl, by simp [World.frozen?, h]⟩
theorem fz {w : World} {g : Nat} {cs : Array Value} {t : TypeId} (h : w.heap[g]? = some (.cells cs t (0, 0))) (i : Nat) : w.frozen? ⟨g, i, none⟩ = false := by simp [World.frozen?, h]
theorem cellw {w w' : World} {b i : Nat} {v : Value} (hB : w.grownBy w' none) (h : w.cell? ⟨b, i, none⟩ = some v) : w'.cell? ⟨b, i, none⟩ = some v := hB.cell h (by simp)
set_option maxHeartbeats 4000000 in
set_option maxRecDepth 100000 in
theorem qput_old (b m N : Nat) (v : Value) (l : List ByteArray) (D : DT) (k : ByteArray) (w : World) (h : QueV w b v (some m) N l D) (hk : k.size ≤ maxLen) (hin : k ∈ l) :
    Calls Tryd.prog 30 #[.pointer (some ⟨b, 0, none⟩), .string k] w fun e w' => e = .returned (.bool false) ∧ w.grownBy w' none := by
  obtain ⟨t, ht⟩ := h.cell
  have c1 : Hid (w.cell? ⟨b, 1, none⟩ = some (.map (some m))) := hide ((cell_of_row w b 1 _ _ _ ht).trans rfl)
  have hhas : has D (lk k) = true := (h.dat.key k).2 hin
  have HO := hide (h.own m rfl).2.2
  have HK := hide (lk_key hk)
  have hmf : ∀ (fn : Fn) (first cap : Array Value) (w : World), (Instr.makeFunc fn first cap).run Tryd.prog w = .ok (.func fn first cap) w := fun _ _ _ _ => rfl
  clear h ht
  go_enter_defers Tryd.func30, Tryd.ntmps30
  go_wp2_with (first | (refine wpList_newv 4 rfl rfl 4 rfl (.bool false) zero4 ?_; intro g1 w1 h1; have c1' := cellw (gb_at h1.out) c1.out) | (go_at_call 47; refine (found47 k _).mono ?_; rintro e w2 ⟨rfl, hw1⟩; subst hw1) | (at_lookup; refine wpList_lookup_own_unit _ rfl _ _ 67 rfl 9 92 key9 Tryd.underlying67 (zero92 _) m N D rfl (World.ownsMap.kept HO.out (gb_at h1.out) (by simp)) _ _ rfl HK.out ?_; rw [hhas]) | (refine wpList_newv 5 rfl rfl 92 rfl (.agg #[]) zero92 ?_; intro g2 w3 h3; obtain ⟨d0, d1⟩ := at0 (cells_at h1.out.2.1 (gb_at h3.out) (by simp))))
  refine leaves_cons (f := 46) (args := #[.pointer (some ⟨g1, 0, none⟩)]) (by simp) (by simp [go_sem]) ?_
  refine (idle46 ⟨g1, 0, none⟩ _).mono ?_
  rintro e u' w'' ⟨rfl, rfl, rfl⟩
  simp [Leaves, settle, results, Tryd.results30, go_sem, d0]
  exact ((gb_at h1.out).trans (gb_at h3.out)).andThen (gb_set _ _ _ _) (fun j e => by cases e; exact .inl (by rw [h1.out.1]; exact Nat.le_refl _))
theorem info9 : (Tryd.prog.info? 9).map (fun i => (i.zero, i.size, i.bytes)) = some (some (.string ⟨#[]⟩), 1, 16) := by kernel_rfl
theorem QueD.put {N : Nat} {l : List ByteArray} {D : DT} (h : QueD N l D) {k : ByteArray} (hn : ¬ k ∈ l) (M : Nat) : QueD M (l ++ [k]) (D.put (lk k) (.agg [])) := by
  refine ⟨fun j => ?_, h.map.put _ _, List.nodup_append.2 ⟨h.nodup, by simp, fun a ha b hb e => hn (by simp at hb; rw [← hb, ← e]; exact ha)⟩⟩
  by_cases e : j = k
  · subst e
    simp [has_put_same h.map (by trivial : WideAt.IsKeyLit (lk j))]
  · have hne : lk j ≠ lk k := fun he => e (by
      unfold lk at he
      simp only [Lit.string.injEq] at he
      have : j.data = k.data := by rw [← Array.toList_inj]; exact he
      cases j; cases k; simpa using this)
    rw [has_put_other hne, h.key j]
    simp [e]
theorem Chg.gb0 {S : Nat → Prop} {a b : World} (h : a.grownBy b none) : Chg S a b := (Chg.of_gb h).mono fun _ _ e => by simp at e
theorem Chg.then {S : Nat → Prop} {a b c : World} {r : Option Nat} (h : Chg S a b) (k : b.grownBy c r) (e : ∀ j, j < a.heap.size → some j = r → S j) : Chg S a c := h.trans (Chg.of_gb k) e
theorem map_chg {R : Value → Option (DT × List MemPlace)} {K : TypeId} {w w' : World} {m N : Nat} {D : DT} {S : Nat → Prop} (h : w.ownsMap Tryd.prog K R m N D) (k : Chg S w w') (hn : ¬ S m) : w'.ownsMap Tryd.prog K R m N D := by
  have hl := World.ownsMap.lt h
  obtain ⟨es, clock, h1, h2⟩ := h
  exact ⟨es, clock, (k.block m hl hn).trans h1, h2⟩
/-- What is behind the two stores of a Put. -/
theorem que_done {w w5 : World} {b g1 m M : Nat} {v v' : Value} {t : TypeId} {l : List ByteArray} {D : DT} {S : Nat → Prop} (hb : b < w.heap.size) (hg1 : g1 = w.heap.size) (h5b : w5.heap[b]? = some (.cells #[v, .map (some m)] t (0, 0)))
    (hr : RowW w5 9 1 v' l.length (l.map Value.string)) (hvb : v'.ownBlock ≠ some b) (hvg : v'.ownBlock ≠ some g1) (hvm : v'.ownBlock ≠ some m) (hmb : m ≠ b) (hmg : m ≠ g1) (hown : w5.ownsMap Tryd.prog 9 unitElem m M D) (hd : QueD M l D) (hc : Chg S w w5) (hS : S b) :
    QueV ((w5.setCell ⟨b, 0, none⟩ v').setCell ⟨g1, 0, none⟩ (.bool true)) b v' (some m) M l D ∧ Chg S w ((w5.setCell ⟨b, 0, none⟩ v').setCell ⟨g1, 0, none⟩ (.bool true)) := by
  have hne : b ≠ g1 := by omega
  have k1 : Chg (fun j => j = b) w5 (w5.setCell ⟨b, 0, none⟩ v') := (Chg.of_gb (gb_set w5 b 0 v')).mono fun _ _ e => by simpa using e
  have k2 : Chg (fun j => j = g1) (w5.setCell ⟨b, 0, none⟩ v') ((w5.setCell ⟨b, 0, none⟩ v').setCell ⟨g1, 0, none⟩ (.bool true)) := (Chg.of_gb (gb_set _ g1 0 _)).mono fun _ _ e => by simpa using e
  have k3 : Chg (fun j => j = b ∨ j = g1) w5 ((w5.setCell ⟨b, 0, none⟩ v').setCell ⟨g1, 0, none⟩ (.bool true)) := (k1.mono fun _ _ e => .inl e).trans k2 fun _ _ e => .inr e
  have hown' := map_chg hown k3 (by simp [hmb, hmg])
  refine ⟨⟨⟨t, ?_⟩, ?_, hvb, fun e => by simp at e, fun m' e => by cases e; exact ⟨hmb, hvm, hown'⟩, hd⟩, hc.trans k3 fun j hj e => ?_⟩
  · rw [Below.heap_setCell _ _ _ _ hne]
    simp [World.setCell, Array.getElem?_modify, h5b]
  · exact hr.chg k3 fun g e1 e2 => by rcases e2 with e2 | e2 <;> (rw [e2] at e1; first | exact hvb e1 | exact hvg e1)
  · rcases e with e | e
    · rw [e]; exact hS
    · omega
set_option maxHeartbeats 4000000 in
set_option maxRecDepth 100000 in
theorem qput_some (b m N : Nat) (v : Value) (l : List ByteArray) (D : DT) (k : ByteArray) (w : World) (h : QueV w b v (some m) N l D) (hk : k.size ≤ maxLen) (hin : ¬ k ∈ l) (hN : N < maxLen) (hl : l.length ≤ 1000000) :
    Calls Tryd.prog 30 #[.pointer (some ⟨b, 0, none⟩), .string k] w fun e w' => e = .returned (.bool true) ∧ ∃ v', (v'.ownBlock = v.ownBlock ∨ ∃ g, v'.ownBlock = some g ∧ w.heap.size ≤ g) ∧ QueV w' b v' (some m) (N + 1) (l ++ [k]) (D.put (lk k) (.agg [])) ∧ Chg (fun j => j = b ∨ j = m ∨ v.ownBlock = some j) w w' := by
  obtain ⟨i0, hi, hz0, hz1, hz2⟩ := info_parts info9
  obtain ⟨t, ht⟩ := h.cell
  have c0 : Hid (w.cell? ⟨b, 0, none⟩ = some v) := hide ((cell_of_row w b 0 _ _ _ ht).trans rfl)
  have c1 : Hid (w.cell? ⟨b, 1, none⟩ = some (.map (some m))) := hide ((cell_of_row w b 1 _ _ _ ht).trans rfl)
  have hhas : has D (lk k) = false := by cases e : has D (lk k); rfl; exact absurd ((h.dat.key k).1 e) hin
  have HO := hide (h.own m rfl).2.2
  have HR := hide h.row
  have HK := hide (lk_key hk)
  have HH := hide h
  have HT := hide ht
  have hmb := (h.own m rfl).1
  have hvm := (h.own m rfl).2.1
  have HMB := hide hmb
  have HVM := hide hvm
  have HVB := hide h.rne
  have hmf : ∀ (fn : Fn) (first cap : Array Value) (w : World), (Instr.makeFunc fn first cap).run Tryd.prog w = .ok (.func fn first cap) w := fun _ _ _ _ => rfl
  have hnil := fun W => run_eql_map_nil (P := Tryd.prog) W (some m) Tryd.underlying67
  clear h ht hmb hvm
  go_enter_defers Tryd.func30, Tryd.ntmps30
  go_wp2_with (first | (refine wpList_newv 4 rfl rfl 4 rfl (.bool false) zero4 ?_; intro g1 w1 h1; have c1' := cellw (gb_at h1.out) c1.out) | (go_at_call 47; refine (found47 k _).mono ?_; rintro e w2 ⟨rfl, hw1⟩; subst hw1) | (at_lookup; refine wpList_lookup_own_unit _ rfl _ _ 67 rfl 9 92 key9 Tryd.underlying67 (zero92 _) m N D rfl (World.ownsMap.kept HO.out (gb_at h1.out) (by simp)) _ _ rfl HK.out ?_; rw [hhas]) | (refine wpList_newv 5 rfl rfl 92 rfl (.agg #[]) zero92 ?_; intro g2 w3 h3; have c1'' := cellw (gb_at h3.out) c1') | (at_mapUpdate; refine wpList_mapUpdate_own _ rfl _ _ _ 67 rfl 9 92 key9 Tryd.underlying67 (unitElem (H := Unit)) m N D rfl (World.ownsMap.kept HO.out ((gb_at h1.out).trans (gb_at h3.out)) (by simp)) hN _ _ _ rfl rfl HK.out _ [] unitElem_mk ?_; intro w4 hown4 hgrow4; have hB4 := cells_at (cells_at HT.out ((gb_at h1.out).trans (gb_at h3.out)) (by simp)) hgrow4 (by have := HMB.out; simp; omega); have e0 : w4.cell? ⟨b, 0, none⟩ = some v := (cell_of_row w4 b 0 _ _ _ hB4).trans rfl) | (at_builtin; go_must (refine wpList_append_row _ rfl (.tmp 39) (.tmp 41) 46 rfl 9 i0 (.string ⟨#[]⟩) 1 16 Tryd.underlying46 hi hz0 hz1 hz2 rfl (by decide) v l.length (l.map Value.string) rfl (((HR.out.chg (Chg.of_gb ((gb_at h1.out).trans (gb_at h3.out))) (fun _ _ e => by simp at e)).chg (Chg.of_gb hgrow4) (fun g e1 e2 => HVM.out (by rw [e1, e2]))).chg (Chg.of_gb (World.grownBy_alloc _ _ none)) (fun _ _ e => by simp at e)) ⟨w4.heap.size, 0, none⟩ 1 1 [.string k] rfl (by decide) rfl ?c1 ?c2 ?c3 ?c4 ?_)))
  case c1 =>
    intro j u hj
    match j, hj with
    | 0, hj => simp at hj; subst hj; simp [Addr.add]
  case c2 => intro u hu; simp at hu; subst hu; rfl
  case c3 => unfold maxLen; omega
  case c4 => omega
  intro v' w5 hr5 hg5 hloc
  obtain ⟨ao, cap, rfl⟩ := hr5.slice
  have hbw : b < w.heap.size := (Array.getElem?_eq_some_iff.1 HT.out).1
  have G3 := (gb_at h1.out).trans (gb_at h3.out)
  have hmw : m < w.heap.size := World.ownsMap.lt HO.out
  have hg1w := h1.out.1
  have hg14 : g1 < w4.heap.size := by
    have := (Array.getElem?_eq_some_iff.1 h1.out.2.1).1
    have := h3.out.2.2.size
    have := hgrow4.size
    omega
  have hw4 : w.heap.size ≤ w4.heap.size := Nat.le_trans G3.size hgrow4.size
  have hv0 : ∀ g, v.ownBlock = some g → g < w.heap.size := fun g e => HR.out.lt g e
  have h5b : w5.heap[b]? = some (.cells #[v, .map (some m)] t (0, 0)) := cells_at (cells_at hB4 (World.grownBy_alloc w4 (.cells #[.string k] 9) none) (by simp)) hg5 (fun e => HVB.out e.symm)
  have h5g : w5.heap[g1]? = some (.cells #[.bool false] 4 (0, 0)) := cells_at (cells_at (cells_at (cells_at h1.out.2.1 (gb_at h3.out) (by simp)) hgrow4 (by simp; omega)) (World.grownBy_alloc w4 (.cells #[.string k] 9) none) (by simp)) hg5 (fun e => by have := hv0 g1 e.symm; omega)
  have hvb : (Value.slice ao (l.length + 1) cap).ownBlock ≠ some b := fun e => by
    rcases hloc with q | q
    · rw [q] at e; exact HVB.out e
    · rw [q] at e; simp at e; omega
  have hvg : (Value.slice ao (l.length + 1) cap).ownBlock ≠ some g1 := fun e => by
    rcases hloc with q | q
    · rw [q] at e; have := hv0 g1 e; omega
    · rw [q] at e; simp at e; omega
  have hvm : (Value.slice ao (l.length + 1) cap).ownBlock ≠ some m := fun e => by
    rcases hloc with q | q
    · rw [q] at e; exact HVM.out e
    · rw [q] at e; simp at e; omega
  have hown5 : w5.ownsMap Tryd.prog 9 unitElem m (N + 1) (D.put (lk k) (.agg [])) := (World.ownsMap.kept (World.ownsMap.kept hown4 (World.grownBy_alloc w4 (.cells #[.string k] 9) none) (by simp)) hg5 (fun e => HVM.out e.symm))
  have hc5 : Chg (fun j => j = b ∨ j = m ∨ v.ownBlock = some j) w w5 :=
    (((Chg.gb0 G3).then hgrow4 fun j _ e => .inr (.inl (by simpa using e))).then (World.grownBy_alloc w4 (.cells #[.string k] 9) none) fun j _ e => by simp at e).then hg5 fun j _ e => .inr (.inr e.symm)
  have hd : QueD (N + 1) (l ++ [k]) (D.put (lk k) (.agg [])) := HH.out.dat.put hin (N + 1)
  have hr5' : RowW w5 9 1 (.slice ao (l.length + 1) cap) (l ++ [k]).length ((l ++ [k]).map Value.string) := by simpa using hr5
  obtain ⟨hq, hcq⟩ := que_done hbw hg1w h5b hr5' hvb hvg hvm HMB.out (by omega) hown5 hd hc5 (.inl rfl)
  have p0 : w5.cell? ⟨b, 0, none⟩ = some v := (cell_of_row w5 b 0 _ _ _ h5b).trans rfl
  have p1 : w5.frozen? ⟨b, 0, none⟩ = false := by simp [World.frozen?, h5b]
  obtain ⟨p2, p3⟩ := at0 h5g
  have hgb : ¬ (g1 = b) := by omega
  have hQ := hide (⟨hq, hcq⟩ : _ ∧ _)
  have hL := hide hloc
  have HW4 := hide hw4
  clear hq hcq hloc hc5 hd hr5 hr5' hvb hvg hvm hown5 hg5 hg14 hw4 hv0 hgrow4 hB4 hmw hbw hg1w
  go_wp2
  refine leaves_cons (f := 46) (args := #[.pointer (some ⟨g1, 0, none⟩)]) (by simp) (by simp [go_sem]) ?_
  refine (idle46 ⟨g1, 0, none⟩ _).mono ?_
  rintro e u' w'' ⟨rfl, rfl, rfl⟩
  simp [Leaves, settle, results, Tryd.results30, go_sem, p2]
  exact ⟨_, hL.out.imp id (fun e => ⟨_, e, by have := HW4.out; omega⟩), hQ.out⟩
/-- A map laid in a struct's field. -/
theorem laid_map (w3 : World) (b : Nat) (v : Value) (c : Value) (t : TypeId) (K : TypeId) (R : Value → Option (DT × List MemPlace)) (hb : w3.heap[b]? = some (.cells #[v, c] t (0, 0))) :
    ((w3.alloc (.map #[] 0)).setCell ⟨b, 1, none⟩ (.map (some w3.heap.size))).ownsMap Tryd.prog K R w3.heap.size 0 (.map []) ∧
    ((w3.alloc (.map #[] 0)).setCell ⟨b, 1, none⟩ (.map (some w3.heap.size))).heap[b]? = some (.cells #[v, .map (some w3.heap.size)] t (0, 0)) ∧
    w3.grownBy ((w3.alloc (.map #[] 0)).setCell ⟨b, 1, none⟩ (.map (some w3.heap.size))) (some b) := by
  have hbl := (Array.getElem?_eq_some_iff.1 hb).1
  refine ⟨World.ownsMap.setCell (World.ownsMap_made (H := Unit) w3 Tryd.prog K R) (by simp only; omega) _, ?_, (gb_any (World.grownBy_alloc w3 _ none)).trans (gb_set _ b 1 _)⟩
  have := cells_at hb (World.grownBy_alloc w3 (.map #[] 0) none) (by simp)
  simp [World.setCell, Array.getElem?_modify, this]
set_option maxHeartbeats 4000000 in
set_option maxRecDepth 100000 in
theorem qput_none (b N : Nat) (v : Value) (l : List ByteArray) (D : DT) (k : ByteArray) (w : World) (h : QueV w b v none N l D) (hk : k.size ≤ maxLen) :
    Calls Tryd.prog 30 #[.pointer (some ⟨b, 0, none⟩), .string k] w fun e w' => l = [] ∧ e = .returned (.bool true) ∧ ∃ v' m, w.heap.size ≤ m ∧ (v'.ownBlock = v.ownBlock ∨ ∃ g, v'.ownBlock = some g ∧ w.heap.size ≤ g) ∧ QueV w' b v' (some m) (N + 1) (l ++ [k]) (D.put (lk k) (.agg [])) ∧ Chg (fun j => j = b ∨ v.ownBlock = some j) w w' := by
  obtain ⟨i0, hi, hz0, hz1, hz2⟩ := info_parts info9
  obtain ⟨t, ht⟩ := h.cell
  have c1 : Hid (w.cell? ⟨b, 1, none⟩ = some (.map none)) := hide ((cell_of_row w b 1 _ _ _ ht).trans rfl)
  obtain rfl := h.nil rfl
  have hl0 : l = [] := by
    cases l with
    | nil => rfl
    | cons x r => exact absurd ((h.dat.key x).2 (by simp)) (by simp [has])
  subst hl0
  have HR := hide h.row
  have HK := hide (lk_key hk)
  have HH := hide h
  have HT := hide ht
  have HVB := hide h.rne
  have hmf : ∀ (fn : Fn) (first cap : Array Value) (w : World), (Instr.makeFunc fn first cap).run Tryd.prog w = .ok (.func fn first cap) w := fun _ _ _ _ => rfl
  have hnil := fun W => run_eql_map_nil (P := Tryd.prog) W none Tryd.underlying67
  have hrun := fun W => look_nil (w := W) true key9 Tryd.underlying67 (zero92 W) HK.out
  clear h ht
  go_enter_defers Tryd.func30, Tryd.ntmps30
  have hmm := @run_makeMap Tryd.prog
  go_wp2_with (first | (refine wpList_newv 4 rfl rfl 4 rfl (.bool false) zero4 ?_; intro g1 w1 h1; have c1' := cellw (gb_at h1.out) c1.out) | (go_at_call 47; refine (found47 k _).mono ?_; rintro e w2 ⟨rfl, hw1⟩; subst hw1) | (refine wpList_newv 5 rfl rfl 92 rfl (.agg #[]) zero92 ?_; intro g2 w3 h3; have c1'' := cellw (gb_at h3.out) c1'; have hB3 := hide (cells_at HT.out ((gb_at h1.out).trans (gb_at h3.out)) (by simp)); have hB3a := cells_at hB3.out (World.grownBy_alloc w3 (.map #[] 0) none) (by simp); have f1a := fz hB3a 1; have c1a : (w3.alloc (.map #[] 0)).cell? ⟨b, 1, none⟩ = some (.map none) := (cell_of_row _ b 1 _ _ _ hB3a).trans rfl; clear hB3a) | (at_mapUpdate; refine wpList_mapUpdate_own _ rfl _ _ _ 67 rfl 9 92 key9 Tryd.underlying67 (unitElem (H := Unit)) w3.heap.size 0 (.map []) rfl (laid_map w3 b v _ t 9 unitElem hB3.out).1 (by unfold maxLen; omega) _ _ _ rfl rfl HK.out _ [] unitElem_mk ?_; intro w4 hown4 hgrow4; have hB4 := cells_at (laid_map w3 b v _ t 9 unitElem hB3.out).2.1 hgrow4 (by have := (Array.getElem?_eq_some_iff.1 hB3.out).1; simp; omega); have e0 : w4.cell? ⟨b, 0, none⟩ = some v := (cell_of_row w4 b 0 _ _ _ hB4).trans rfl) | (at_builtin; go_must (refine wpList_append_row _ rfl (.tmp 39) (.tmp 41) 46 rfl 9 i0 (.string ⟨#[]⟩) 1 16 Tryd.underlying46 hi hz0 hz1 hz2 rfl (by decide) v 0 [] rfl ?c0 ⟨w4.heap.size, 0, none⟩ 1 1 [.string k] rfl (by decide) rfl ?c1 ?c2 ?c3 ?c4 ?_)))
  case c0 =>
    have q := ((HR.out.chg (Chg.of_gb ((gb_at h1.out).trans (gb_at h3.out))) (fun _ _ e => by simp at e)).chg (Chg.of_gb (laid_map w3 b v _ t 9 unitElem hB3.out).2.2) (fun g e1 e2 => HVB.out (by rw [e1, e2])))
    refine (q.chg (Chg.of_gb hgrow4) (fun g e1 e2 => ?_)).chg (Chg.of_gb (World.grownBy_alloc _ _ none)) (fun _ _ e => by simp at e)
    have h0 := HR.out.lt g e1
    have := ((gb_at h1.out).trans (gb_at h3.out)).size
    simp at e2
    omega
  case c1 =>
    intro j u hj
    match j, hj with
    | 0, hj => simp at hj; subst hj; simp [Addr.add]
  case c2 => intro u hu; simp at hu; subst hu; rfl
  case c3 => unfold maxLen; omega
  case c4 => omega
  intro v' w5 hr5 hg5 hloc
  obtain ⟨ao, cap, rfl⟩ := hr5.slice
  have hbw : b < w.heap.size := (Array.getElem?_eq_some_iff.1 HT.out).1
  have G3 := (gb_at h1.out).trans (gb_at h3.out)
  have L4 := laid_map w3 b v _ t 9 unitElem hB3.out
  have hg1w := h1.out.1
  have hg13 : g1 < w3.heap.size := by
    have := (Array.getElem?_eq_some_iff.1 h1.out.2.1).1
    have := h3.out.2.2.size
    omega
  have hw34 : w3.heap.size < w4.heap.size := by
    have := World.ownsMap.lt hown4
    exact this
  have hw4 : w.heap.size ≤ w4.heap.size := by have := G3.size; omega
  have hv0 : ∀ g, v.ownBlock = some g → g < w.heap.size := fun g e => HR.out.lt g e
  have hw3 := G3.size
  have h5b : w5.heap[b]? = some (.cells #[v, .map (some w3.heap.size)] t (0, 0)) := cells_at (cells_at hB4 (World.grownBy_alloc w4 (.cells #[.string k] 9) none) (by simp)) hg5 (fun e => HVB.out e.symm)
  have h5g : w5.heap[g1]? = some (.cells #[.bool false] 4 (0, 0)) := cells_at (cells_at (cells_at (cells_at (cells_at h1.out.2.1 (gb_at h3.out) (by simp)) L4.2.2 (by simp; omega)) hgrow4 (by simp; omega)) (World.grownBy_alloc w4 (.cells #[.string k] 9) none) (by simp)) hg5 (fun e => by have := hv0 g1 e.symm; omega)
  have hvb : (Value.slice ao (0 + 1) cap).ownBlock ≠ some b := fun e => by
    rcases hloc with q | q
    · rw [q] at e; exact HVB.out e
    · rw [q] at e; simp at e; omega
  have hvg : (Value.slice ao (0 + 1) cap).ownBlock ≠ some g1 := fun e => by
    rcases hloc with q | q
    · rw [q] at e; have := hv0 g1 e; omega
    · rw [q] at e; simp at e; omega
  have hvm : (Value.slice ao (0 + 1) cap).ownBlock ≠ some w3.heap.size := fun e => by
    rcases hloc with q | q
    · rw [q] at e; have := hv0 _ e; omega
    · rw [q] at e; simp at e; omega
  have hown5 : w5.ownsMap Tryd.prog 9 unitElem w3.heap.size (N + 1) ((DataW.map []).put (lk k) (.agg [])) := World.ownsMap.mono (World.ownsMap.kept (World.ownsMap.kept hown4 (World.grownBy_alloc w4 (.cells #[.string k] 9) none) (by simp)) hg5 (fun e => by have := hv0 _ e.symm; omega)) (by omega)
  have hc5 : Chg (fun j => j = b ∨ v.ownBlock = some j) w w5 :=
    ((((Chg.gb0 G3).then L4.2.2 fun j _ e => .inl (by simpa using e)).then hgrow4 fun j hj e => by simp at e; omega).then (World.grownBy_alloc w4 (.cells #[.string k] 9) none) fun j _ e => by simp at e).then hg5 fun j _ e => .inr e.symm
  have hd : QueD (N + 1) ([] ++ [k]) ((DataW.map []).put (lk k) (.agg [])) := HH.out.dat.put (by simp) (N + 1)
  have hr5' : RowW w5 9 1 (.slice ao (0 + 1) cap) ([] ++ [k]).length (([] ++ [k]).map Value.string) := by simpa using hr5
  obtain ⟨hq, hcq⟩ := que_done hbw hg1w h5b hr5' hvb hvg hvm (by omega) (by omega) hown5 hd hc5 (.inl rfl)
  have p0 : w5.cell? ⟨b, 0, none⟩ = some v := (cell_of_row w5 b 0 _ _ _ h5b).trans rfl
  have p1 : w5.frozen? ⟨b, 0, none⟩ = false := fz h5b 0
  obtain ⟨p2, p3⟩ := at0 h5g
  have hgb : ¬ (g1 = b) := by omega
  have hQ := hide (⟨hq, hcq⟩ : _ ∧ _)
  have hL := hide hloc
  have HW4 := hide hw4
  have HW3 := hide hw3
  clear hq hcq hloc hc5 hd hr5 hr5' hvb hvg hvm hown5 hg5 hg13 hw34 hw4 hw3 hv0 hgrow4 hB4 hbw hg1w hown4 L4
  go_wp2
  refine leaves_cons (f := 46) (args := #[.pointer (some ⟨g1, 0, none⟩)]) (by simp) (by simp [go_sem]) ?_
  refine (idle46 ⟨g1, 0, none⟩ _).mono ?_
  rintro e u' w'' ⟨rfl, rfl, rfl⟩
  simp [Leaves, settle, results, Tryd.results30, go_sem, p2]
  exact ⟨_, w3.heap.size, HW3.out, hL.out.imp id (fun e => ⟨_, e, by have := HW4.out; simp; omega⟩), hQ.out⟩
/-- Put: one that is there already; another one. -/
theorem qput_any (b N : Nat) (v : Value) (mo : Option Nat) (l : List ByteArray) (D : DT) (k : ByteArray) (w : World) (h : QueV w b v mo N l D) (hk : k.size ≤ maxLen) (hN : N < maxLen) (hl : l.length ≤ 1000000) :
    (k ∈ l → Calls Tryd.prog 30 #[.pointer (some ⟨b, 0, none⟩), .string k] w fun e w' => e = .returned (.bool false) ∧ w.grownBy w' none) ∧
    (¬ k ∈ l → Calls Tryd.prog 30 #[.pointer (some ⟨b, 0, none⟩), .string k] w fun e w' => e = .returned (.bool true) ∧ ∃ v' m, (mo = some m ∨ w.heap.size ≤ m) ∧ (v'.ownBlock = v.ownBlock ∨ ∃ g, v'.ownBlock = some g ∧ w.heap.size ≤ g) ∧ QueV w' b v' (some m) (N + 1) (l ++ [k]) (D.put (lk k) (.agg [])) ∧ Chg (fun j => j = b ∨ mo = some j ∨ v.ownBlock = some j) w w') := by
  cases mo with
  | some m =>
    refine ⟨fun hin => qput_old b m N v l D k w h hk hin, fun hin => (qput_some b m N v l D k w h hk hin hN hl).mono ?_⟩
    rintro e w' ⟨rfl, v', h1, h2, h3⟩
    exact ⟨rfl, v', m, .inl rfl, h1, h2, h3.mono fun j _ e => by rcases e with e | e | e; exact .inl e; exact .inr (.inl (by rw [e])); exact .inr (.inr e)⟩
  | none =>
    have hl0 : l = [] := by
      cases l with
      | nil => rfl
      | cons x r => exact absurd ((h.dat.key x).2 (by simp)) (by rw [h.nil rfl]; simp [has])
    refine ⟨fun hin => by rw [hl0] at hin; simp at hin, fun hin => (qput_none b N v l D k w h hk).mono ?_⟩
    rintro e w' ⟨_, rfl, v', m, h0, h1, h2, h3⟩
    exact ⟨rfl, v', m, .inr h0, h1, h2, h3.mono fun j _ e => by rcases e with e | e; exact .inl e; exact .inr (.inr e)⟩
end Go.Proofs.YtdeebmpmfedjbaaDoor
