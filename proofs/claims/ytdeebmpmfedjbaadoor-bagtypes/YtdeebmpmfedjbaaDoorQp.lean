/- Queues of pairs: Put, Len. -/
import Derived.Test.YtdeebmpmfedjbaaDoorRq
namespace Go.Proofs.YtdeebmpmfedjbaaDoor
open Go.RowKit Bag Go.Maps Go.WideMaps
theorem idle41 (p : Addr) (w : World) :
    CallsD Tryd.prog 41 #[.pointer (some p)] .returning w fun e u' w' => e = .returned (.tuple #[]) ∧ u' = .returning ∧ w' = w := by
  refine callsD_of_wpS Tryd.func41 rfl fun c₀ cs hu => ?_
  apply wpS_seq
  apply wpS_region
  simp [wpOpsS, go_sem, recoverD, hu, Tryd.ntmps41, Exit.thenS]
  refine wpS_cond (t := false) (by simp [Act.eval, Array.replicate]) ?_
  simp only [Bool.false_eq_true, if_false]
  refine wpS_of_wp (wp_skip ?_)
  cases c₀
  simp_all [bodyPostS, results, Tryd.results41]
def cellsP (l : List ByteArray) : List Value := l.flatMap fun k => [.string k, .string pv.kx2]
theorem cellsP_snoc (l : List ByteArray) (k : ByteArray) : cellsP (l ++ [k]) = cellsP l ++ [.string k, .string pv.kx2] := by simp [cellsP]
/-- What its map tells: just what is in the row. -/
structure QuePD (l : List ByteArray) (D : DT) : Prop where
  key : ∀ k, k.size ≤ maxLen → (has D (lp k) = true ↔ k ∈ l)
  map : IsMap D
  small : ∀ k ∈ l, k.size ≤ maxLen
/-- A queue of pairs in block b: its row, its map. -/
structure QueP (w : World) (b : Nat) (v : Value) (mo : Option Nat) (N : Nat) (l : List ByteArray) (D : DT) : Prop where
  cell : ∃ t, w.heap[b]? = some (.cells #[v, .map mo] t (0, 0))
  row : RowW w 60 2 v l.length (cellsP l)
  rne : v.ownBlock ≠ some b
  nil : mo = none → D = .map []
  own : ∀ m, mo = some m → m ≠ b ∧ v.ownBlock ≠ some m ∧ w.ownsMap Tryd.prog 60 unitElem m N D
  dat : QuePD l D
theorem QuePD.put {l : List ByteArray} {D : DT} (h : QuePD l D) {k : ByteArray} (hk : k.size ≤ maxLen) : QuePD (l ++ [k]) (D.put (lp k) (.agg [])) := by
  refine ⟨fun j hj => ?_, h.map.put _ _, fun j hj => ?_⟩
  · by_cases e : j = k
    · subst e
      simp [has_put_same h.map (by trivial : WideAt.IsKeyLit (lp j))]
    · rw [has_put_other (fun he => e (lp_inj hj hk he)), h.key j hj]
      simp [e]
  · rcases List.mem_append.1 hj with e | e
    · exact h.small j e
    · simp at e; subst e; exact hk
theorem look60 {w : World} {m N : Nat} {D : DT} {k : ByteArray} (h : w.ownsMap Tryd.prog 60 unitElem m N D) (hk : k.size ≤ maxLen) : (Instr.lookup 49 (.map (some m)) (pv k) true).run Tryd.prog w = .ok (.tuple #[.agg #[], .bool (has D (lp k))]) w := by
  obtain ⟨v, ps, h1, h2⟩ := h.look_ok key60 Tryd.underlying49 (zero92 w) unitElem_mk (lp_key hk)
  obtain ⟨rfl, _⟩ := unitElem_inv h2
  exact h1
set_option maxHeartbeats 4000000 in
set_option maxRecDepth 100000 in
theorem pput_old (b m N : Nat) (v : Value) (l : List ByteArray) (D : DT) (k : ByteArray) (w : World) (h : QueP w b v (some m) N l D) (hk : k.size ≤ maxLen) (hin : k ∈ l) :
    Calls Tryd.prog 25 #[.pointer (some ⟨b, 0, none⟩), pv k] w fun e w' => e = .returned (.bool false) ∧ w.grownBy w' none := by
  obtain ⟨t, ht⟩ := h.cell
  have c1 : Hid (w.cell? ⟨b, 1, none⟩ = some (.map (some m))) := hide ((cell_of_row w b 1 _ _ _ ht).trans rfl)
  have hhas : has D (lp k) = true := (h.dat.key k hk).2 hin
  have HO := hide (h.own m rfl).2.2
  have HH := hide hhas
  have hmf : ∀ (fn : Fn) (first cap : Array Value) (w : World), (Instr.makeFunc fn first cap).run Tryd.prog w = .ok (.func fn first cap) w := fun _ _ _ _ => rfl
  have HK := hide hk
  clear h ht hhas hk hin
  go_enter_defers Tryd.func25, Tryd.ntmps25
  go_wp2_with (first | (refine wpList_box' rfl 60 (.tmp 1) rfl _ rfl ?_; intro g3 w0 h0) | (refine wpList_newv 4 rfl rfl 4 rfl (.bool false) zero4 ?_; intro g1 w1 h1) | (refine wpList_load_row rfl 60 (.tmp 3) rfl g3 rfl 60 _ _ (cells_at h0.out.2.1 (gb_at h1.out) (by simp)) Tryd.underlying60 rfl info60 ?_) | (go_at_call 42; refine (found42 k _).mono ?_; rintro e w2 ⟨rfl, hg2⟩; have HG2 := hide hg2; clear hg2))
  have G := hide (((gb_at h0.out).trans (gb_at h1.out)).trans HG2.out)
  refine q3 b g3 w2.heap.size (some m) true k rfl rfl rfl rfl (cellw (gb_drew' G.out) c1.out) (cells_at (cells_at h0.out.2.1 (gb_at h1.out) (by simp)) (gb_drew' HG2.out) (by simp)) (fun W hW => by have := look60 (World.ownsMap.kept (World.ownsMap.kept HO.out G.out (by simp)) ((gb_drew w2 none).trans hW) (by simp)) HK.out; rw [HH.out] at this; exact this) (fun s hs => ?_)
  have G3' : w2.grownBy (w2.drew.alloc (.cells #[] 92)) none := (gb_drew w2 none).trans (World.grownBy_alloc w2.drew (.cells #[] 92) none)
  generalize w2.drew.alloc (.cells #[] 92) = W3 at *
  have G3 := hide G3'
  clear G3'
  simp [overlay, dstsOf, ops_q3, hs]
  obtain ⟨d0, d1⟩ := at0 (cells_at (cells_at h1.out.2.1 HG2.out (by simp)) G3.out (by simp))
  go_wp2
  refine leaves_cons (f := 41) (args := #[.pointer (some ⟨g1, 0, none⟩)]) (by simp) (by simp [go_sem]) ?_
  refine (idle41 ⟨g1, 0, none⟩ _).mono ?_
  rintro e u' w'' ⟨rfl, rfl, rfl⟩
  simp [Leaves, settle, results, Tryd.results25, go_sem, d0]
  exact (((gb_at h0.out).trans (gb_at h1.out)).trans (HG2.out.trans G3.out)).andThen (gb_set _ _ _ _) (fun j e => by cases e; exact .inl (by rw [h1.out.1]; exact (gb_at h0.out).size))
theorem info60z : (Tryd.prog.info? 60).map (fun i => (i.zero, i.size, i.bytes)) = some (some (.agg #[.string ⟨#[]⟩, .string ⟨#[]⟩]), 2, 32) := by kernel_rfl
/-- What is behind the two stores of a Put. -/
theorem queP_done {w w5 : World} {b g1 m M : Nat} {v v' : Value} {t : TypeId} {l : List ByteArray} {D : DT} {S : Nat → Prop} (hb : b < w.heap.size) (hg1 : w.heap.size ≤ g1) (h5b : w5.heap[b]? = some (.cells #[v, .map (some m)] t (0, 0)))
    (hr : RowW w5 60 2 v' l.length (cellsP l)) (hvb : v'.ownBlock ≠ some b) (hvg : v'.ownBlock ≠ some g1) (hvm : v'.ownBlock ≠ some m) (hmb : m ≠ b) (hmg : m ≠ g1) (hown : w5.ownsMap Tryd.prog 60 unitElem m M D) (hd : QuePD l D) (hc : Chg S w w5) (hS : S b) :
    QueP ((w5.setCell ⟨b, 0, none⟩ v').setCell ⟨g1, 0, none⟩ (.bool true)) b v' (some m) M l D ∧ Chg S w ((w5.setCell ⟨b, 0, none⟩ v').setCell ⟨g1, 0, none⟩ (.bool true)) := by
  have hne : b ≠ g1 := by omega
  have k1 : Chg (fun j => j = b) w5 (w5.setCell ⟨b, 0, none⟩ v') := (Chg.of_gb (gb_set w5 b 0 v')).mono fun _ _ e => by simpa using e
  have k2 : Chg (fun j => j = g1) (w5.setCell ⟨b, 0, none⟩ v') ((w5.setCell ⟨b, 0, none⟩ v').setCell ⟨g1, 0, none⟩ (.bool true)) := (Chg.of_gb (gb_set _ g1 0 _)).mono fun _ _ e => by simpa using e
  have k3 : Chg (fun j => j = b ∨ j = g1) w5 ((w5.setCell ⟨b, 0, none⟩ v').setCell ⟨g1, 0, none⟩ (.bool true)) := (k1.mono fun _ _ e => .inl e).trans k2 fun _ _ e => .inr e
  have hown' := map_chg hown k3 (by simp [hmb, hmg])
  refine ⟨⟨⟨t, ?_⟩, ?_, hvb, fun e => by simp at e, fun m' e => by cases e; exact ⟨hmb, hvm, hown'⟩, hd⟩, hc.trans k3 fun j hj e => ?_⟩
  · rw [Below.heap_setCell _ _ _ _ hne]
    simp [World.setCell, Array.getElem?_modify, h5b]
  · exact hr.chg k3 fun g e1 e2 => by rcases e2 with e2 | e2 <;> (rw [e2] at e1; first | exact hvb e1 | exact hvg e1)
  · rcases e with e | e
    · rw [e]; exact hS
    · omega
set_option maxHeartbeats 4000000 in
set_option maxRecDepth 100000 in
theorem pput_some (b m N : Nat) (v : Value) (l : List ByteArray) (D : DT) (k : ByteArray) (w : World) (h : QueP w b v (some m) N l D) (hk : k.size ≤ maxLen) (hin : ¬ k ∈ l) (hN : N < maxLen) (hl : l.length ≤ 1000000) :
    Calls Tryd.prog 25 #[.pointer (some ⟨b, 0, none⟩), pv k] w fun e w' => e = .returned (.bool true) ∧ ∃ v', (v'.ownBlock = v.ownBlock ∨ ∃ g, v'.ownBlock = some g ∧ w.heap.size ≤ g) ∧ QueP w' b v' (some m) (N + 1) (l ++ [k]) (D.put (lp k) (.agg [])) ∧ Chg (fun j => j = b ∨ j = m ∨ v.ownBlock = some j) w w' := by
  obtain ⟨i0, hi, hz0, hz1, hz2⟩ := info_parts info60z
  obtain ⟨ao, cap, rfl⟩ := h.row.slice
  obtain ⟨t, ht⟩ := h.cell
  have c1 : Hid (w.cell? ⟨b, 1, none⟩ = some (.map (some m))) := hide ((cell_of_row w b 1 _ _ _ ht).trans rfl)
  have hhas : has D (lp k) = false := by cases e : has D (lp k); rfl; exact absurd ((h.dat.key k hk).1 e) hin
  have HO := hide (h.own m rfl).2.2
  have HR := hide h.row
  have HH := hide h
  have HT := hide ht
  have HA := hide hhas
  have HMB := hide (h.own m rfl).1
  have HVM := hide (h.own m rfl).2.1
  have HVB := hide h.rne
  have HK := hide hk
  have HN := hide hN
  have HL := hide hl
  have hmf : ∀ (fn : Fn) (first cap : Array Value) (w : World), (Instr.makeFunc fn first cap).run Tryd.prog w = .ok (.func fn first cap) w := fun _ _ _ _ => rfl
  have hnil := fun W => run_eql_map_nil (P := Tryd.prog) W (some m) Tryd.underlying49
  clear h ht hhas hk hin hN hl
  go_enter_defers Tryd.func25, Tryd.ntmps25
  go_wp2_with (first | (refine wpList_box' rfl 60 (.tmp 1) rfl _ rfl ?_; intro g3 w0 h0) | (refine wpList_newv 4 rfl rfl 4 rfl (.bool false) zero4 ?_; intro g1 w1 h1) | (refine wpList_load_row rfl 60 (.tmp 3) rfl g3 rfl 60 _ _ (cells_at h0.out.2.1 (gb_at h1.out) (by simp)) Tryd.underlying60 rfl info60 ?_) | (go_at_call 42; refine (found42 k _).mono ?_; rintro e w2 ⟨rfl, hg2⟩; have HG2 := hide hg2; clear hg2))
  have G := hide (((gb_at h0.out).trans (gb_at h1.out)).trans HG2.out)
  refine q3 b g3 w2.heap.size (some m) false k rfl rfl rfl rfl (cellw (gb_drew' G.out) c1.out) (cells_at (cells_at h0.out.2.1 (gb_at h1.out) (by simp)) (gb_drew' HG2.out) (by simp)) (fun W hW => by have := look60 (World.ownsMap.kept (World.ownsMap.kept HO.out G.out (by simp)) ((gb_drew w2 none).trans hW) (by simp)) HK.out; rw [HA.out] at this; exact this) (fun s hs => ?_)
  have G3' : w2.grownBy (w2.drew.alloc (.cells #[] 92)) none := (gb_drew w2 none).trans (World.grownBy_alloc w2.drew (.cells #[] 92) none)
  generalize w2.drew.alloc (.cells #[] 92) = W3 at *
  have G3 := hide G3'
  clear G3'
  simp [overlay, dstsOf, ops_q3, hs]
  have GW3 := hide (G.out.trans G3.out)
  have hB3 := hide (cells_at HT.out GW3.out (by simp))
  have hX3 := hide (cells_at (cells_at (cells_at h0.out.2.1 (gb_at h1.out) (by simp)) HG2.out (by simp)) G3.out (by simp))
  have hg13 := hide (cells_at (cells_at h1.out.2.1 HG2.out (by simp)) G3.out (by simp))
  have c3 : W3.cell? ⟨b, 1, none⟩ = some (.map (some m)) := cellw GW3.out c1.out
  go_wp2_with fail
  obtain ⟨w4, hupd, hown4, hturn4⟩ := (World.ownsMap.kept (World.ownsMap.kept HO.out GW3.out (by simp)) (gb_drew W3 none) (by simp)).store key60 Tryd.underlying49 HN.out (lp_key HK.out) unitElem_mk
  have HG4 := hide ((gb_drew W3 (some m)).trans hturn4.grown)
  have HO4 := hide hown4
  have HU := hide hupd
  clear hown4 hturn4 hupd c3
  have hg3w := hide h0.out.1
  have hmw := hide (World.ownsMap.lt HO.out)
  refine q8 b g3 m k rfl rfl rfl w4 (cellw (gb_drew' GW3.out) c1.out) (cells_at hX3.out (gb_drew W3 none) (by simp)) HU.out (fun s2 => ?_)
  simp [overlay, dstsOf, ops_q8]
  go_wp2_with fail
  have hB4 := hide (cells_at hB3.out HG4.out (by have := HMB.out; simp; omega))
  have hX4 := hide (cells_at hX3.out HG4.out (by have := hg3w.out; have := hmw.out; simp; omega))
  have hR4 := hide ((HR.out.chg (Chg.of_gb GW3.out) (fun _ _ e => by simp at e)).chg (Chg.of_gb HG4.out) (fun g e1 e2 => HVM.out (by rw [e1, ← e2])))
  have HMG := hide (show m ≠ g1 by have := hmw.out; have := h1.out.1; have := (gb_at h0.out).size; omega)
  have hc4 : Hid (Chg (fun j => j = b ∨ j = m ∨ (Value.slice ao l.length cap).ownBlock = some j) w w4) := hide (((Chg.gb0 GW3.out).then HG4.out fun j _ e => .inr (.inl (by simpa using e))))
  have hSv : Hid (∀ j, some j = (Value.slice ao l.length cap).ownBlock → (j = b ∨ j = m ∨ (Value.slice ao l.length cap).ownBlock = some j)) := hide fun j e => .inr (.inr e.symm)
  have hSb : Hid (b = b ∨ b = m ∨ (Value.slice ao l.length cap).ownBlock = some b) := hide (.inl rfl)
  have HD := hide HH.out.dat
  have hX4d : (w4.drew.alloc (.cells #[.string k, .string pv.kx2] 60)).heap[w4.heap.size]? = some (.cells #[.string k, .string pv.kx2] 60 (0, 0)) := heap_alloc_new w4.drew _
  obtain ⟨v5, w5, happ, hr5, hg5, hloc⟩ := run_append_row (P := Tryd.prog) (w4.drew.alloc (.cells #[.string k, .string pv.kx2] 60)) 48 48 60 i0 (.agg #[.string ⟨#[]⟩, .string ⟨#[]⟩]) 2 32 Tryd.underlying48 hi hz0 hz1 hz2 rfl (by decide) _ l.length (cellsP l) ((hR4.out.chg (Chg.of_gb (gb_drew w4 none)) (fun _ _ e => by simp at e)).chg (Chg.of_gb (World.grownBy_alloc w4.drew _ none)) (fun _ _ e => by simp at e)) ⟨w4.heap.size, 0, none⟩ 1 1 (by decide) [.string k, .string pv.kx2] rfl (by
    intro j u hj
    match j, hj with
    | 0, hj => simp at hj; subst hj; exact (cell_of_row _ _ 0 _ _ _ hX4d).trans rfl
    | 1, hj => simp at hj; subst hj; exact (cell_of_row _ _ 1 _ _ _ hX4d).trans rfl) (by intro u hu; simp at hu; rcases hu with rfl | rfl <;> rfl) (by have := HL.out; unfold maxLen; omega) (by have := HL.out; omega)
  obtain ⟨ao5, c5, rfl⟩ := hr5.slice
  have h5b := cells_at (cells_at (cells_at hB4.out (gb_drew w4 none) (by simp)) (World.grownBy_alloc w4.drew (.cells #[.string k, .string pv.kx2] 60) none) (by simp)) hg5 (fun e => HVB.out e.symm)
  have hv0 : ∀ g, (Value.slice ao l.length cap).ownBlock = some g → g < w.heap.size := fun g e => HR.out.lt g e
  have hw13 := h1.out.1
  have hw0 := h0.out.1
  have hw0s := (gb_at h0.out).size
  have hmne : m ≠ g1 := HMG.out
  have h4g := cells_at hg13.out HG4.out (by have := HMG.out; simp; omega)
  have h5g : w5.heap[g1]? = some (.cells #[.bool false] 4 (0, 0)) := cells_at (cells_at (cells_at h4g (gb_drew w4 none) (by simp)) (World.grownBy_alloc w4.drew (.cells #[.string k, .string pv.kx2] 60) none) (by simp)) hg5 (fun e => by have := hv0 g1 e.symm; omega)
  have hw34 : w.heap.size ≤ w4.heap.size := Nat.le_trans GW3.out.size HG4.out.size
  have hg14 : g1 < w4.heap.size := (Array.getElem?_eq_some_iff.1 h4g).1
  have hm4 : m < w4.heap.size := World.ownsMap.lt HO4.out
  have hvb : (Value.slice ao5 (l.length + 1) c5).ownBlock ≠ some b := fun e => by
    rcases hloc with q | q
    · rw [q] at e; exact HVB.out e
    · rw [q] at e; have := (Array.getElem?_eq_some_iff.1 HT.out).1; simp at e; omega
  have hvg : (Value.slice ao5 (l.length + 1) c5).ownBlock ≠ some g1 := fun e => by
    rcases hloc with q | q
    · rw [q] at e; have := hv0 g1 e; omega
    · rw [q] at e; simp at e; omega
  have hvm : (Value.slice ao5 (l.length + 1) c5).ownBlock ≠ some m := fun e => by
    rcases hloc with q | q
    · rw [q] at e; exact HVM.out e
    · rw [q] at e; simp at e; omega
  have hown5 := (World.ownsMap.kept (World.ownsMap.kept (World.ownsMap.kept HO4.out (gb_drew w4 none) (by simp)) (World.grownBy_alloc w4.drew (.cells #[.string k, .string pv.kx2] 60) none) (by simp)) hg5 (fun e => HVM.out e.symm))
  have hc5 := ((hc4.out.then (gb_drew w4 none) fun j _ e => by simp at e).then (World.grownBy_alloc w4.drew (.cells #[.string k, .string pv.kx2] 60) none) fun j _ e => by simp at e).then hg5 fun j _ e => hSv.out j e
  have hr5' : RowW w5 60 2 (.slice ao5 (l.length + 1) c5) (l ++ [k]).length (cellsP (l ++ [k])) := by rw [cellsP_snoc]; simpa using hr5
  obtain ⟨hq, hcq⟩ := queP_done (Array.getElem?_eq_some_iff.1 HT.out).1 (show w.heap.size ≤ g1 by omega) h5b hr5' hvb hvg hvm HMB.out hmne hown5 (HD.out.put HK.out) hc5 hSb.out
  have hQ := hide (And.intro hq hcq)
  have hL : Hid ((Value.slice ao5 (l.length + 1) c5).ownBlock = (Value.slice ao l.length cap).ownBlock ∨ ∃ g, (Value.slice ao5 (l.length + 1) c5).ownBlock = some g ∧ w.heap.size ≤ g) := hide (hloc.imp id fun e => ⟨_, e, by simp; omega⟩)
  have h9g := cells_at h5g (gb_set w5 b 0 (.slice ao5 (l.length + 1) c5)) (by simp; have := (Array.getElem?_eq_some_iff.1 HT.out).1; omega)
  refine q9 b g3 w4.heap.size k ao l.length cap ao5 _ c5 rfl rfl rfl w5 rfl ((cell_of_row w4 b 0 _ _ _ hB4.out).trans rfl) (cells_at hX4.out (gb_drew w4 none) (by simp)) happ ((cell_of_row _ b 0 _ _ _ h5b).trans rfl) (fz h5b 0) (fun s3 => ?_)
  obtain ⟨p2, p3⟩ := at0 h9g
  clear hq hcq hloc hc5 hr5 hr5' hvb hvg hvm hown5 hg5 hg14 hw34 hm4 hv0 hw13 hw0 hw0s hmne h4g h5b h5g h9g happ hX4d
  generalize w5.setCell ⟨b, 0, none⟩ (.slice ao5 (l.length + 1) c5) = W9 at *
  simp [overlay, dstsOf, ops_q9]
  go_wp2
  refine leaves_cons (f := 41) (args := #[.pointer (some ⟨g1, 0, none⟩)]) (by simp) (by simp [go_sem]) ?_
  refine (idle41 ⟨g1, 0, none⟩ _).mono ?_
  rintro e u' w'' ⟨rfl, rfl, rfl⟩
  simp [Leaves, settle, results, Tryd.results25, go_sem, p2]
  exact ⟨_, hL.out, hQ.out⟩
set_option maxHeartbeats 4000000 in
set_option maxRecDepth 100000 in
theorem pput_none (b N : Nat) (v : Value) (l : List ByteArray) (D : DT) (k : ByteArray) (w : World) (h : QueP w b v none N l D) (hk : k.size ≤ maxLen) :
    Calls Tryd.prog 25 #[.pointer (some ⟨b, 0, none⟩), pv k] w fun e w' => l = [] ∧ e = .returned (.bool true) ∧ ∃ v' m, w.heap.size ≤ m ∧ (v'.ownBlock = v.ownBlock ∨ ∃ g, v'.ownBlock = some g ∧ w.heap.size ≤ g) ∧ QueP w' b v' (some m) (N + 1) (l ++ [k]) (D.put (lp k) (.agg [])) ∧ Chg (fun j => j = b ∨ v.ownBlock = some j) w w' := by
  obtain ⟨i0, hi, hz0, hz1, hz2⟩ := info_parts info60z
  obtain ⟨ao, cap, rfl⟩ := h.row.slice
  obtain ⟨t, ht⟩ := h.cell
  have c1 : Hid (w.cell? ⟨b, 1, none⟩ = some (.map none)) := hide ((cell_of_row w b 1 _ _ _ ht).trans rfl)
  obtain rfl := h.nil rfl
  have HL0 : Hid (l = []) := hide (by
    cases l with
    | nil => rfl
    | cons x r => exact absurd ((h.dat.key x (h.dat.small x (by simp))).2 (by simp)) (by simp [has]))
  have HR := hide h.row
  have HH := hide h
  have HT := hide ht
  have HVB := hide h.rne
  have HK := hide hk
  have HL : Hid (l.length ≤ 1000000) := hide (by rw [HL0.out]; simp)
  have hmf : ∀ (fn : Fn) (first cap : Array Value) (w : World), (Instr.makeFunc fn first cap).run Tryd.prog w = .ok (.func fn first cap) w := fun _ _ _ _ => rfl
  have hnil := fun W => run_eql_map_nil (P := Tryd.prog) W none Tryd.underlying49
  have hmm := @run_makeMap Tryd.prog
  clear h ht hk
  go_enter_defers Tryd.func25, Tryd.ntmps25
  go_wp2_with (first | (refine wpList_box' rfl 60 (.tmp 1) rfl _ rfl ?_; intro g3 w0 h0) | (refine wpList_newv 4 rfl rfl 4 rfl (.bool false) zero4 ?_; intro g1 w1 h1) | (refine wpList_load_row rfl 60 (.tmp 3) rfl g3 rfl 60 _ _ (cells_at h0.out.2.1 (gb_at h1.out) (by simp)) Tryd.underlying60 rfl info60 ?_) | (go_at_call 42; refine (found42 k _).mono ?_; rintro e w2 ⟨rfl, hg2⟩; have HG2 := hide hg2; clear hg2))
  have G := hide (((gb_at h0.out).trans (gb_at h1.out)).trans HG2.out)
  refine q3 b g3 w2.heap.size none false k rfl rfl rfl rfl (cellw (gb_drew' G.out) c1.out) (cells_at (cells_at h0.out.2.1 (gb_at h1.out) (by simp)) (gb_drew' HG2.out) (by simp)) (fun W hW => look_nil (w := W) true key60 Tryd.underlying49 (zero92 W) (lp_key HK.out)) (fun s hs => ?_)
  have G3' : w2.grownBy (w2.drew.alloc (.cells #[] 92)) none := (gb_drew w2 none).trans (World.grownBy_alloc w2.drew (.cells #[] 92) none)
  generalize w2.drew.alloc (.cells #[] 92) = W3 at *
  have G3 := hide G3'
  clear G3'
  simp [overlay, dstsOf, ops_q3, hs]
  have GW3 := hide (G.out.trans G3.out)
  have hB3 := hide (cells_at HT.out GW3.out (by simp))
  have hX3 := hide (cells_at (cells_at (cells_at h0.out.2.1 (gb_at h1.out) (by simp)) HG2.out (by simp)) G3.out (by simp))
  have hg13 := hide (cells_at (cells_at h1.out.2.1 HG2.out (by simp)) G3.out (by simp))
  have c3 : W3.cell? ⟨b, 1, none⟩ = some (.map none) := cellw GW3.out c1.out
  have hB3a := cells_at hB3.out (World.grownBy_alloc W3 (.map #[] 0) none) (by simp)
  have f1a := fz hB3a 1
  have c1a : (W3.alloc (.map #[] 0)).cell? ⟨b, 1, none⟩ = some (.map none) := (cell_of_row _ b 1 _ _ _ hB3a).trans rfl
  clear hB3a
  go_wp2_with fail
  have L7 := laid_map W3 b _ _ t 60 (unitElem (H := Unit)) hB3.out
  have hm3 : w.heap.size ≤ W3.heap.size := GW3.out.size
  have hx3 : g3 < W3.heap.size := (Array.getElem?_eq_some_iff.1 hX3.out).1
  have hg3' : g1 < W3.heap.size := (Array.getElem?_eq_some_iff.1 hg13.out).1
  generalize (W3.alloc (.map #[] 0)).setCell ⟨b, 1, none⟩ (.map (some W3.heap.size)) = W7 at *
  obtain ⟨m, hm⟩ : ∃ m, m = W3.heap.size := ⟨_, rfl⟩
  rw [← hm] at L7 hm3 hx3 hg3'
  rw [← hm]
  have HM3 := hide hm3
  have HMX := hide hx3
  have HMG := hide (show m ≠ g1 by omega)
  have HMB := hide (show m ≠ b by have := (Array.getElem?_eq_some_iff.1 HT.out).1; omega)
  have HVM := hide (show (Value.slice ao l.length cap).ownBlock ≠ some m from fun e => by have := HR.out.lt m e; omega)
  have HB7 := hide L7.2.1
  have HG7 := hide L7.2.2
  have HO7 := hide L7.1
  have hX7 := hide (cells_at hX3.out HG7.out (by have := h0.out.1; have := (Array.getElem?_eq_some_iff.1 HT.out).1; simp; omega))
  have hg17 := hide (cells_at hg13.out HG7.out (by have := h1.out.1; have := (gb_at h0.out).size; have := (Array.getElem?_eq_some_iff.1 HT.out).1; simp; omega))
  have GW7 : Hid (w.grownBy W7 (some b)) := hide (gb_then GW3.out HG7.out)
  have HR7 := hide (HR.out.chg (Chg.of_gb GW7.out) (fun g e1 e2 => HVB.out (by rw [e1, ← e2])))
  clear L7 hm3 hx3 hg3' c1a f1a c3 hg13 hX3 hB3 GW3
  obtain ⟨w4, hupd, hown4, hturn4⟩ := (World.ownsMap.kept HO7.out (gb_drew W7 none) (by simp)).store key60 Tryd.underlying49 (by unfold maxLen; omega) (lp_key HK.out) unitElem_mk
  have HG4 := hide ((gb_drew W7 (some m)).trans hturn4.grown)
  have HO4 := hide (World.ownsMap.mono hown4 (show 0 + 1 ≤ N + 1 by omega))
  have HU := hide hupd
  clear hown4 hturn4 hupd
  have hB3 := HB7
  have hX3 := hX7
  have hg13 := hg17
  have GW3 := GW7
  have hg3w := hide h0.out.1
  refine q8 b g3 m k rfl rfl rfl w4 ((cell_of_row W7 b 1 _ _ _ HB7.out).trans rfl) (cells_at hX3.out (gb_drew W7 none) (by simp)) HU.out (fun s2 => ?_)
  simp [overlay, dstsOf, ops_q8]
  go_wp2_with fail
  have hB4 := hide (cells_at hB3.out HG4.out (by have := HMB.out; simp; omega))
  have hX4 := hide (cells_at hX3.out HG4.out (by have := HMX.out; simp; omega))
  have hR4 := hide (HR7.out.chg (Chg.of_gb HG4.out) (fun g e1 e2 => HVM.out (by rw [e1, ← e2])))
  have hc4 : Hid (Chg (fun j => j = b ∨ (Value.slice ao l.length cap).ownBlock = some j) w w4) := hide ((((Chg.of_gb GW7.out).mono fun j _ e => .inl (by simpa using e))).then HG4.out fun j hj e => by have := HM3.out; simp at e; omega)
  have hSv : Hid (∀ j, some j = (Value.slice ao l.length cap).ownBlock → (j = b ∨ (Value.slice ao l.length cap).ownBlock = some j)) := hide fun j e => .inr e.symm
  have hSb : Hid (b = b ∨ (Value.slice ao l.length cap).ownBlock = some b) := hide (.inl rfl)
  have HD := hide HH.out.dat
  have hX4d : (w4.drew.alloc (.cells #[.string k, .string pv.kx2] 60)).heap[w4.heap.size]? = some (.cells #[.string k, .string pv.kx2] 60 (0, 0)) := heap_alloc_new w4.drew _
  obtain ⟨v5, w5, happ, hr5, hg5, hloc⟩ := run_append_row (P := Tryd.prog) (w4.drew.alloc (.cells #[.string k, .string pv.kx2] 60)) 48 48 60 i0 (.agg #[.string ⟨#[]⟩, .string ⟨#[]⟩]) 2 32 Tryd.underlying48 hi hz0 hz1 hz2 rfl (by decide) _ l.length (cellsP l) ((hR4.out.chg (Chg.of_gb (gb_drew w4 none)) (fun _ _ e => by simp at e)).chg (Chg.of_gb (World.grownBy_alloc w4.drew _ none)) (fun _ _ e => by simp at e)) ⟨w4.heap.size, 0, none⟩ 1 1 (by decide) [.string k, .string pv.kx2] rfl (by
    intro j u hj
    match j, hj with
    | 0, hj => simp at hj; subst hj; exact (cell_of_row _ _ 0 _ _ _ hX4d).trans rfl
    | 1, hj => simp at hj; subst hj; exact (cell_of_row _ _ 1 _ _ _ hX4d).trans rfl) (by intro u hu; simp at hu; rcases hu with rfl | rfl <;> rfl) (by have := HL.out; unfold maxLen; omega) (by have := HL.out; omega)
  obtain ⟨ao5, c5, rfl⟩ := hr5.slice
  have h5b := cells_at (cells_at (cells_at hB4.out (gb_drew w4 none) (by simp)) (World.grownBy_alloc w4.drew (.cells #[.string k, .string pv.kx2] 60) none) (by simp)) hg5 (fun e => HVB.out e.symm)
  have hv0 : ∀ g, (Value.slice ao l.length cap).ownBlock = some g → g < w.heap.size := fun g e => HR.out.lt g e
  have hw13 := h1.out.1
  have hw0 := h0.out.1
  have hw0s := (gb_at h0.out).size
  have hmne : m ≠ g1 := HMG.out
  have h4g := cells_at hg13.out HG4.out (by have := HMG.out; simp; omega)
  have h5g : w5.heap[g1]? = some (.cells #[.bool false] 4 (0, 0)) := cells_at (cells_at (cells_at h4g (gb_drew w4 none) (by simp)) (World.grownBy_alloc w4.drew (.cells #[.string k, .string pv.kx2] 60) none) (by simp)) hg5 (fun e => by have := hv0 g1 e.symm; omega)
  have hw34 : w.heap.size ≤ w4.heap.size := Nat.le_trans GW3.out.size HG4.out.size
  have hg14 : g1 < w4.heap.size := (Array.getElem?_eq_some_iff.1 h4g).1
  have hm4 : m < w4.heap.size := World.ownsMap.lt HO4.out
  have hvb : (Value.slice ao5 (l.length + 1) c5).ownBlock ≠ some b := fun e => by
    rcases hloc with q | q
    · rw [q] at e; exact HVB.out e
    · rw [q] at e; have := (Array.getElem?_eq_some_iff.1 HT.out).1; simp at e; omega
  have hvg : (Value.slice ao5 (l.length + 1) c5).ownBlock ≠ some g1 := fun e => by
    rcases hloc with q | q
    · rw [q] at e; have := hv0 g1 e; omega
    · rw [q] at e; simp at e; omega
  have hvm : (Value.slice ao5 (l.length + 1) c5).ownBlock ≠ some m := fun e => by
    rcases hloc with q | q
    · rw [q] at e; exact HVM.out e
    · rw [q] at e; simp at e; omega
  have hown5 := (World.ownsMap.kept (World.ownsMap.kept (World.ownsMap.kept HO4.out (gb_drew w4 none) (by simp)) (World.grownBy_alloc w4.drew (.cells #[.string k, .string pv.kx2] 60) none) (by simp)) hg5 (fun e => HVM.out e.symm))
  have hc5 := ((hc4.out.then (gb_drew w4 none) fun j _ e => by simp at e).then (World.grownBy_alloc w4.drew (.cells #[.string k, .string pv.kx2] 60) none) fun j _ e => by simp at e).then hg5 fun j _ e => hSv.out j e
  have hr5' : RowW w5 60 2 (.slice ao5 (l.length + 1) c5) (l ++ [k]).length (cellsP (l ++ [k])) := by rw [cellsP_snoc]; simpa using hr5
  obtain ⟨hq, hcq⟩ := queP_done (Array.getElem?_eq_some_iff.1 HT.out).1 (show w.heap.size ≤ g1 by omega) h5b hr5' hvb hvg hvm HMB.out hmne hown5 (HD.out.put HK.out) hc5 hSb.out
  have hQ := hide (And.intro hq hcq)
  have hL : Hid ((Value.slice ao5 (l.length + 1) c5).ownBlock = (Value.slice ao l.length cap).ownBlock ∨ ∃ g, (Value.slice ao5 (l.length + 1) c5).ownBlock = some g ∧ w.heap.size ≤ g) := hide (hloc.imp id fun e => ⟨_, e, by simp; omega⟩)
  have h9g := cells_at h5g (gb_set w5 b 0 (.slice ao5 (l.length + 1) c5)) (by simp; have := (Array.getElem?_eq_some_iff.1 HT.out).1; omega)
  refine q9 b g3 w4.heap.size k ao l.length cap ao5 _ c5 rfl rfl rfl w5 rfl ((cell_of_row w4 b 0 _ _ _ hB4.out).trans rfl) (cells_at hX4.out (gb_drew w4 none) (by simp)) happ ((cell_of_row _ b 0 _ _ _ h5b).trans rfl) (fz h5b 0) (fun s3 => ?_)
  obtain ⟨p2, p3⟩ := at0 h9g
  clear hq hcq hloc hc5 hr5 hr5' hvb hvg hvm hown5 hg5 hg14 hw34 hm4 hv0 hw13 hw0 hw0s hmne h4g h5b h5g h9g happ hX4d
  generalize w5.setCell ⟨b, 0, none⟩ (.slice ao5 (l.length + 1) c5) = W9 at *
  simp [overlay, dstsOf, ops_q9]
  go_wp2
  refine leaves_cons (f := 41) (args := #[.pointer (some ⟨g1, 0, none⟩)]) (by simp) (by simp [go_sem]) ?_
  refine (idle41 ⟨g1, 0, none⟩ _).mono ?_
  rintro e u' w'' ⟨rfl, rfl, rfl⟩
  simp [Leaves, settle, results, Tryd.results25, go_sem, p2]
  exact ⟨HL0.out, _, m, HM3.out, hL.out, hQ.out⟩
/-- Put: one that is there already; another one. -/
theorem pput_any (b N : Nat) (v : Value) (mo : Option Nat) (l : List ByteArray) (D : DT) (k : ByteArray) (w : World) (h : QueP w b v mo N l D) (hk : k.size ≤ maxLen) (hN : N < maxLen) (hl : l.length ≤ 1000000) :
    (k ∈ l → Calls Tryd.prog 25 #[.pointer (some ⟨b, 0, none⟩), pv k] w fun e w' => e = .returned (.bool false) ∧ w.grownBy w' none) ∧
    (¬ k ∈ l → Calls Tryd.prog 25 #[.pointer (some ⟨b, 0, none⟩), pv k] w fun e w' => e = .returned (.bool true) ∧ ∃ v' m, (mo = some m ∨ w.heap.size ≤ m) ∧ (v'.ownBlock = v.ownBlock ∨ ∃ g, v'.ownBlock = some g ∧ w.heap.size ≤ g) ∧ QueP w' b v' (some m) (N + 1) (l ++ [k]) (D.put (lp k) (.agg [])) ∧ Chg (fun j => j = b ∨ mo = some j ∨ v.ownBlock = some j) w w') := by
  cases mo with
  | some m =>
    refine ⟨fun hin => pput_old b m N v l D k w h hk hin, fun hin => (pput_some b m N v l D k w h hk hin hN hl).mono ?_⟩
    rintro e w' ⟨rfl, v', h1, h2, h3⟩
    exact ⟨rfl, v', m, .inl rfl, h1, h2, h3.mono fun j _ e => by rcases e with e | e | e; exact .inl e; exact .inr (.inl (by rw [e])); exact .inr (.inr e)⟩
  | none =>
    have hl0 : l = [] := by
      cases l with
      | nil => rfl
      | cons x r => exact absurd ((h.dat.key x (h.dat.small x (by simp))).2 (by simp)) (by rw [h.nil rfl]; simp [has])
    refine ⟨fun hin => by rw [hl0] at hin; simp at hin, fun hin => (pput_none b N v l D k w h hk).mono ?_⟩
    rintro e w' ⟨_, rfl, v', m, h0, h1, h2, h3⟩
    exact ⟨rfl, v', m, .inr h0, h1, h2, h3.mono fun j _ e => by rcases e with e | e; exact .inl e; exact .inr (.inr e)⟩
set_option maxHeartbeats 4000000 in
set_option maxRecDepth 100000 in
theorem plen_any (b N : Nat) (v : Value) (mo : Option Nat) (l : List ByteArray) (D : DT) (w : World) (h : QueP w b v mo N l D) : Calls Tryd.prog 28 #[.pointer (some ⟨b, 0, none⟩)] w fun e w' => e = .returned (.int .i64 (l.length : Nat)) ∧ w' = w := by
  obtain ⟨ao, cap, rfl⟩ := h.row.slice
  obtain ⟨t, ht⟩ := h.cell
  have c0 : w.cell? ⟨b, 0, none⟩ = some (.slice ao l.length cap) := (cell_of_row w b 0 _ _ _ ht).trans rfl
  clear h ht
  go_enter Tryd.func28, Tryd.ntmps28
  go_wp2
  go_ret
  exact ⟨rfl, rfl⟩
end Go.Proofs.YtdeebmpmfedjbaaDoor
