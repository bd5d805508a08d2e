/- A queue of pairs, a table of lists, the law's own map, side by side. -/
import Derived.Test.YtdeebmpmfedjbaaDoorQp
import Derived.Test.YtdeebmpmfedjbaaDoorTk
import Derived.Test.YtdeebmpmfedjbaaDoorSs
import Derived.Maps.OwnOps
namespace Go.Proofs.YtdeebmpmfedjbaaDoor
open Go.RowKit Bag Go.Maps Go.WideMaps
set_option linter.unusedVariables false
/-- The law's own map from strings to truth values. -/
def MapB (w : World) (m N : Nat) (D : DT) : Prop := w.ownsMap Tryd.prog 9 (plainElem Tryd.prog 4) m N D
structure BXs (B gq gu mm n : Nat) (lq : List ByteArray) (DU E : DT) (w : World) (qv : Value) (mo : Option Nat) (N : Nat) (DQ : DT) (mu : Option Nat) (NU : Nat) : Prop where
  q : QueP w gq qv mo N lq DQ
  u : TabS w gu mu NU DU
  s : MapB w mm n E
  hB : B ≤ w.heap.size
  gqB : B ≤ gq
  guB : B ≤ gu
  mmB : B ≤ mm
  n1 : gq ≠ gu
  n2 : gq ≠ mm
  n3 : gu ≠ mm
  qvB : ∀ k, qv.ownBlock = some k → B ≤ k ∧ k ≠ gu ∧ k ≠ mm ∧ mu ≠ some k
  moB : ∀ k, mo = some k → B ≤ k ∧ k ≠ gu ∧ k ≠ mm ∧ mu ≠ some k
  muB : ∀ k, mu = some k → B ≤ k ∧ k ≠ gq ∧ k ≠ mm
  b1 : N ≤ n
  b2 : NU ≤ n
  b3 : lq.length ≤ n
def BX (B gq gu mm n : Nat) (lq : List ByteArray) (DU E : DT) (w : World) : Prop := ∃ qv mo N DQ mu NU, BXs B gq gu mm n lq DU E w qv mo N DQ mu NU
section
variable {B gq gu mm n : Nat} {lq : List ByteArray} {DU E : DT} {w w' : World}
theorem QueP.chg {b : Nat} {v : Value} {mo : Option Nat} {N : Nat} {D : DT} {l : List ByteArray} {S : Nat → Prop} (h : QueP w b v mo N l D) (k : Chg S w w') (hb : ¬ S b) (hv : ∀ j, v.ownBlock = some j → ¬ S j) (hm : ∀ j, mo = some j → ¬ S j) : QueP w' b v mo N l D := by
  obtain ⟨t, ht⟩ := h.cell
  exact ⟨⟨t, (k.block b (Array.getElem?_eq_some_iff.1 ht).1 hb).trans ht⟩, h.row.chg k hv, h.rne, h.nil, fun m e => ⟨(h.own m e).1, (h.own m e).2.1, map_chg (h.own m e).2.2 k (hm m e)⟩, h.dat⟩
theorem BX.chg {S : Nat → Prop} (h : BX B gq gu mm n lq DU E w) (k : Chg S w w') (hn : ∀ j, S j → j < B) : BX B gq gu mm n lq DU E w' := by
  obtain ⟨qv, mo, N, DQ, mu, NU, z⟩ := h
  have hS : ∀ j, B ≤ j → ¬ S j := fun j e s => by have := hn j s; omega
  exact ⟨qv, mo, N, DQ, mu, NU, z.q.chg k (hS _ z.gqB) (fun j e => hS j (z.qvB j e).1) (fun j e => hS j (z.moB j e).1), z.u.chg k (hS _ z.guB) (fun j e => hS j (z.muB j e).1), map_chg z.s k (hS _ z.mmB), Nat.le_trans z.hB k.size, z.gqB, z.guB, z.mmB, z.n1, z.n2, z.n3, z.qvB, z.moB, z.muB, z.b1, z.b2, z.b3⟩
theorem BX.grow (h : BX B gq gu mm n lq DU E w) (hg : w.grownBy w' none) : BX B gq gu mm n lq DU E w' := h.chg (Chg.gb0 (S := fun _ => False) hg) (fun _ e => e.elim)
theorem BX.more (h : BX B gq gu mm n lq DU E w) {m : Nat} (hm : n ≤ m) : BX B gq gu mm m lq DU E w := by
  obtain ⟨qv, mo, N, DQ, mu, NU, z⟩ := h
  exact ⟨qv, mo, N, DQ, mu, NU, z.q, z.u, World.ownsMap.mono z.s hm, z.hB, z.gqB, z.guB, z.mmB, z.n1, z.n2, z.n3, z.qvB, z.moB, z.muB, Nat.le_trans z.b1 hm, Nat.le_trans z.b2 hm, Nat.le_trans z.b3 hm⟩
theorem BX.seen (h : BX B gq gu mm n lq DU E w) : MapB w mm n E := by
  obtain ⟨qv, mo, N, DQ, mu, NU, z⟩ := h
  exact z.s
theorem BX.hB (h : BX B gq gu mm n lq DU E w) : B ≤ w.heap.size := by
  obtain ⟨qv, mo, N, DQ, mu, NU, z⟩ := h
  exact z.hB
theorem BX.mmB (h : BX B gq gu mm n lq DU E w) : B ≤ mm := by
  obtain ⟨qv, mo, N, DQ, mu, NU, z⟩ := h
  exact z.mmB
theorem BX.upd {m : Nat} {F : DT} (h : BX B gq gu mm n lq DU E w) (hs : MapB w' mm m F) (hg : w.grownBy w' (some mm)) (hm : n ≤ m) : BX B gq gu mm m lq DU F w' := by
  obtain ⟨qv, mo, N, DQ, mu, NU, z⟩ := h
  have k : Chg (fun j => j = mm) w w' := (Chg.of_gb hg).mono fun k _ e => by simpa using e
  exact ⟨qv, mo, N, DQ, mu, NU, z.q.chg k z.n2 (fun j e => (z.qvB j e).2.2.1) (fun j e => (z.moB j e).2.2.1), z.u.chg k z.n3 (fun j e => (z.muB j e).2.2), hs, Nat.le_trans z.hB k.size, z.gqB, z.guB, z.mmB, z.n1, z.n2, z.n3, z.qvB, z.moB, z.muB, Nat.le_trans z.b1 hm, Nat.le_trans z.b2 hm, Nat.le_trans z.b3 hm⟩
/-- Is it in the row? -/
def inB (l : List ByteArray) (k : ByteArray) : Bool := l.any fun x => x == k
theorem inB_iff {l : List ByteArray} {k : ByteArray} : inB l k = true ↔ k ∈ l := by
  unfold inB
  rw [List.any_eq_true]
  constructor
  · rintro ⟨x, hx, e⟩
    rw [(MapKept.bytes_beq x k).1 e] at hx
    exact hx
  · exact fun h => ⟨k, h, (MapKept.bytes_beq k k).2 rfl⟩
theorem inB_no {l : List ByteArray} {k : ByteArray} (h : ¬ k ∈ l) : inB l k = false := Bool.eq_false_iff.2 fun e => h (inB_iff.1 e)
/-- What the queue holds behind a Put. -/
def putL (l : List ByteArray) (k : ByteArray) : List ByteArray := if inB l k then l else l ++ [k]
theorem bx_q (h : BX B gq gu mm n lq DU E w) {k : ByteArray} (hk : k.size ≤ 100) (hn : n < 1000) : Calls Tryd.prog 25 #[.pointer (some ⟨gq, 0, none⟩), pv k] w fun e w' => e = .returned (.bool (!inB lq k)) ∧ BX B gq gu mm (n + 1) (putL lq k) DU E w' ∧ Below B w w' := by
  obtain ⟨qv, mo, N, DQ, mu, NU, z⟩ := id h
  have hp := pput_any gq N qv mo lq DQ k w z.q (by unfold maxLen; omega) (by have := z.b1; unfold maxLen; omega) (by have := z.b3; omega)
  by_cases hin : k ∈ lq
  · refine (hp.1 hin).mono ?_
    rintro e w' ⟨rfl, hg⟩
    refine ⟨by rw [inB_iff.2 hin]; rfl, ?_, (gb_to hg).mono z.hB⟩
    rw [putL, if_pos (inB_iff.2 hin)]
    exact (h.grow hg).more (by omega)
  · refine (hp.2 hin).mono ?_
    rintro e w' ⟨rfl, v', m, hm, hv, hq, hc⟩
    have hmu : ∀ j, mu = some j → j < w.heap.size := fun j e => World.ownsMap.lt (z.u.own j e).2
    have hu : gu < w.heap.size := z.u.lt
    have hmm : mm < w.heap.size := World.ownsMap.lt z.s
    have hgq : gq < w.heap.size := by obtain ⟨t, ht⟩ := z.q.cell; exact (Array.getElem?_eq_some_iff.1 ht).1
    refine ⟨by rw [inB_no hin]; rfl, ?_, hc.below z.hB fun j e => ?_⟩
    · rw [putL, inB_no hin, if_neg (by decide)]
      refine ⟨v', some m, N + 1, _, mu, NU, hq, z.u.chg hc (fun e => ?_) (fun j e1 e2 => ?_), World.ownsMap.mono (map_chg z.s hc fun e => ?_) (by omega), Nat.le_trans z.hB hc.size, z.gqB, z.guB, z.mmB, z.n1, z.n2, z.n3, fun j e => ?_, fun j e => ?_, z.muB, by have := z.b1; omega, by have := z.b2; omega, by have := z.b3; simp; omega⟩
      · rcases e with e | e | e
        · exact z.n1 e.symm
        · exact (z.moB _ e).2.1 rfl
        · exact (z.qvB _ e).2.1 rfl
      · rcases e2 with e | e | e
        · exact (z.muB _ e1).2.1 e
        · exact (z.moB _ e).2.2.2 e1
        · exact (z.qvB _ e).2.2.2 e1
      · rcases e with e | e | e
        · exact z.n2 e.symm
        · exact (z.moB _ e).2.2.1 rfl
        · exact (z.qvB _ e).2.2.1 rfl
      · rcases hv with q | ⟨g, q1, q2⟩
        · exact z.qvB j (by rw [← q]; exact e)
        · rw [q1] at e
          simp at e
          subst e
          have := z.hB
          exact ⟨by omega, by omega, by omega, fun q => by have := hmu _ q; omega⟩
      · simp at e
        subst e
        rcases hm with q | q
        · exact z.moB _ q
        · have := z.hB
          exact ⟨by omega, by omega, by omega, fun q => by have := hmu _ q; omega⟩
    · rcases e with e | e | e
      · rw [e]; exact z.gqB
      · exact (z.moB _ e).1
      · exact (z.qvB _ e).1
theorem bx_u (h : BX B gq gu mm n lq DU E w) {k : ByteArray} (u : Value) (hk : k.size ≤ 100) (hn : n < 1000) : Calls Tryd.prog 26 #[.pointer (some ⟨gu, 0, none⟩), .string k, u] w fun e w' => e = .returned (.bool (!has DU (lk k))) ∧ BX B gq gu mm (n + 1) lq (DU.put (lk k) tt) E w' ∧ Below B w w' := by
  obtain ⟨qv, mo, N, DQ, mu, NU, z⟩ := id h
  refine (uput_any gu NU mu DU k u w z.u (by unfold maxLen; omega) (by have := z.b2; unfold maxLen; omega)).mono ?_
  rintro e w' ⟨rfl, ⟨m, hm, hu'⟩, hc⟩
  have hgq : gq < w.heap.size := by obtain ⟨t, ht⟩ := z.q.cell; exact (Array.getElem?_eq_some_iff.1 ht).1
  have hmm : mm < w.heap.size := World.ownsMap.lt z.s
  have hgu : gu < w.heap.size := z.u.lt
  have hqv : ∀ j, qv.ownBlock = some j → j < w.heap.size := fun j e => z.q.row.lt j e
  have hmo : ∀ j, mo = some j → j < w.heap.size := fun j e => World.ownsMap.lt (z.q.own j e).2.2
  refine ⟨rfl, ⟨qv, mo, N, DQ, some m, NU + 1, z.q.chg hc (fun e => ?_) (fun j e1 e2 => ?_) (fun j e1 e2 => ?_), hu', World.ownsMap.mono (map_chg z.s hc fun e => ?_) (by omega), Nat.le_trans z.hB hc.size, z.gqB, z.guB, z.mmB, z.n1, z.n2, z.n3, fun j e => ?_, fun j e => ?_, fun j e => ?_, by have := z.b1; omega, by have := z.b2; omega, by have := z.b3; omega⟩, hc.below z.hB fun j e => ?_⟩
  · rcases e with e | e
    · exact z.n1 e
    · exact (z.muB _ e).2.1 rfl
  · rcases e2 with e | e
    · exact (z.qvB _ e1).2.1 e
    · exact (z.qvB _ e1).2.2.2 e
  · rcases e2 with e | e
    · exact (z.moB _ e1).2.1 e
    · exact (z.moB _ e1).2.2.2 e
  · rcases e with e | e
    · exact z.n3 e.symm
    · exact (z.muB _ e).2.2 rfl
  · refine ⟨(z.qvB j e).1, (z.qvB j e).2.1, (z.qvB j e).2.2.1, fun q => ?_⟩
    simp at q
    subst q
    rcases hm with q | ⟨_, q⟩
    · exact (z.qvB _ e).2.2.2 q
    · have := hqv _ e; omega
  · refine ⟨(z.moB j e).1, (z.moB j e).2.1, (z.moB j e).2.2.1, fun q => ?_⟩
    simp at q
    subst q
    rcases hm with q | ⟨_, q⟩
    · exact (z.moB _ e).2.2.2 q
    · have := hmo _ e; omega
  · simp at e
    subst e
    rcases hm with q | ⟨_, q⟩
    · exact z.muB _ q
    · have := z.hB
      exact ⟨by omega, by omega, by omega⟩
  · rcases e with e | e
    · rw [e]; exact z.guB
    · exact (z.muB _ e).1
set_option maxRecDepth 100000 in
theorem bx_look {b : Bool} (h : BX B gq gu mm n lq DU E w) {k : ByteArray} (hk : k.size ≤ 100) (hE : E.atKey (lk k) (.lit (.bool false)) = .lit (.bool b)) : (Instr.lookup 58 (.map (some mm)) (.string k) false).run Tryd.prog w = .ok (.bool b) w := by
  obtain ⟨v, ps, h1, h2⟩ := World.ownsMap.lookup h.seen key9 Tryd.underlying58 (zero4 w) (plainElem_bool Tryd.underlying4 false) (lk_key (show k.size ≤ maxLen by unfold maxLen; omega))
  rw [hE] at h2
  rw [h1]
  have : v = .bool b := by
    unfold plainElem at h2
    rw [Tryd.underlying4] at h2
    cases v <;> simp at h2
    rw [h2.1]
  rw [this]
theorem bx_len (h : BX B gq gu mm n lq DU E w) : Calls Tryd.prog 28 #[.pointer (some ⟨gq, 0, none⟩)] w fun e w' => e = .returned (.int .i64 (lq.length : Nat)) ∧ w' = w := by
  obtain ⟨qv, mo, N, DQ, mu, NU, z⟩ := h
  exact plen_any gq N qv mo lq DQ w z.q
theorem bx_keys (h : BX B gq gu mm n lq DU E w) (hs : size DU ≤ 1000) : Calls Tryd.prog 29 #[.pointer (some ⟨gu, 0, none⟩)] w fun e w' => ∃ v ks, e = .returned v ∧ KV w' v ks ∧ KeysD DU ks ∧ w.grownBy w' none := by
  obtain ⟨qv, mo, N, DQ, mu, NU, z⟩ := h
  exact ukeys_any gu NU mu DU w z.u hs
end
/-- What all three tell. -/
structure Tells (l : List ByteArray) (D : DT) : Prop where
  at_ : ∀ k, D.atKey (lk k) (.lit (.bool false)) = .lit (.bool (inB l k))
  has_ : ∀ k, has D (lk k) = inB l k
  size_ : size D = l.length
theorem inB_snoc (l : List ByteArray) (k j : ByteArray) : inB (l ++ [k]) j = (inB l j || k == j) := by simp [inB]
theorem inB_put (l : List ByteArray) (k j : ByteArray) : inB (putL l k) j = (inB l j || k == j) := by
  unfold putL
  cases h : inB l k
  · simp [inB_snoc]
  · simp only [if_true]
    cases e : k == j
    · simp
    · rw [(MapKept.bytes_beq k j).1 e] at h
      rw [h]
      rfl
theorem beq_no {a b : ByteArray} (h : ¬ b = a) : (a == b) = false := Bool.eq_false_iff.2 fun e => h ((MapKept.bytes_beq a b).1 e).symm
theorem Tells.nil : Tells [] (.map []) := ⟨fun k => rfl, fun k => rfl, rfl⟩
theorem Tells.put {l : List ByteArray} {D : DT} (h : Tells l D) (hT : Tidy D) (hM : IsMap D) (k : ByteArray) : Tells (putL l k) (D.put (lk k) tt) := by
  refine ⟨fun j => ?_, fun j => ?_, ?_⟩
  · rw [inB_put]
    by_cases e : j = k
    · subst e
      rw [atKey_put_same hM (by trivial), (MapKept.bytes_beq j j).2 rfl, Bool.or_true]
      rfl
    · rw [atKey_put_other (fun he => e (lk_inj he)), h.at_ j, beq_no e, Bool.or_false]
  · rw [inB_put]
    by_cases e : j = k
    · subst e
      rw [has_put_same hM (by trivial), (MapKept.bytes_beq j j).2 rfl, Bool.or_true]
    · rw [has_put_other (fun he => e (lk_inj he)), h.has_ j, beq_no e, Bool.or_false]
  · rw [size_put hT, h.has_ k, h.size_]
    unfold putL
    cases inB l k <;> simp
end Go.Proofs.YtdeebmpmfedjbaaDoor
