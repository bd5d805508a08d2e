/- A map that tells which numbers were seen; what PathsOrder counts. -/
import Derived.Test.YtgckpmaajmlijaaLw
import Derived.Maps.OwnOps
import Derived.Maps.OwnSet
namespace Go.Proofs.Ytgckpmaajmlijaa
open Go.RowKit Ir Wy Go.Maps Go.WideMaps

abbrev DT := DataW Unit
def lk (k : Nat) : Lit := .int .i64 (k : Int)
theorem lk_inj {a b : Nat} (h : lk a = lk b) : a = b := by
  unfold lk at h
  simp only [Lit.int.injEq, true_and] at h
  omega
theorem key3 : Keyed Try.prog 3 := int_keyed Try.underlying3
theorem zero4 (W : World) : (zeroValue 4).run Try.prog W = .ok (.bool false) W := by kernel_rfl
theorem lk_key {k : Nat} (hk : k < 4096) : keyOf Try.prog 3 (.int .i64 (k : Int)) = some (lk k) := by
  unfold lk
  refine keyOf_int_mk Try.underlying3 ?_
  simp [Lit.wf, IntKind.min, IntKind.max, IntKind.signed, IntKind.bits]
  omega
/-- The map at block m tells the numbers of l. -/
def SeenM (w : World) (m : Nat) (l : List Nat) : Prop := ∃ D : DT, w.ownsMap Try.prog 3 (plainElem Try.prog 4) m l.length D ∧ ∀ k, D.atKey (lk k) (.lit (.bool false)) = .lit (.bool (l.contains k))
theorem SeenM.below {w w' : World} {m : Nat} {l : List Nat} (h : SeenM w m l) (hB : Below w.heap.size w w') : SeenM w' m l := by
  obtain ⟨D, h1, h2⟩ := h
  exact ⟨D, World.ownsMap.kept h1 (⟨hB.os, hB.tape, hB.output, hB.size, fun k hk _ => hB.block k hk⟩ : w.grownBy w' none) (by simp), h2⟩
theorem SeenM.made (w : World) : SeenM (w.alloc (.map #[] 0)) w.heap.size [] := ⟨.map [], World.ownsMap_made w Try.prog 3 (plainElem Try.prog 4), fun _ => rfl⟩
theorem SeenM.look {w : World} {m : Nat} {l : List Nat} (h : SeenM w m l) (k : Nat) (hk : k < 4096) : (Instr.lookup 53 (.map (some m)) (.int .i64 (k : Int)) false).run Try.prog w = .ok (.bool (l.contains k)) w := by
  obtain ⟨D, h0, hD⟩ := h
  obtain ⟨v, ps, h1, h2⟩ := World.ownsMap.lookup h0 key3 Try.underlying53 (zero4 w) (plainElem_bool Try.underlying4 false) (lk_key hk)
  rw [hD k] at h2
  rw [h1]
  have : v = .bool (l.contains k) := by
    unfold plainElem at h2
    rw [Try.underlying4] at h2
    cases v <;> simp at h2
    rw [h2.1]
    simp
  rw [this]
theorem SeenM.put {w w' : World} {m : Nat} {l : List Nat} {D : DT} {k : Nat} (h0 : w.ownsMap Try.prog 3 (plainElem Try.prog 4) m l.length D) (hD : ∀ k, D.atKey (lk k) (.lit (.bool false)) = .lit (.bool (l.contains k))) (h1 : w'.ownsMap Try.prog 3 (plainElem Try.prog 4) m (l.length + 1) (D.put (lk k) (.lit (.bool true)))) : SeenM w' m (l ++ [k]) := by
  refine ⟨_, by rw [List.length_append]; exact h1, fun j => ?_⟩
  have hM := World.ownsMap.isMap h0
  by_cases e : j = k
  · subst e
    rw [atKey_put_same hM (by trivial)]
    simp
  · rw [atKey_put_other (fun he => e (lk_inj he)), hD j]
    simp [e]
/-- As many as the order has. -/
theorem len_ord {es : List En} (hin : EndsIn es) (h0 : 0 < es.length) (hn : es.length ≤ 1000) : (Bg.Bag.mem (rF es) 4096).length = (ordD (nxE es) es.length).length := by
  have hk := ord_ok hin.nx h0
  unfold Bg.Bag.mem
  refine List.Perm.length_eq ?_
  refine (List.perm_ext_iff_of_nodup ((List.nodup_range).filter _) hk.nodup).2 fun x => ?_
  rw [List.mem_filter, List.mem_range, ord_mem hin h0 x]
  constructor
  · exact fun h => h.2
  · intro h
    have := rF_lt hin h0 h
    exact ⟨by omega, h⟩
end Go.Proofs.Ytgckpmaajmlijaa
