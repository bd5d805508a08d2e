/- What the maker makes has numbers in range. -/
import Derived.Test.YtbjnhicikkjadabIr
namespace Go.Proofs.Ytbjnhicikkjadab
open Go Ir
def I64 (x : Int) : Prop := -9223372036854775808 ≤ x ∧ x ≤ 9223372036854775807
theorem nxt_rg {bs : List Int} {n : Int} (hn : 0 < n) (h : n ≤ 1000) : I64 (nxt bs n).1 := by
  have := nxt_in (bs := bs) hn
  exact ⟨by omega, by omega⟩
theorem mkOf_rg (k v : Int) (bs : List Int) : I64 (mkOf k v bs).1.n := by
  have z : I64 0 := ⟨by omega, by omega⟩
  have h1 := nxt_in (bs := (nxt bs v).2) (n := 256) (by omega)
  have h2 := nxt_rg (bs := (nxt bs v).2) (n := 5) (by omega) (by omega)
  have h3 : I64 ((nxt (nxt bs v).2 256).1 - 3) := ⟨by omega, by omega⟩
  unfold mkOf
  split
  · exact h3
  split
  · exact z
  split
  · exact z
  split
  · exact h2
  split
  · exact z
  · exact z
theorem mkInss_rg (v : Int) : ∀ (c : Nat) (bs : List Int), ∀ i ∈ (mkInss v c bs).1, I64 i.n
  | 0, _ => fun i hi => by simp [mkInss] at hi
  | c + 1, bs => fun i hi => by
    simp only [mkInss, List.mem_cons] at hi
    rcases hi with rfl | hi
    · exact mkOf_rg _ _ _
    · exact mkInss_rg v c _ i hi
theorem mkBlks_rg (v n : Int) : ∀ (c : Nat) (bs : List Int), ∀ b ∈ (mkBlks v n c bs).1, ∀ i ∈ b.ins, I64 i.n
  | 0, _ => fun b hb => by simp [mkBlks] at hb
  | c + 1, bs => fun b hb => by
    simp only [mkBlks, List.mem_cons] at hb
    rcases hb with rfl | hb
    · exact mkInss_rg _ _ _
    · exact mkBlks_rg v n c _ b hb
theorem made_rgd (p v b : Int) (bs : List Int) : ∀ x ∈ (made p v b bs).bs, ∀ i ∈ x.ins, I64 i.n := mkBlks_rg _ _ _ _
end Go.Proofs.Ytbjnhicikkjadab
