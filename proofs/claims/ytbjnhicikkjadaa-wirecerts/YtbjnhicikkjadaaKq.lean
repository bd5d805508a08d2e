/- Facts for WireCerts. -/
import Derived.Test.YtbjnhicikkjadaaOq
import Derived.Test.YtbjnhicikkjadaaAw
import Derived.Test.YtbjnhicikkjadaaTv
import Derived.Test.YtbjnhicikkjadaaSp
import Derived.Test.YtbjnhicikkjadaaRt
import Derived.Test.YtbjnhicikkjadaaRk
import Derived.Deep.Cut
namespace Go.Proofs.Ytbjnhicikkjadaa
open Go.RowKit Ir Wire

set_option maxHeartbeats 1000000 in
set_option maxRecDepth 100000 in
theorem awake_pos (w : World) : Calls Try.prog 9 #[] w fun e w' => e = .returned (.bool true) ∧ Below w.heap.size w w' ∧ 0 < w'.heap.size := by
  go_enter Try.func9, Try.ntmps9
  go_wp2_with fail
  have b1 := bel1' w (.cells #[.slice none 0 0, .int .u8 3, .int .i64 0, .int .i64 0, .int .i64 0] 82)
  have n1 := heap_alloc_new w (.cells #[.slice none 0 0, .int .u8 3, .int .i64 0, .int .i64 0, .int .i64 0] 82)
  refine (wfunc_ok funA _ _ ⟨_, rfl, blk_lit1 (e := ⟨3, 0, 0, 0⟩) n1⟩ awF (by intro b hb i hi; simp [funA] at hb; subst hb; simp at hi)).mono ?_
  rintro e W1 ⟨v, rfl, hO, hB⟩
  rw [awB] at hO
  have hc := str6 hO.byt
  have hB1 : Below w.heap.size w W1 := b1.trans (hB.mono (by simp))
  have hpos : 0 < W1.heap.size := by have := hB.size; simp at this; omega
  clear b1 n1 hB hO
  go_wp2_with fail
  go_ret
  exact ⟨rfl, hB1, hpos⟩
theorem rd_small {xs : List Int} (hx : Bs xs) : (rd [] cerP (fun _ => true) xs).1.length ≤ 16 ∧ ∀ x ∈ (rd [] cerP (fun _ => true) xs).1, x.length ≤ 70000 := by
  unfold rd
  cases h : cerP xs with
  | inr c => simp
  | inl p =>
    obtain ⟨l, r⟩ := p
    obtain ⟨_, h4⟩ := cerP_inv hx h
    by_cases hr : r = []
    · simp only [hr, ne_eq, not_true_eq_false, if_false, if_true]
      exact ⟨h4.1, fun x hx => by have := (h4.2 x hx).1; omega⟩
    · simp [hr]
theorem cerA_len {l : List (List Pair)} (hs : ∀ x ∈ l, x.length ≤ 500) : (cerA l).1.length ≤ 100000000 := by
  unfold cerA
  split
  · simp
  · rename_i h16
    split
    · rename_i hall
      have h1 := lstsB_len (l := l) (fun x hx => ⟨by rw [List.all_eq_true] at hall; exact hall x hx, by have := hs x hx; omega⟩)
      have h2 := Leb.enc_len10 (n := l.length) (by omega)
      unfold cerB
      rw [List.length_append]
      omega
    · simp
end Go.Proofs.Ytbjnhicikkjadaa
