/- More on bytes in memory: one of them, the first ones, a row that was just made; the sum of one part wherever its slice lies. -/
import Derived.Test.YtlonniegaaocoaaSum
namespace Go.Proofs.Ytlonniegaaocoaa
open Go.RowKit

theorem owns_made {w : World} {g base n : Nat} (h : w.heap[g]? = some (.cells (zrow n).toArray 5 (0, 0))) (hb : base ≤ g) (hc : n ≤ maxLen) :
    w.ownsRow base 5 1 (.slice (some ⟨g, 0, none⟩) n n) n ((List.replicate n (0 : Int)).map (Value.int .u8)) := by
  refine ⟨by simp, .inr ⟨g, n, _, rfl, hb, h, Nat.le_refl _, hc, ?_, ?_⟩⟩
  · simp [zrow]
  · simp [zrow]

theorem Byt.at {w : World} {a : Option Addr} {cap : Nat} {xs : List Int} (h : Byt w (.slice a xs.length cap) xs) (k : Nat) (hk : k < xs.length) :
    ∃ b off, a = some ⟨b, off, none⟩ ∧ b < w.heap.size ∧ w.cell? ⟨b, off + k, none⟩ = some (.int .u8 (xs.getD k 0)) := by
  obtain ⟨b, h0, ao, c, e, h2, h3, h3', h4⟩ := h
  obtain ⟨off, rfl, hc⟩ := h4 (by omega)
  simp only [Value.slice.injEq] at e
  exact ⟨b, off, e.1, World.block_lt_of_cell? w _ (hc k hk), hc k hk⟩

theorem Byt.cap {w : World} {a : Option Addr} {len cap : Nat} {xs : List Int} (h : Byt w (.slice a len cap) xs) : len = xs.length ∧ len ≤ cap ∧ cap ≤ maxLen ∧ (a = none → cap = 0) := by
  obtain ⟨b, h0, ao, c, e, h2, h3, h3', h4⟩ := h
  simp only [Value.slice.injEq] at e
  obtain ⟨rfl, rfl, rfl⟩ := e
  exact ⟨rfl, h2, h3, h3'⟩

theorem Byt.bytes {w : World} {v : Value} {xs : List Int} (h : Byt w v xs) : ∀ x ∈ xs, 0 ≤ x ∧ x < 256 := by
  obtain ⟨b, h0, _⟩ := h
  exact h0

/-- The first n of them. -/
theorem Byt.take {w : World} {a : Option Addr} {cap : Nat} {xs : List Int} (h : Byt w (.slice a xs.length cap) xs) (n : Nat) (hn : n ≤ xs.length) : Byt w (.slice a n cap) (xs.take n) := by
  obtain ⟨b, h0, ao, c, e, h2, h3, h3', h4⟩ := h
  simp only [Value.slice.injEq, true_and] at e
  obtain ⟨rfl, rfl⟩ := e
  have hl : (xs.take n).length = n := by simp; omega
  refine ⟨b, fun x hx => h0 x (List.mem_of_mem_take hx), a, cap, by rw [hl], by omega, h3, h3', fun hp => ?_⟩
  rw [hl] at hp
  obtain ⟨off, rfl, hc⟩ := h4 (by omega)
  refine ⟨off, rfl, fun j hj => ?_⟩
  rw [hl] at hj
  rw [hc j (by omega)]
  simp [hj]

/-- The sum of one part, wherever the slice that holds it lies. -/
theorem sum_cell {w : World} {g : Nat} {u : Value} {xs : List Int} (hc : w.cell? ⟨g, 0, none⟩ = some u) (h : Byt w u xs) :
    Calls Try.prog 23 #[.slice (some ⟨g, 0, none⟩) 1 1] w fun e w' => e = .returned (.int .u32 (sumOf xs : Nat)) ∧ w' = w := by
  have hp : Parts w (.slice (some ⟨g, 0, none⟩) 1 1) [xs] := by
    refine ⟨_, 1, rfl, by simp, fun _ => ⟨_, _, rfl, fun j hj => ?_⟩⟩
    match j, hj with
    | 0, _ => exact ⟨u, hc, h⟩
  have := sum_any _ [xs] _ hp
  simpa using this
end Go.Proofs.Ytlonniegaaocoaa
