/- Awake of layer 8: a fixed fact. -/
import Derived.Test.YtbjnhicikkjadabWf
namespace Go.Proofs.Ytbjnhicikkjadab
open Go.RowKit Ir Wire

theorem str_conv {w : World} {v : Value} {xs : List Int} (h : Lb.Byt w v xs) : (convert 22 9 v).run Try.prog w = .ok (.string (strOfNums xs)) w :=
  h.str 22 5 9 Try.underlying22 Try.underlying5 Try.underlying9
def funA : Fun := ⟨0, 1, [⟨[], ⟨3, 0, 0, 0⟩⟩]⟩
theorem awF : (chk funA).1 = 0 := by kernel_rfl
theorem awB : funB funA = [0, 1, 1, 0, 3, 0] := by
  simp [funB, funA, allB, blkB, endB, nb, Leb.enc_lt]
theorem blk_lit1 {W : World} {g : Nat} {e : En} (h : W.heap[g]? = some (Obj.cells #[.slice none 0 0, .int .u8 e.k, .int .i64 e.a, .int .i64 e.to, .int .i64 e.el] 40 (0, 0))) : BlksV W (.slice (some ⟨g, 0, none⟩) 1 1) [⟨[], e⟩] := by
  refine ⟨_, 1, rfl, Nat.le_refl _, by simp [maxLen], fun h => by simp at h, fun _ => ⟨g, 0, rfl, fun j hj => ?_⟩⟩
  have : j = 0 := by simp at hj; omega
  subst this
  refine ⟨.slice none 0 0, ?_, SlV.nil⟩
  refine ⟨?_, ?_, ?_, ?_, ?_⟩ <;> (rw [cell_of_row _ _ _ _ _ _ h]; rfl)
theorem str6 {w : World} {v : Value} (h : Lb.Byt w v [0, 1, 1, 0, 3, 0]) : (convert 22 9 v).run Try.prog w = .ok (.string ⟨#[0, 1, 1, 0, 3, 0]⟩) w := str_conv h
set_option maxHeartbeats 1000000 in
set_option maxRecDepth 100000 in
theorem awake_any (w : World) : Calls Try.prog 4 #[] w fun e w' => e = .returned (.bool true) ∧ Below w.heap.size w w' := by
  go_enter Try.func4, Try.ntmps4
  go_wp2_with fail
  have b1 := bel1' w (.cells #[.slice none 0 0, .int .u8 3, .int .i64 0, .int .i64 0, .int .i64 0] 40)
  have n1 := heap_alloc_new w (.cells #[.slice none 0 0, .int .u8 3, .int .i64 0, .int .i64 0, .int .i64 0] 40)
  refine (wfunc_ok funA _ _ ⟨_, rfl, blk_lit1 (e := ⟨3, 0, 0, 0⟩) n1⟩ awF (by intro b hb i hi; simp [funA] at hb; subst hb; simp at hi)).mono ?_
  rintro e W1 ⟨v, rfl, hO, hB⟩
  rw [awB] at hO
  have hc := str6 hO.byt
  have hB1 : Below w.heap.size w W1 := b1.trans (hB.mono (by simp))
  clear b1 n1 hB hO
  go_wp2_with fail
  go_ret
  exact ⟨rfl, hB1⟩
end Go.Proofs.Ytbjnhicikkjadab
