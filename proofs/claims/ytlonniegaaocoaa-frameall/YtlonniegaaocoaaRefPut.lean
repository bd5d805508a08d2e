/- The document's Put and Zig: they leave the same bytes, the same number. -/
import Derived.Test.YtlonniegaaocoaaPut
namespace Go.Proofs.Ytlonniegaaocoaa
open Go.RowKit

set_option maxHeartbeats 400000 in
set_option maxRecDepth 100000 in
theorem refPut_own (v : Value) (xs : List Int) (n : Nat) (w : World) (hv : Byt w v xs) (hx : xs.length ≤ 1000000000) (hn : Leb.Fits n) :
    Calls Try.prog 19 #[v, .int .u64 n] w fun e w' => ∃ v', e = .returned v' ∧ w'.ownsRow w.heap.size 5 1 v' (xs ++ Leb.enc n).length ((xs ++ Leb.enc n).map (Value.int .u8)) ∧ Below w.heap.size w w' := by
  obtain ⟨i0, hi, hz0, hz1, hz2⟩ := info_parts info5
  have hE := owns_empty w w.heap.size (Nat.le_refl _)
  have hBE := (Below.refl w.heap.size w).alloc (Nat.le_refl _) (.cells #[] 5)
  go_enter Try.func19, Try.ntmps19
  go_wp2_with (at_builtin; go_must (refine wpList_append_byt _ rfl (.tmp 7) (.tmp 8) 22 rfl w.heap.size i0 Try.underlying22 hi hz0 hz1 hz2 _ _ _ rfl hE _ xs rfl (hv.below hBE) (by omega) (by simp) ?_))
  intro v1 w1 hown1 hg1
  have hB1 : Below w.heap.size w w1 := hBE.grown hg1 (by simp) (fun k hk => (hE.lt k hk).1)
  have hzw1 : w.heap.size < w1.heap.size := by have := hg1.size; simp at this; omega
  clear hE hBE hg1 hv
  go_wp2_with fail
  go_loopw [1, 5, 6] (fun nv ov _ wr => ∃ (m : Nat) (ys : List Int), Leb.Fits m ∧ nv = .int .u64 m ∧ Hid (ys ++ Leb.enc m = Leb.enc n) ∧
      wr.ownsRow w.heap.size 5 1 ov (xs.length + ys.length) ((xs ++ ys).map (Value.int .u8)) ∧ Below w.heap.size w wr ∧ w.heap.size < wr.heap.size) (fun nv _ _ _ => (intOf nv).toNat)
  case atStart => exact ⟨n, [], hn, rfl, rfl, by simpa using hown1, hB1, hzw1⟩
  case round =>
    obtain ⟨m, ys, hm, rfl, he, hown, hnx, hzr⟩ := hrel
    have hl : ys.length ≤ 10 := by have h1 := hn.len; rw [← he.out] at h1; simp at h1; omega
    have hm' := hm.out
    by_cases hge : 128 ≤ m
    · go_wp2_with (at_builtin; go_must (refine wpList_append_byt _ rfl (.tmp 21) (.tmp 25) 22 rfl w.heap.size i0 Try.underlying22 hi hz0 hz1 hz2 _ (xs.length + ys.length) ((xs ++ ys).map (Value.int .u8)) rfl (hown.alloc _) (.slice (some ⟨wr.heap.size, 0, none⟩) 1 1) [(m : Int) % 128 + 128] rfl (Byt.one wr ((m : Int) % 128 + 128) (by omega) (by omega)) (by simp; omega) (by simp; omega) ?_))
      intro v' w3 hown' hgrow
      have ec : ((m % 128 + 128 : Nat) : Int) = (m : Int) % 128 + 128 := by omega
      have hR : w3.ownsRow w.heap.size 5 1 v' (xs.length + (ys ++ [(m : Int) % 128 + 128]).length) ((xs ++ (ys ++ [(m : Int) % 128 + 128])).map (Value.int .u8)) := by
        simpa [Nat.add_assoc] using hown'
      have hnx' : Below w.heap.size w w3 := (hnx.alloc (by omega) _).grown hgrow (by simp; omega) (fun k hk => (hown.lt k hk).1)
      have hz3 : w.heap.size < w3.heap.size := by have := hgrow.size; simp at this; omega
      have HE : Hid (ys ++ [(m : Int) % 128 + 128] ++ Leb.enc (m / 128) = Leb.enc n) := by
        show _ = _
        rw [← ec, List.append_assoc, List.singleton_append, ← Leb.enc_ge hge]; exact he
      clear hown' hgrow hown hnx hown1 hB1 hzw1 hzr ec
      go_wp2
      go_roundw
      case rel => exact ⟨m / 128, _, hm.down, by go_num, HE, hR, hnx', hz3⟩
      case measure => simp [intOf]; omega
    · go_wp2_with (at_builtin; go_must (refine wpList_append_byt _ rfl (.tmp 16) (.tmp 19) 22 rfl w.heap.size i0 Try.underlying22 hi hz0 hz1 hz2 _ (xs.length + ys.length) ((xs ++ ys).map (Value.int .u8)) rfl (hown.alloc _) (.slice (some ⟨wr.heap.size, 0, none⟩) 1 1) [(m : Int) % 128] rfl (Byt.one wr ((m : Int) % 128) (by omega) (by omega)) (by simp; omega) (by simp; omega) ?_))
      intro v' w3 hown' hgrow
      have ec : (m : Int) % 128 = (m : Int) := by omega
      have hR : w3.ownsRow w.heap.size 5 1 v' (xs ++ Leb.enc n).length ((xs ++ Leb.enc n).map (Value.int .u8)) := by
        rw [← he.out, Leb.enc_lt (by omega), ← ec]
        simpa [Nat.add_assoc] using hown'
      have hnx' : Below w.heap.size w w3 := (hnx.alloc (by omega) _).grown hgrow (by simp; omega) (fun k hk => (hown.lt k hk).1)
      clear hown' hgrow hown hnx hown1 hB1 hzw1 hzr ec
      go_wp2
      go_ret
      exact ⟨v', rfl, hR, hnx'⟩
end Go.Proofs.Ytlonniegaaocoaa
