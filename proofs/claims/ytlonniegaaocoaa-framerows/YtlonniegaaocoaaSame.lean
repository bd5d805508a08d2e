/- The document's SameFrames, of two lists of the same frames. -/
import Derived.Test.YtlonniegaaocoaaAll
namespace Go.Proofs.Ytlonniegaaocoaa
open Go.RowKit

/-- What is known of each temporary that the comparison of two frames writes, once it is written. -/
def Gf (b off b2 off2 n cap cap2 i : Nat) (k : Int) (xs : List Int) (u1 u2 : Value) : Tmp → Value → Prop
  | 17, v => v = .slice (some ⟨b, off, none⟩) n cap
  | 18, v => v = .int .i64 (i : Nat)
  | 19, v => v = .pointer (some ⟨b, off + i * 2, none⟩)
  | 20, v => v = .pointer (some ⟨b, off + i * 2, none⟩)
  | 21, v => v = .int .u8 k
  | 22, v => v = .slice (some ⟨b2, off2, none⟩) n cap2
  | 23, v => v = .int .i64 (i : Nat)
  | 24, v => v = .pointer (some ⟨b2, off2 + i * 2, none⟩)
  | 25, v => v = .pointer (some ⟨b2, off2 + i * 2, none⟩)
  | 26, v => v = .int .u8 k
  | 27, v => v = .bool false
  | 28, v => v = .bool false
  | 29, v => v = .slice (some ⟨b, off, none⟩) n cap
  | 30, v => v = .int .i64 (i : Nat)
  | 31, v => v = .pointer (some ⟨b, off + i * 2, none⟩)
  | 32, v => v = .pointer (some ⟨b, off + i * 2 + 1, none⟩)
  | 33, v => v = u1
  | 34, v => v = .string (strOfNums xs)
  | 35, v => v = .slice (some ⟨b2, off2, none⟩) n cap2
  | 36, v => v = .int .i64 (i : Nat)
  | 37, v => v = .pointer (some ⟨b2, off2 + i * 2, none⟩)
  | 38, v => v = .pointer (some ⟨b2, off2 + i * 2 + 1, none⟩)
  | 39, v => v = u2
  | 40, v => v = .string (strOfNums xs)
  | 41, v => v = .bool false
  | 42, v => v = .bool false
  | _, _ => True

set_option maxHeartbeats 1000000 in
set_option maxRecDepth 100000 in
theorem same_any (v1 v2 : Value) (fs : List (Int × List Int)) (w : World) (h1 : Frames w v1 fs) (h2 : Frames w v2 fs) (hl : fs.length ≤ 1000000000) :
    Calls Try.prog 16 #[v1, v2] w fun e w' => e = .returned (.bool true) ∧ Below w.heap.size w w' := by
  obtain ⟨ao, cap, rfl⟩ := h1.slice
  obtain ⟨ao2, cap2, rfl⟩ := h2.slice
  have H1 := hide h1
  have H2 := hide h2
  clear h1 h2
  go_enter Try.func16, Try.ntmps16
  go_wp2_with fail
  go_loopw [5] (fun iv wr => ∃ i : Nat, i ≤ fs.length ∧ iv = .int .i64 i ∧ Below w.heap.size w wr) (fun iv _ => fs.length - (intOf iv).toNat)
  case atStart => exact ⟨0, by omega, rfl, Below.refl _ _⟩
  case round =>
    obtain ⟨i, hi, rfl, hBr⟩ := hrel
    by_cases hlt : i < fs.length
    · obtain ⟨b, off, rfl, f1⟩ := (H1.out.below hBr).at i hlt
      obtain ⟨b2, off2, rfl, f2⟩ := (H2.out.below hBr).at i hlt
      have f1 := f1.below (Below.refl _ _).drew
      have f2 := f2.below (Below.refl _ _).drew
      generalize fs.getD i (0, []) = f at *
      obtain ⟨k, xs⟩ := f
      obtain ⟨x1, _, _, u1, z1, y1⟩ := f1
      obtain ⟨x2, _, _, u2, z2, y2⟩ := f2
      simp only at x1 x2 y1 y2
      have hB' := hBr.drew
      clear hBr
      generalize hn : fs.length = n at *
      go_wp2_with fail
      refine wp_region_each (by kernel_rfl) (fun d v _ => Gf b off b2 off2 n cap cap2 i k xs u1 u2 d v) (fun W => W = wr.drew) (by kernel_rfl) (by repeat' (first | exact trivial | exact fun _ _ h => h | constructor)) rfl ?_ ?_
      · refine And.intro ?_ (And.intro ?_ (And.intro ?_ (And.intro ?_ (And.intro ?_ (And.intro ?_ (And.intro ?_ (And.intro ?_ (And.intro ?_ (And.intro ?_ (And.intro ?_ (And.intro ?_ (And.intro ?_ (And.intro ?_ (And.intro ?_ (And.intro ?_ (And.intro ?_ (And.intro ?_ (And.intro ?_ (And.intro ?_ (And.intro ?_ (And.intro ?_ (And.intro ?_ (And.intro ?_ (And.intro ?_ (And.intro ?_ trivial)))))))))))))))))))))))))
        · exact asked_pure rfl (fun _ _ => rfl) (fun a w _ hb _ => run_move rfl (hb 0 rfl))
        · exact asked_pure rfl (fun _ _ => rfl) (fun a w _ hb _ => run_move rfl (hb 5 rfl))
        · refine asked_pure rfl (fun _ _ => rfl) (fun a w hS hb hd => ?_)
          have e17 : a.eval (.tmp 17) = .slice (some ⟨b, off, none⟩) n cap := hd 17 rfl
          have e18 : a.eval (.tmp 18) = .int .i64 (i : Nat) := hd 18 rfl
          clear hS hb hd
          (simp only [execOp]; try simp only [Option.map]); (try simp only [List.map_toArray, List.map_cons, List.map_nil]); (simp only [e17, e18]; go_simp)
        · refine asked_pure rfl (fun _ _ => rfl) (fun a w hS hb hd => ?_)
          have e19 : a.eval (.tmp 19) = .pointer (some ⟨b, off + i * 2, none⟩) := hd 19 rfl
          (simp only [execOp]; try simp only [Option.map]); (try simp only [List.map_toArray, List.map_cons, List.map_nil]); (simp only [e19]; go_simp)
        · refine asked_pure rfl (fun _ _ => rfl) (fun a w hS hb hd => ?_)
          have e20 : a.eval (.tmp 20) = .pointer (some ⟨b, off + i * 2, none⟩) := hd 20 rfl
          subst hS
          clear hb hd
          (simp only [execOp]; try simp only [Option.map]); (try simp only [List.map_toArray, List.map_cons, List.map_nil]); (simp only [e20]; go_simp)
        · exact asked_pure rfl (fun _ _ => rfl) (fun a w _ hb _ => run_move rfl (hb 1 rfl))
        · exact asked_pure rfl (fun _ _ => rfl) (fun a w _ hb _ => run_move rfl (hb 5 rfl))
        · refine asked_pure rfl (fun _ _ => rfl) (fun a w hS hb hd => ?_)
          have e22 : a.eval (.tmp 22) = .slice (some ⟨b2, off2, none⟩) n cap2 := hd 22 rfl
          have e23 : a.eval (.tmp 23) = .int .i64 (i : Nat) := hd 23 rfl
          clear hS hb hd
          (simp only [execOp]; try simp only [Option.map]); (try simp only [List.map_toArray, List.map_cons, List.map_nil]); (simp only [e22, e23]; go_simp)
        · refine asked_pure rfl (fun _ _ => rfl) (fun a w hS hb hd => ?_)
          have e24 : a.eval (.tmp 24) = .pointer (some ⟨b2, off2 + i * 2, none⟩) := hd 24 rfl
          (simp only [execOp]; try simp only [Option.map]); (try simp only [List.map_toArray, List.map_cons, List.map_nil]); (simp only [e24]; go_simp)
        · refine asked_pure rfl (fun _ _ => rfl) (fun a w hS hb hd => ?_)
          have e25 : a.eval (.tmp 25) = .pointer (some ⟨b2, off2 + i * 2, none⟩) := hd 25 rfl
          subst hS
          clear hb hd
          (simp only [execOp]; try simp only [Option.map]); (try simp only [List.map_toArray, List.map_cons, List.map_nil]); (simp only [e25]; go_simp)
        · refine asked_pure rfl (fun _ _ => rfl) (fun a w hS hb hd => ?_)
          have e21 : a.eval (.tmp 21) = .int .u8 k := hd 21 rfl
          have e26 : a.eval (.tmp 26) = .int .u8 k := hd 26 rfl
          (simp only [execOp]; try simp only [Option.map]); (try simp only [List.map_toArray, List.map_cons, List.map_nil]); (simp only [e21, e26]; go_simp)
        · exact asked_pure rfl (fun _ _ => rfl) (fun a w _ _ hd => run_move rfl (hd 27 rfl))
        · exact asked_pure rfl (fun _ _ => rfl) (fun a w _ hb _ => run_move rfl (hb 0 rfl))
        · exact asked_pure rfl (fun _ _ => rfl) (fun a w _ hb _ => run_move rfl (hb 5 rfl))
        · refine asked_pure rfl (fun _ _ => rfl) (fun a w hS hb hd => ?_)
          have e29 : a.eval (.tmp 29) = .slice (some ⟨b, off, none⟩) n cap := hd 29 rfl
          have e30 : a.eval (.tmp 30) = .int .i64 (i : Nat) := hd 30 rfl
          clear hS hb hd
          (simp only [execOp]; try simp only [Option.map]); (try simp only [List.map_toArray, List.map_cons, List.map_nil]); (simp only [e29, e30]; go_simp)
        · refine asked_pure rfl (fun _ _ => rfl) (fun a w hS hb hd => ?_)
          have e31 : a.eval (.tmp 31) = .pointer (some ⟨b, off + i * 2, none⟩) := hd 31 rfl
          (simp only [execOp]; try simp only [Option.map]); (try simp only [List.map_toArray, List.map_cons, List.map_nil]); (simp only [e31]; go_simp)
        · refine asked_pure rfl (fun _ _ => rfl) (fun a w hS hb hd => ?_)
          have e32 : a.eval (.tmp 32) = .pointer (some ⟨b, off + i * 2 + 1, none⟩) := hd 32 rfl
          subst hS
          clear hb hd
          (simp only [execOp]; try simp only [Option.map]); (try simp only [List.map_toArray, List.map_cons, List.map_nil]); (simp only [e32]; go_simp)
        · refine asked_pure rfl (fun _ _ => rfl) (fun a w hS _ hd => ?_)
          have e33 : a.eval (.tmp 33) = u1 := hd 33 rfl
          subst hS
          exact run_conv rfl e33 y1
        · exact asked_pure rfl (fun _ _ => rfl) (fun a w _ hb _ => run_move rfl (hb 1 rfl))
        · exact asked_pure rfl (fun _ _ => rfl) (fun a w _ hb _ => run_move rfl (hb 5 rfl))
        · refine asked_pure rfl (fun _ _ => rfl) (fun a w hS hb hd => ?_)
          have e35 : a.eval (.tmp 35) = .slice (some ⟨b2, off2, none⟩) n cap2 := hd 35 rfl
          have e36 : a.eval (.tmp 36) = .int .i64 (i : Nat) := hd 36 rfl
          clear hS hb hd
          (simp only [execOp]; try simp only [Option.map]); (try simp only [List.map_toArray, List.map_cons, List.map_nil]); (simp only [e35, e36]; go_simp)
        · refine asked_pure rfl (fun _ _ => rfl) (fun a w hS hb hd => ?_)
          have e37 : a.eval (.tmp 37) = .pointer (some ⟨b2, off2 + i * 2, none⟩) := hd 37 rfl
          (simp only [execOp]; try simp only [Option.map]); (try simp only [List.map_toArray, List.map_cons, List.map_nil]); (simp only [e37]; go_simp)
        · refine asked_pure rfl (fun _ _ => rfl) (fun a w hS hb hd => ?_)
          have e38 : a.eval (.tmp 38) = .pointer (some ⟨b2, off2 + i * 2 + 1, none⟩) := hd 38 rfl
          subst hS
          clear hb hd
          (simp only [execOp]; try simp only [Option.map]); (try simp only [List.map_toArray, List.map_cons, List.map_nil]); (simp only [e38]; go_simp)
        · refine asked_pure rfl (fun _ _ => rfl) (fun a w hS _ hd => ?_)
          have e39 : a.eval (.tmp 39) = u2 := hd 39 rfl
          subst hS
          exact run_conv rfl e39 y2
        · refine asked_pure rfl (fun _ _ => rfl) (fun a w hS hb hd => ?_)
          have e34 : a.eval (.tmp 34) = .string (strOfNums xs) := hd 34 rfl
          have e40 : a.eval (.tmp 40) = .string (strOfNums xs) := hd 40 rfl
          (simp only [execOp]; try simp only [Option.map]); (try simp only [List.map_toArray, List.map_cons, List.map_nil]); (simp only [e34, e40]; go_simp)
        · refine asked_pure rfl (fun _ _ => rfl) (fun a w hS hb hd => ?_)
          have e28 : a.eval (.tmp 28) = .bool false := hd 28 rfl
          have e41 : a.eval (.tmp 41) = .bool false := hd 41 rfl
          (simp only [execOp]; try simp only [Option.map]); (try simp only [List.map_toArray, List.map_cons, List.map_nil]); (simp only [e28, e41]; go_simp)
      · intro s W hW hs
        have h42 : s 42 = .bool false := hs 42 rfl
        subst hW
        clear hs x1 x2 y1 y2 z1 z2
        simp [overlay, dstsOf, h42]
        go_wp2_with fail
        go_roundw
        case rel => exact ⟨i + 1, by omega, by go_num, hB'⟩
        case measure => simp [intOf]; omega
    · obtain rfl : i = fs.length := by omega
      go_wp2_with fail
      go_ret
      exact ⟨rfl, hBr⟩
end Go.Proofs.Ytlonniegaaocoaa
