/- The walk of the law LebReads: the two readers go side by side. -/
import Derived.Test.YtocjongjgbccnaaAwake
import Derived.Test.YtocjongjgbccnaaInt
import Derived.Test.YtocjongjgbccnaaMore
import Derived.Test.YtocjongjgbccnaaRefMore
import Derived.Deep.RegionHeld
namespace Go.Proofs.Ytocjongjgbccnaa
open Go.RowKit

/-- Where the acts lie, and that each is three numbers. -/
def IsActs (w : World) (a : Option Addr) (len : Nat) : Prop :=
  0 < len → ∃ b off, a = some ⟨b, off, none⟩ ∧ b < w.heap.size ∧ ∀ i, i < len → ∃ k n c : Int, w.cell? ⟨b, off + i * 3, none⟩ = some (.int .u8 k) ∧ w.cell? ⟨b, off + i * 3 + 1, none⟩ = some (.int .i64 n) ∧ w.cell? ⟨b, off + i * 3 + 2, none⟩ = some (.int .u8 c) ∧
    (0 ≤ k ∧ k ≤ 255) ∧ (-9223372036854775808 ≤ n ∧ n ≤ 9223372036854775807) ∧ (0 ≤ c ∧ c ≤ 255)

/-- Both readers: the same bytes are left, the same fault; what was there before the call is as it was. -/
structure Both (w W : World) (p br q bq : Nat) (ys : List Int) (code : Int) : Prop where
  r : RdrAt W p br ys code
  s : RdrAt W q bq ys code
  bel : Below w.heap.size w W
  len : ys.length ≤ 2000
  hp : w.heap.size ≤ p
  hq : w.heap.size ≤ q
  pq : p ≠ q
  qbr : q ≠ br
  pbq : p ≠ bq

theorem Both.below {w W W' : World} {p br q bq : Nat} {ys : List Int} {code : Int} (h : Both w W p br q bq ys code) (hb : Below W.heap.size W W') : Both w W' p br q bq ys code :=
  ⟨h.r.below hb, h.s.below hb, bel_of h.bel hb, h.len, h.hp, h.hq, h.pq, h.qbr, h.pbq⟩

/-- A block that isn't theirs is written. -/
theorem Both.other {w W W' : World} {p br q bq g : Nat} {ys : List Int} {code : Int} (h : Both w W p br q bq ys code) (hg : W.grownBy W' (some g)) (h0 : w.heap.size ≤ g) (h1 : g ≠ p) (h2 : g ≠ br) (h3 : g ≠ q) (h4 : g ≠ bq) : Both w W' p br q bq ys code :=
  ⟨h.r.kept hg h1 h2, h.s.kept hg h3 h4, h.bel.grown hg h.bel.size (fun k hk => by simp at hk; omega), h.len, h.hp, h.hq, h.pq, h.qbr, h.pbq⟩

/-- The one reader has gone on, then the other one. -/
theorem Both.on {w W W1 W2 : World} {p br q bq : Nat} {ys zs : List Int} {code c : Int} (h : Both w W p br q bq ys code) (r1 : RdrAt W1 p br zs c) (g1 : W.grownBy W1 (some p)) (r2 : RdrAt W2 q bq zs c) (g2 : W1.grownBy W2 (some q)) (hl : zs.length ≤ 2000) : Both w W2 p br q bq zs c := by
  have hpq := h.pq
  have hqbr := h.qbr
  have hp := h.hp
  have hq := h.hq
  have b1 := h.bel.grown g1 h.bel.size (fun k hk => by simp at hk; omega)
  exact ⟨r1.kept g2 (fun e => hpq e.symm) hqbr, r2, b1.grown g2 b1.size (fun k hk => by simp at hk; omega), hl, hp, hq, hpq, hqbr, h.pbq⟩

theorem Both.s1 {w W W1 : World} {p br q bq : Nat} {ys : List Int} {code : Int} (h : Both w W p br q bq ys code) (g1 : W.grownBy W1 (some p)) : RdrAt W1 q bq ys code := h.s.kept g1 h.pq h.pbq

theorem RdrAt.new' {w : World} {t : TypeId} {v : Value} {xs : List Int} {b : Nat} {code : Int} (h : BytAt b w v xs) (hb : b ≠ w.heap.size) :
    RdrAt (w.alloc (.cells #[v, .int .i64 code] t)) w.heap.size b xs code := by
  have hn := heap_alloc_new w (.cells #[v, .int .i64 code] t)
  refine ⟨v, ?_, ?_, ?_, ?_, h.below ((Below.refl w.heap.size w).alloc (Nat.le_refl _) _) (fun hp => h.lt hp), hb⟩
  · rw [cell_of_row _ _ _ _ _ _ hn]; rfl
  · rw [cell_of_row _ _ _ _ _ _ hn]; rfl
  · exact frozen_of_row _ _ _ _ _ hn
  · exact frozen_of_row _ _ _ _ _ hn

theorem owns_form {w : World} {base : Nat} {v : Value} {n : Nat} {xs : List Value} (h : w.ownsRow base 5 1 v n xs) : ∃ ai cap, v = .slice ai n cap ∧ (0 < n → ∃ g, ai = some ⟨g, 0, none⟩ ∧ base ≤ g ∧ g < w.heap.size) := by
  have hl := h.lt
  rcases h.2 with ⟨rfl, rfl⟩ | ⟨g, cap, cur, rfl, _⟩
  · exact ⟨none, 0, rfl, fun h => by omega⟩
  · exact ⟨_, cap, rfl, fun _ => ⟨g, rfl, hl g rfl⟩⟩

theorem apart2 {w : World} {v : Value} {xs : List Int} (h : Byt w v xs) (p q : Nat) (hp : w.heap.size ≤ p) (hq : w.heap.size ≤ q) : ∃ b, BytAt b w v xs ∧ b ≠ p ∧ b ≠ q ∧ (b < w.heap.size ∨ p + q < b) := by
  obtain ⟨b, hb⟩ := h
  by_cases h0 : 0 < xs.length
  · have := hb.lt h0
    exact ⟨b, hb, by omega, by omega, by omega⟩
  · obtain ⟨h1, ao, cap, h2, h3, h4, h5, h6⟩ := hb
    exact ⟨p + q + 1, ⟨h1, ao, cap, h2, h3, h4, h5, fun hp => absurd hp h0⟩, by omega, by omega, by omega⟩

set_option maxHeartbeats 4000000 in
set_option maxRecDepth 100000 in
theorem walk_few (a0 : Option Addr) (cap0 : Nat) (xs : List Int) (a1 : Option Addr) (len1 cap1 : Nat) (w : World) (hv : Byt w (.slice a0 xs.length cap0) xs) (hx : xs.length ≤ 2000) (wl : len1 ≤ maxLen) (w1 : IsActs w a1 len1) :
    Calls Try.prog 4 #[.slice a0 xs.length cap0, .slice a1 len1 cap1] w fun e w' => e = .returned (.bool true) ∧ Below w.heap.size w w' := by
  have hb0 : Hid (∀ x ∈ xs, 0 ≤ x ∧ x < 256) := by obtain ⟨_, h, _⟩ := hv; exact h
  obtain ⟨i0, hi, hz0, hz1, hz2⟩ := info_parts info5
  unfold maxLen at wl
  go_enter Try.func4, Try.ntmps4
  go_wp2_with fail
  refine (awake_any _).mono ?_
  rintro e wa ⟨rfl, hBa⟩
  have hE := owns_empty wa wa.heap.size (Nat.le_refl _)
  have hBE := (Below.refl wa.heap.size wa).alloc (Nat.le_refl _) (.cells #[] 5)
  go_wp2_with (at_builtin; go_must (refine wpList_append_byt _ rfl (.tmp 17) (.tmp 18) 22 rfl wa.heap.size i0 Try.underlying22 hi hz0 hz1 hz2 _ _ _ rfl hE _ xs rfl ((hv.below hBa).below hBE) (by omega) (by simp) ?_))
  intro vi w2 hown2 hg2
  have hB2 : Below wa.heap.size wa w2 := hBE.grown hg2 (by simp) (fun k hk => (hE.lt k hk).1)
  have hzw2 : wa.heap.size < w2.heap.size := by have := hg2.size; simp at this; omega
  have hB2' := bel_of hBa hB2
  have hwa := hBa.size
  obtain ⟨gi, hgi, hin⟩ := BytAt.of_owns hown2 hb0.out
  clear hE hBE hg2 hi hz0 hz1 hz2 hB2 hBa
  go_wp2_with fail
  refine (new_any vi xs w2 ⟨gi, hin⟩ (by omega)).mono ?_
  rintro e w3 ⟨p, br, rfl, hp, hbr, hbr1, hR, hB3⟩
  obtain ⟨bq, hbq, n1, n2, n3⟩ := apart2 hv p w3.heap.size (by omega) (by have := hB3.size; omega)
  have hB3' := bel_of hB2' hB3
  have hQ := RdrAt.new' (t := 34) (code := 0) (hbq.below hB3' (fun hp => hbq.lt hp)) n2
  have hA := (Below.refl w3.heap.size w3).alloc (Nat.le_refl _) (.cells #[.slice a0 xs.length cap0, .int .i64 0] 34)
  have hboth : Both w (w3.alloc (.cells #[.slice a0 xs.length cap0, .int .i64 0] 34)) p br w3.heap.size bq xs 0 :=
    ⟨hR.below hA, hQ, bel_of hB3' hA, hx, by omega, by have := hB3'.size; omega, by have := hR.lt; omega, by omega, by omega⟩
  obtain ⟨ai, capi, rfl, hgi2⟩ := owns_form hown2
  have hown4 := (hown2.kept (grownBy_below hB3 none) (by simp [Value.ownBlock]; cases ai <;> simp)).alloc (.cells #[.slice a0 xs.length cap0, .int .i64 0] 34)
  have hw3 := hB3.size
  have hq3 := hR.lt
  have hw2 := hB2'.size
  clear hin hown2 hB2' hB3 hR hv hbq hB3' hQ hA
  go_wp2_with fail
  generalize w3.heap.size = q at *
  go_loopw [8, 27] (fun _ iv wr => ∃ (k : Nat) (zs : List Int), k ≤ xs.length ∧ iv = .int .i64 k ∧ zs.length = xs.length ∧ wr.ownsRow wa.heap.size 5 1 (.slice ai xs.length capi) xs.length (zs.map (Value.int .u8)) ∧ Both w wr p br q bq xs 0)
    (fun _ iv _ => xs.length - (intOf iv).toNat)
  case atStart => exact ⟨0, xs, by omega, rfl, rfl, hown4, hboth⟩
  case round =>
    obtain ⟨k, zs, hk, rfl, hzl, hown, hbo⟩ := hrel
    by_cases hlt : k < xs.length
    · obtain ⟨g, rfl, hg1, hg2⟩ := hgi2 (by omega)
      have hc := hown.cellAt k (by omega)
      rw [List.getElem?_map, List.getElem?_eq_getElem (by omega), Option.map_some] at hc
      have hf := hown.frozenAt k
      generalize zs[k] = z at hc
      have HZ := hide hzl
      have hst := hown.stored k (.int .u8 (bits .xor .u8 z 255))
      have hbo2 := hbo.other hst.2 (by omega) (by omega) (by omega) (by omega) (by omega)
      have hst1 := hst.1
      have hset : ((zs.map (Value.int .u8)).set k (.int .u8 (bits .xor .u8 z 255))) = (zs.set k (bits .xor .u8 z 255)).map (Value.int .u8) := by rw [List.map_set]
      rw [hset] at hst1
      clear hst hown hbo hset hboth hown4 hzl
      go_wp2_with fail
      go_roundw
      case rel => exact ⟨k + 1, zs.set k (bits .xor .u8 z 255), by omega, by go_num, by rw [List.length_set]; exact HZ.out, hst1, hbo2⟩
      case measure => simp [intOf]; omega
    · obtain rfl : k = xs.length := by omega
      clear hown hboth hown4 hzl hgi2
      clear hgi hwa hp hbr hbr1 n1 n2 n3 hzw2 hw3 hq3 hw2
      go_wp2_with fail
      go_loopw [9, 10, 11, 39] (fun _ _ _ iv wr => ∃ (k : Nat) (ys : List Int) (code : Int), k ≤ len1 ∧ k ≤ 61 ∧ iv = .int .i64 k ∧ Both w wr p br q bq ys code)
        (fun _ _ _ iv _ => 62 - (intOf iv).toNat)
      case atStart => exact ⟨0, xs, 0, by omega, by omega, rfl, hbo⟩
      case round =>
        obtain ⟨k, ys, code, hk, hk61, rfl, hbo2⟩ := hrel
        clear hbo
        by_cases hlt : k < len1
        · obtain ⟨ba, offa, rfl, hba, hact⟩ := w1 (by omega)
          obtain ⟨ak, an, ac, c0, c1, c2, bk, bn, bc⟩ := hact k hlt
          have d0 := (hbo2.bel.cell (p := ⟨ba, offa + k * 3, none⟩) hba).trans c0
          have d1 := (hbo2.bel.cell (p := ⟨ba, offa + k * 3 + 1, none⟩) hba).trans c1
          have d2 := (hbo2.bel.cell (p := ⟨ba, offa + k * 3 + 2, none⟩) hba).trans c2
          clear c0 c1 c2 hact
          by_cases h60 : 60 < k
          · have hbel := hbo2.bel.alloc hbo2.bel.size (.cells #[.int .u8 ak, .int .i64 an, .int .u8 ac] 36)
            clear hbo2 w1
            go_wp2_with fail
            go_ret
            exact ⟨rfl, hbel⟩
          · have hbo3 := hbo2.below ((Below.refl wr.heap.size wr).alloc (Nat.le_refl _) (.cells #[.int .u8 ak, .int .i64 an, .int .u8 ac] 36))
            have hbo2p := hbo2.r.lt
            have hbo2q := hbo2.s.lt
            clear hbo2 w1
            obtain ⟨bk0, bk1⟩ := bk
            obtain ⟨bc0, bc1⟩ := bc
            have BN := hide bn
            clear bn
            by_cases j0 : ak % 7 = 0
            · go_wp2_with fail
              refine (num_any p br ys code _ hbo3.r).mono ?_
              rintro e w5 ⟨rfl, hr5, hg5⟩
              have hs5 := hbo3.s1 hg5
              go_wp2_with fail
              refine (refNum_any q bq ys code _ hs5).mono ?_
              rintro e w6 ⟨rfl, hr6, hg6⟩
              have hbo6 := hbo3.on hr5 hg5 hr6 hg6 (Nat.le_trans (Leb.numL_len _ _) hbo3.len)
              generalize Leb.numL ys code = ys6 at *
              generalize Leb.numC ys code = code6 at *
              clear hbo3 hr5 hg5 hs5 hr6 hg6
              have hd := hbo6.below ((Below.refl _ _).drew)
              clear hbo6
              obtain ⟨vq, e1, e2, e3, e4, e5, e6⟩ := hd.s
              obtain ⟨_, aq, cq, rfl, _⟩ := e5
              clear e3 e4 e6
              go_wp2_with fail
              go_region_held (fun W => W.cell? ⟨q, 1, none⟩ = some (.int .i64 code6) ∧ W.cell? ⟨q, 0, none⟩ = some (.slice aq ys6.length cq)) (first | assumption | exact ⟨e2, e1⟩)
                (first
                  | (go_at_call 27; refine (code_any p br ys6 code6 _ hd.r).mono ?_; rintro e w7 ⟨rfl, rfl⟩)
                  | (go_at_call 28; refine (left_any p br ys6 code6 _ hd.r).mono ?_; rintro e w8 ⟨rfl, rfl⟩))
              all_goals
                go_wp2_with fail
                go_roundw
                case rel => exact ⟨k + 1, ys6, code6, by omega, by omega, by go_num, hd⟩
                case measure => simp [intOf]; omega
            · by_cases j1 : ak % 7 = 1
              · go_wp2_with fail
                refine (num_any p br ys code _ hbo3.r).mono ?_
                rintro e w5 ⟨rfl, hr5, hg5⟩
                have hs5 := hbo3.s1 hg5
                go_wp2_with fail
                refine (refNum_any q bq ys code _ hs5).mono ?_
                rintro e w6 ⟨rfl, hr6, hg6⟩
                have hbo6 := hbo3.on hr5 hg5 hr6 hg6 (Nat.le_trans (Leb.numL_len _ _) hbo3.len)
                generalize Leb.numL ys code = ys6 at *
                generalize Leb.numC ys code = code6 at *
                clear hbo3 hr5 hg5 hs5 hr6 hg6
                have hd := hbo6.below ((Below.refl _ _).drew)
                clear hbo6
                obtain ⟨vq, e1, e2, e3, e4, e5, e6⟩ := hd.s
                obtain ⟨_, aq, cq, rfl, _⟩ := e5
                clear e3 e4 e6
                go_wp2_with fail
                go_region_held (fun W => W.cell? ⟨q, 1, none⟩ = some (.int .i64 code6) ∧ W.cell? ⟨q, 0, none⟩ = some (.slice aq ys6.length cq)) (first | assumption | exact ⟨e2, e1⟩)
                  (first
                    | (go_at_call 27; refine (code_any p br ys6 code6 _ hd.r).mono ?_; rintro e w7 ⟨rfl, rfl⟩)
                    | (go_at_call 28; refine (left_any p br ys6 code6 _ hd.r).mono ?_; rintro e w8 ⟨rfl, rfl⟩))
                all_goals
                  go_wp2_with fail
                  go_roundw
                  case rel => exact ⟨k + 1, ys6, code6, by omega, by omega, by go_num, hd⟩
                  case measure => simp [intOf]; omega
              · by_cases j2 : ak % 7 = 2
                · have hfit : Leb.Fits (Leb.numA ys code) := by
                    obtain ⟨v, _, _, _, _, h5, _⟩ := hbo3.r
                    exact Leb.numA_fits code h5.1
                  go_wp2_with fail
                  refine (int_any p br ys code _ hbo3.r).mono ?_
                  rintro e w5 ⟨rfl, hr5, hg5⟩
                  have hs5 := hbo3.s1 hg5
                  go_wp2_with fail
                  refine (refNum_any q bq ys code _ hs5).mono ?_
                  rintro e w6 ⟨rfl, hr6, hg6⟩
                  have hbo6 := hbo3.on hr5 hg5 hr6 hg6 (Nat.le_trans (Leb.numL_len _ _) hbo3.len)
                  generalize Leb.numL ys code = ys6 at *
                  generalize Leb.numC ys code = code6 at *
                  generalize Leb.numA ys code = n6 at *
                  clear hbo3 hr5 hg5 hs5 hr6 hg6
                  go_wp2_with fail
                  refine (refZag_any n6 _ hfit).mono ?_
                  rintro e w6 ⟨rfl, rfl⟩
                  clear hfit
                  have hd := hbo6.below ((Below.refl _ _).drew)
                  clear hbo6
                  obtain ⟨vq, e1, e2, e3, e4, e5, e6⟩ := hd.s
                  obtain ⟨_, aq, cq, rfl, _⟩ := e5
                  clear e3 e4 e6
                  go_wp2_with fail
                  go_region_held (fun W => W.cell? ⟨q, 1, none⟩ = some (.int .i64 code6) ∧ W.cell? ⟨q, 0, none⟩ = some (.slice aq ys6.length cq)) (first | assumption | exact ⟨e2, e1⟩)
                    (first
                      | (go_at_call 27; refine (code_any p br ys6 code6 _ hd.r).mono ?_; rintro e w7 ⟨rfl, rfl⟩)
                      | (go_at_call 28; refine (left_any p br ys6 code6 _ hd.r).mono ?_; rintro e w8 ⟨rfl, rfl⟩))
                  all_goals
                    go_wp2_with fail
                    go_roundw
                    case rel => exact ⟨k + 1, ys6, code6, by omega, by omega, by go_num, hd⟩
                    case measure => simp [intOf]; omega
                · by_cases j3 : ak % 7 = 3
                  · have hbod := hbo3.below ((Below.refl _ _).drew)
                    have cN : (wr.alloc (.cells #[.int .u8 ak, .int .i64 an, .int .u8 ac] 36)).drew.cell? ⟨wr.heap.size, 1, none⟩ = some (.int .i64 an) := by simp
                    have hpr := hbod.r.lt
                    have hsz : (wr.alloc (.cells #[.int .u8 ak, .int .i64 an, .int .u8 ac] 36)).drew.heap.size = wr.heap.size + 1 := by simp
                    have hqr := hbo2q
                    have hpr2 := hbo2p
                    clear hbo3
                    go_wp2_with fail
                    go_region_held (fun W => W.cell? ⟨wr.heap.size, 1, none⟩ = some (.int .i64 an)) (first | assumption | exact cN6 | exact cN5 | exact cN)
                      (first
                        | (go_at_call 19; refine (below_any p br ys code an _ hbod.r BN.out.2).mono ?_; rintro e w5 ⟨rfl, hr5, hg5⟩; have hs5 := hbod.s1 hg5; have cN5 := hg5.cell cN (by simp; omega))
                        | (go_at_call 20; refine (refBelow_any q bq ys code an _ hs5 BN.out.2).mono ?_; rintro e w6 ⟨rfl, hr6, hg6⟩; have cN6 := hg6.cell cN5 (by simp; omega)))
                    have hbo6 := hbod.on hr5 hg5 hr6 hg6 (Nat.le_trans (Leb.numL_len _ _) hbod.len)
                    clear hbod hr5 hg5 hs5 hr6 hg6 cN cN5 cN6 hpr hsz hqr hpr2
                    generalize Leb.numL ys code = ys6 at *
                    generalize Leb.belC (Leb.numA ys code) (Leb.numC ys code) an = code6 at *
                    have hd := hbo6.below ((Below.refl _ _).drew)
                    clear hbo6
                    obtain ⟨vq, e1, e2, e3, e4, e5, e6⟩ := hd.s
                    obtain ⟨_, aq, cq, rfl, _⟩ := e5
                    clear e3 e4 e6
                    go_wp2_with fail
                    go_region_held (fun W => W.cell? ⟨q, 1, none⟩ = some (.int .i64 code6) ∧ W.cell? ⟨q, 0, none⟩ = some (.slice aq ys6.length cq)) (first | assumption | exact ⟨e2, e1⟩)
                      (first
                        | (go_at_call 27; refine (code_any p br ys6 code6 _ hd.r).mono ?_; rintro e w7 ⟨rfl, rfl⟩)
                        | (go_at_call 28; refine (left_any p br ys6 code6 _ hd.r).mono ?_; rintro e w8 ⟨rfl, rfl⟩))
                    all_goals
                      go_wp2_with fail
                      go_roundw
                      case rel => exact ⟨k + 1, ys6, code6, by omega, by omega, by go_num, hd⟩
                      case measure => simp [intOf]; omega
                  · by_cases j4 : ak % 7 = 4
                    · have hbod := hbo3.below ((Below.refl _ _).drew)
                      have cN : (wr.alloc (.cells #[.int .u8 ak, .int .i64 an, .int .u8 ac] 36)).drew.cell? ⟨wr.heap.size, 1, none⟩ = some (.int .i64 an) := by simp
                      have hqr := hbod.s.lt
                      clear hbo3
                      go_wp2_with fail
                      go_region_held (fun W => W.cell? ⟨wr.heap.size, 1, none⟩ = some (.int .i64 an)) (first | assumption | exact cN6 | exact cN5 | exact cN)
                        (first
                          | (go_at_call 21; refine (bytes_any p br ys code an _ hbod.r (by have := hbod.len; omega)).mono ?_; rintro e w5 ⟨v5, g5, rfl, hge5, hy5, hr5, hg5⟩; have hs5 := hbod.s1 hg5; have cN5 := hg5.cell cN (by simp; omega); have x5 := str_conv ⟨g5, hy5⟩)
                          | (go_at_call 22; refine (refBytes_any q bq ys code an _ hs5).mono ?_; rintro e w6 ⟨v6, rfl, hy6, hr6, hg6⟩; have cN6 := hg6.cell cN5 (by simp; omega); have x56 := str_conv ⟨g5, hy5.kept hg6 (by omega)⟩; have x6 := str_conv hy6))
                      all_goals
                        have hbo6 := hbod.on hr5 hg5 hr6 hg6 (Nat.le_trans (Leb.bytL_len _ _ _) hbod.len)
                        clear hbod hr5 hg5 hs5 hr6 hg6 cN cN5 cN6 hqr x5 x56 x6 hy5 hy6 hge5
                        generalize Leb.bytL ys code an = ys6 at *
                        generalize Leb.bytC ys code an = code6 at *
                        have hd := hbo6.below ((Below.refl _ _).drew)
                        clear hbo6
                        obtain ⟨vq, e1, e2, e3, e4, e5, e6⟩ := hd.s
                        obtain ⟨_, aq, cq, rfl, _⟩ := e5
                        clear e3 e4 e6
                        go_wp2_with fail
                        go_region_held (fun W => W.cell? ⟨q, 1, none⟩ = some (.int .i64 code6) ∧ W.cell? ⟨q, 0, none⟩ = some (.slice aq ys6.length cq)) (first | assumption | exact ⟨e2, e1⟩)
                          (first
                            | (go_at_call 27; refine (code_any p br ys6 code6 _ hd.r).mono ?_; rintro e w7 ⟨rfl, rfl⟩)
                            | (go_at_call 28; refine (left_any p br ys6 code6 _ hd.r).mono ?_; rintro e w8 ⟨rfl, rfl⟩))
                        all_goals
                          go_wp2_with fail
                          go_roundw
                          case rel => exact ⟨k + 1, ys6, code6, by omega, by omega, by go_num, hd⟩
                          case measure => simp [intOf]; omega
                    · by_cases j5 : ak % 7 = 5
                      · go_wp2_with fail
                        refine (fail_any p br ys code ac _ hbo3.r).mono ?_
                        rintro e w5 ⟨rfl, hr5, hg5⟩
                        have hs5 := hbo3.s1 hg5
                        have cC5 := hg5.cell (a := ⟨wr.heap.size, 2, none⟩) (v := .int .u8 ac) (by simp) (by simp; omega)
                        go_wp2_with fail
                        refine (refFail_any q bq ys code ac _ hs5).mono ?_
                        rintro e w6 ⟨rfl, hr6, hg6⟩
                        have hbo6 := hbo3.on hr5 hg5 hr6 hg6 hbo3.len
                        generalize ys = ys6 at *
                        generalize Leb.failed code ac = code6 at *
                        clear hbo3 hr5 hg5 hs5 hr6 hg6 cC5
                        have hd := hbo6.below ((Below.refl _ _).drew)
                        clear hbo6
                        obtain ⟨vq, e1, e2, e3, e4, e5, e6⟩ := hd.s
                        obtain ⟨_, aq, cq, rfl, _⟩ := e5
                        clear e3 e4 e6
                        go_wp2_with fail
                        go_region_held (fun W => W.cell? ⟨q, 1, none⟩ = some (.int .i64 code6) ∧ W.cell? ⟨q, 0, none⟩ = some (.slice aq ys6.length cq)) (first | assumption | exact ⟨e2, e1⟩)
                          (first
                            | (go_at_call 27; refine (code_any p br ys6 code6 _ hd.r).mono ?_; rintro e w7 ⟨rfl, rfl⟩)
                            | (go_at_call 28; refine (left_any p br ys6 code6 _ hd.r).mono ?_; rintro e w8 ⟨rfl, rfl⟩))
                        all_goals
                          go_wp2_with fail
                          go_roundw
                          case rel => exact ⟨k + 1, ys6, code6, by omega, by omega, by go_num, hd⟩
                          case measure => simp [intOf]; omega
                      · have j6 : ak % 7 = 6 := by omega
                        clear j0 j1 j2 j3 j4 j5
                        go_wp2_with fail
                        refine (end_any p br ys code _ hbo3.r).mono ?_
                        rintro e w5 ⟨rfl, hr5, hg5⟩
                        have hs5 := hbo3.s1 hg5
                        go_wp2_with fail
                        refine (refEnd_any q bq ys code _ hs5).mono ?_
                        rintro e w6 ⟨rfl, hr6, hg6⟩
                        have hbo6 := hbo3.on hr5 hg5 hr6 hg6 hbo3.len
                        generalize Leb.ended ys code = code6 at *
                        generalize ys = ys6 at *
                        clear hbo3 hr5 hg5 hs5 hr6 hg6
                        have hd := hbo6.below ((Below.refl _ _).drew)
                        clear hbo6
                        obtain ⟨vq, e1, e2, e3, e4, e5, e6⟩ := hd.s
                        obtain ⟨_, aq, cq, rfl, _⟩ := e5
                        clear e3 e4 e6
                        go_wp2_with fail
                        go_region_held (fun W => W.cell? ⟨q, 1, none⟩ = some (.int .i64 code6) ∧ W.cell? ⟨q, 0, none⟩ = some (.slice aq ys6.length cq)) (first | assumption | exact ⟨e2, e1⟩)
                          (first
                            | (go_at_call 27; refine (code_any p br ys6 code6 _ hd.r).mono ?_; rintro e w7 ⟨rfl, rfl⟩)
                            | (go_at_call 28; refine (left_any p br ys6 code6 _ hd.r).mono ?_; rintro e w8 ⟨rfl, rfl⟩))
                        all_goals
                          go_wp2_with fail
                          go_roundw
                          case rel => exact ⟨k + 1, ys6, code6, by omega, by omega, by go_num, hd⟩
                          case measure => simp [intOf]; omega
        · have hbel := hbo2.bel
          clear hbo2 w1
          go_wp2_with fail
          go_ret
          exact ⟨rfl, hbel⟩
end Go.Proofs.Ytocjongjgbccnaa
