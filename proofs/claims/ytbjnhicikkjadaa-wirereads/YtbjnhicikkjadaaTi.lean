/- wire's takeList: so many things one behind the other. -/
import Derived.Test.YtbjnhicikkjadaaRl
namespace Go.Proofs.Ytbjnhicikkjadaa
open Go.RowKit Ir Wire

/-- What one of them is. -/
def Vint (_ : Nat) : Int → Value → World → Prop := fun x u _ => u = .int .i64 x ∧ 0 ≤ x ∧ x < 4096
set_option maxHeartbeats 1000000 in
set_option maxRecDepth 100000 in
theorem takeList_int (P : List Int → Pr (Int)) (most p b : Nat) (q : Nat) (xs : List Int) (code : Int) (w : World) (h : Lb.RdrAt w p b xs code) (hb : b < w.heap.size) (hm : most ≤ 70000)
    (ht : ∀ W ys d, w.grownBy W (some p) → Lb.RdrAt W p b ys d → Calls Try.prog 68 #[.pointer (some ⟨q, 0, none⟩)] W (RdPost W p b P ys d (Vint W.heap.size))) :
    Calls Try.prog 93 #[.pointer (some ⟨p, 0, none⟩), .int .i64 most, .func (.func 68) #[] #[.pointer (some ⟨q, 0, none⟩)]] w (RdPost w p b (listP P most) xs code (fun l u W' => ArgsO w.heap.size W' u l)) := by
  have hp := h.lt
  have HB := hide (below_t p b xs code (most + 1) w h (by omega) (by omega))
  have HT := hide ht
  have e1 : ((most + 1 : Nat) : Int) = (most : Int) + 1 := by omega
  rw [e1] at HB
  clear h ht e1
  go_enter Try.func93, Try.ntmps93
  go_wp2_with fail
  refine HB.out.mono ?_
  rintro e w1 ⟨n, u, ys, d, rfl, ⟨rfl, hn0, hn1⟩, hT, hR, hg⟩
  obtain ⟨n, rfl⟩ := Int.eq_ofNat_of_zero_le hn0
  have hn2 : n ≤ 70000 := by omega
  clear HB hn0 hn1
  go_wp2_with fail
  go_loopw [7, 12] (fun lv iv wr => ∃ (j : Nat) (l : List (Int)) (zs : List Int) (c : Int), j ≤ n ∧ l.length = j ∧ iv = .int .i64 j ∧ ArgsO w.heap.size wr lv l ∧ Lb.RdrAt wr p b zs c ∧ w.grownBy wr (some p) ∧ Hid (∀ l' zs' d', Took (repP P (n - j)) zs c l' zs' d' → Took (listP P most) xs code (l ++ l') zs' d')) (fun _ iv _ => n - (intOf iv).toNat)
  case atStart => exact ⟨0, [], ys, d, Nat.zero_le _, rfl, rfl, ArgsO.nil _ _, hR, hg, fun l' zs' d' hh => Took.bind hT (by simpa using hh)⟩
  case round =>
    obtain ⟨j, l, zs, c, hj, hl, rfl, hO, hR, hg, hC⟩ := hrel
    have hz := hg.size
    by_cases hlt : j < n
    · have HK := hide (Lb.code_any p b zs c wr hR)
      by_cases hc : c = 0
      · subst hc
        have HE := hide (HT.out wr zs 0 hg hR)
        have hlB := hR
        obtain ⟨aL, nL, cL, hlv⟩ : ∃ ao n cap, u7 = .slice ao n cap := owns_slice hO
        subst hlv
        clear hR
        go_wp2_with fail
        refine HK.out.mono ?_
        rintro e w2 ⟨rfl, rfl⟩
        clear HK
        go_wp2_with fail
        refine HE.out.mono ?_
        rintro e w3 ⟨a, u, zs2, c2, rfl, hv, hT2, hR2, hg2⟩
        have hg3 := Lb.grownBy_trans hg hg2
        have hO2 := hO.kept hg2 (by omega)
        have hz3 := hg3.size
        clear HE hO hg hg2 hlB
        obtain ⟨rfl, ha0, ha1⟩ := hv
        have hn := heap_alloc_new w3 (.cells #[.int .i64 a] 3)
        have hbx := bel1' w3 (.cells #[.int .i64 a] 3)
        have hO3 : ArgsO w.heap.size (w3.alloc (.cells #[.int .i64 a] 3)) (.slice aL nL cL) l := hO2.kept (Lb.grownBy_below hbx (some p)) (by omega)
        have hR3 := hR2.below hbx
        have hg4 := Lb.grownBy_trans hg3 (Lb.grownBy_below hbx (some p))
        clear hO2 hR2 hg3 hbx
        go_wp2_with (at_builtin; go_must (refine snoc_int (B := w.heap.size) (.tmp 17) (.tmp 20) rfl rfl hO3 hn rfl rfl (by omega) (by simp; omega) ?_))
        intro v' w4 hO4 hg5
        have hown : ∀ k, (Value.slice aL nL cL).ownBlock = some k → w.heap.size ≤ k := fun k hk => (hO3.lt k hk).1
        have hg6 := grown_new hg4 hg5 hown
        have hR4 := rdr_kept hR3 hg5 (fun e => by have := hown p e; omega) (fun e => by have := hown b e; omega)
        have hC2 : Hid (∀ l' zs' d', Took (repP P (n - (j + 1))) zs2 c2 l' zs' d' → Took (listP P most) xs code ((l ++ [a]) ++ l') zs' d') := by
          intro l' zs' d' hh
          have := hC.out (a :: l') zs' d' (by
            rw [show n - j = (n - (j + 1)) + 1 by omega]
            exact Took.cons hT2 hh)
          simpa using this
        have hl2 : (l ++ [a]).length = j + 1 := by simp [hl]
        clear hO3 hn hR3 hg4 hg5 hown hC hT2
        go_wp2_with fail
        go_roundw
        case rel => exact ⟨j + 1, l ++ [a], zs2, c2, by omega, hl2, by go_num, hO4, hR4, hg6, hC2⟩
        case measure => simp [intOf]; omega
      · have hb0 : (c == 0) = false := by simp [hc]
        have hfin := hide ((hC.out [] zs c (Took.stay _ hc _ _)).any hc [] zs)
        have HC0 := hide hc
        clear hC hc hO
        go_wp2_with fail
        refine HK.out.mono ?_
        rintro e w2 ⟨rfl, rfl⟩
        clear HK
        go_wp2_with fail
        go_ret
        exact ⟨[], _, zs, c, rfl, ArgsO.nil _ _, hfin.out, hR, hg⟩
    · obtain rfl : j = n := by omega
      have hfin : Took (listP P most) xs code l zs c := by
        have := hC.out [] zs c (by rw [Nat.sub_self]; exact Took.pure _ _ _)
        simpa using this
      obtain ⟨aL, nL, cL, hlv⟩ : ∃ ao n cap, u7 = .slice ao n cap := owns_slice hO
      subst hlv
      go_wp2_with fail
      go_ret
      exact ⟨l, _, zs, c, rfl, hO, hfin, hR, hg⟩
/-- What one of them is. -/
def Vins (B : Nat) : Ins → Value → World → Prop := fun x u W' => ∃ ua, u = insV x ua ∧ ArgsO B W' ua x.args
set_option maxHeartbeats 1000000 in
set_option maxRecDepth 100000 in
theorem takeList_ins (P : List Int → Pr (Ins)) (most p b : Nat) (q : Nat) (xs : List Int) (code : Int) (w : World) (h : Lb.RdrAt w p b xs code) (hb : b < w.heap.size) (hm : most ≤ 70000)
    (ht : ∀ W ys d, w.grownBy W (some p) → Lb.RdrAt W p b ys d → Calls Try.prog 70 #[.pointer (some ⟨q, 0, none⟩)] W (RdPost W p b P ys d (Vins W.heap.size))) :
    Calls Try.prog 74 #[.pointer (some ⟨p, 0, none⟩), .int .i64 most, .func (.func 70) #[] #[.pointer (some ⟨q, 0, none⟩)]] w (RdPost w p b (listP P most) xs code (fun l u W' => InssO w.heap.size W' u l)) := by
  have hp := h.lt
  have HB := hide (below_t p b xs code (most + 1) w h (by omega) (by omega))
  have HT := hide ht
  have e1 : ((most + 1 : Nat) : Int) = (most : Int) + 1 := by omega
  rw [e1] at HB
  clear h ht e1
  go_enter Try.func74, Try.ntmps74
  go_wp2_with fail
  refine HB.out.mono ?_
  rintro e w1 ⟨n, u, ys, d, rfl, ⟨rfl, hn0, hn1⟩, hT, hR, hg⟩
  obtain ⟨n, rfl⟩ := Int.eq_ofNat_of_zero_le hn0
  have hn2 : n ≤ 70000 := by omega
  clear HB hn0 hn1
  go_wp2_with fail
  go_loopw [7, 12] (fun lv iv wr => ∃ (j : Nat) (l : List (Ins)) (zs : List Int) (c : Int), j ≤ n ∧ l.length = j ∧ iv = .int .i64 j ∧ InssO w.heap.size wr lv l ∧ Lb.RdrAt wr p b zs c ∧ w.grownBy wr (some p) ∧ Hid (∀ l' zs' d', Took (repP P (n - j)) zs c l' zs' d' → Took (listP P most) xs code (l ++ l') zs' d')) (fun _ iv _ => n - (intOf iv).toNat)
  case atStart => exact ⟨0, [], ys, d, Nat.zero_le _, rfl, rfl, InssO.nil _ _, hR, hg, fun l' zs' d' hh => Took.bind hT (by simpa using hh)⟩
  case round =>
    obtain ⟨j, l, zs, c, hj, hl, rfl, hO, hR, hg, hC⟩ := hrel
    have hz := hg.size
    by_cases hlt : j < n
    · have HK := hide (Lb.code_any p b zs c wr hR)
      by_cases hc : c = 0
      · subst hc
        have HE := hide (HT.out wr zs 0 hg hR)
        have hlB := hR
        obtain ⟨aL, nL, cL, hlv⟩ : ∃ ao n cap, u7 = .slice ao n cap := by obtain ⟨_, _, h2, _⟩ := hO; exact owns_slice h2
        subst hlv
        clear hR
        go_wp2_with fail
        refine HK.out.mono ?_
        rintro e w2 ⟨rfl, rfl⟩
        clear HK
        go_wp2_with fail
        refine HE.out.mono ?_
        rintro e w3 ⟨a, u, zs2, c2, rfl, hv, hT2, hR2, hg2⟩
        have hg3 := Lb.grownBy_trans hg hg2
        have hO2 := hO.kept hg2 (by omega)
        have hz3 := hg3.size
        clear HE hO hg hg2 hlB
        obtain ⟨ua, rfl, hA⟩ := hv
        obtain ⟨auu, cuu, rfl⟩ := hA.v.slice
        unfold insV
        have hn := heap_alloc_new w3 (.cells #[.int .u8 a.k, .int .u8 a.op, .int .i64 a.d, .int .i64 a.a, .int .i64 a.b, .int .i64 a.n, .slice auu a.args.length cuu] 86)
        have hbx := bel1' w3 (.cells #[.int .u8 a.k, .int .u8 a.op, .int .i64 a.d, .int .i64 a.a, .int .i64 a.b, .int .i64 a.n, .slice auu a.args.length cuu] 86)
        have hO3 : InssO w.heap.size (w3.alloc (.cells #[.int .u8 a.k, .int .u8 a.op, .int .i64 a.d, .int .i64 a.a, .int .i64 a.b, .int .i64 a.n, .slice auu a.args.length cuu] 86)) (.slice aL nL cL) l := hO2.kept (Lb.grownBy_below hbx (some p)) (by omega)
        have hR3 := hR2.below hbx
        have hg4 := Lb.grownBy_trans hg3 (Lb.grownBy_below hbx (some p))
        have hA3 := (hA.kept (Lb.grownBy_below hbx (some p)) (by omega)).mono (B' := w.heap.size) (by omega)
        clear hO2 hR2 hg3 hbx
        go_wp2_with (at_builtin; go_must (refine snoc_ins (B := w.heap.size) (.tmp 17) (.tmp 20) rfl rfl hO3 hn hA3 rfl rfl (by omega) (by simp; omega) ?_))
        intro v' w4 hO4 hg5
        have hown : ∀ k, (Value.slice aL nL cL).ownBlock = some k → w.heap.size ≤ k := by obtain ⟨_, _, h2, _⟩ := hO3; exact fun k hk => (h2.lt k hk).1
        have hg6 := grown_new hg4 hg5 hown
        have hR4 := rdr_kept hR3 hg5 (fun e => by have := hown p e; omega) (fun e => by have := hown b e; omega)
        have hC2 : Hid (∀ l' zs' d', Took (repP P (n - (j + 1))) zs2 c2 l' zs' d' → Took (listP P most) xs code ((l ++ [a]) ++ l') zs' d') := by
          intro l' zs' d' hh
          have := hC.out (a :: l') zs' d' (by
            rw [show n - j = (n - (j + 1)) + 1 by omega]
            exact Took.cons hT2 hh)
          simpa using this
        have hl2 : (l ++ [a]).length = j + 1 := by simp [hl]
        clear hO3 hn hR3 hg4 hg5 hown hC hT2 hA3
        go_wp2_with fail
        go_roundw
        case rel => exact ⟨j + 1, l ++ [a], zs2, c2, by omega, hl2, by go_num, hO4, hR4, hg6, hC2⟩
        case measure => simp [intOf]; omega
      · have hb0 : (c == 0) = false := by simp [hc]
        have hfin := hide ((hC.out [] zs c (Took.stay _ hc _ _)).any hc [] zs)
        have HC0 := hide hc
        clear hC hc hO
        go_wp2_with fail
        refine HK.out.mono ?_
        rintro e w2 ⟨rfl, rfl⟩
        clear HK
        go_wp2_with fail
        go_ret
        exact ⟨[], _, zs, c, rfl, InssO.nil _ _, hfin.out, hR, hg⟩
    · obtain rfl : j = n := by omega
      have hfin : Took (listP P most) xs code l zs c := by
        have := hC.out [] zs c (by rw [Nat.sub_self]; exact Took.pure _ _ _)
        simpa using this
      obtain ⟨aL, nL, cL, hlv⟩ : ∃ ao n cap, u7 = .slice ao n cap := by obtain ⟨_, _, h2, _⟩ := hO; exact owns_slice h2
      subst hlv
      go_wp2_with fail
      go_ret
      exact ⟨l, _, zs, c, rfl, hO, hfin, hR, hg⟩
/-- What one of them is. -/
def Vblk (B : Nat) : Blk → Value → World → Prop := fun x u W' => ∃ ua, u = blkV ua x.e ∧ InssO B W' ua x.ins
set_option maxHeartbeats 1000000 in
set_option maxRecDepth 100000 in
theorem takeList_blk (P : List Int → Pr (Blk)) (most p b : Nat) (q0 q1 q2 : Nat) (xs : List Int) (code : Int) (w : World) (h : Lb.RdrAt w p b xs code) (hb : b < w.heap.size) (hm : most ≤ 70000)
    (ht : ∀ W ys d, w.grownBy W (some p) → Lb.RdrAt W p b ys d → Calls Try.prog 73 #[.pointer (some ⟨q0, 0, none⟩), .pointer (some ⟨q1, 0, none⟩), .pointer (some ⟨q2, 0, none⟩)] W (RdPost W p b P ys d (Vblk W.heap.size))) :
    Calls Try.prog 72 #[.pointer (some ⟨p, 0, none⟩), .int .i64 most, .func (.func 73) #[] #[.pointer (some ⟨q0, 0, none⟩), .pointer (some ⟨q1, 0, none⟩), .pointer (some ⟨q2, 0, none⟩)]] w (RdPost w p b (listP P most) xs code (fun l u W' => BlksO w.heap.size W' u l)) := by
  have hp := h.lt
  have HB := hide (below_t p b xs code (most + 1) w h (by omega) (by omega))
  have HT := hide ht
  have e1 : ((most + 1 : Nat) : Int) = (most : Int) + 1 := by omega
  rw [e1] at HB
  clear h ht e1
  go_enter Try.func72, Try.ntmps72
  go_wp2_with fail
  refine HB.out.mono ?_
  rintro e w1 ⟨n, u, ys, d, rfl, ⟨rfl, hn0, hn1⟩, hT, hR, hg⟩
  obtain ⟨n, rfl⟩ := Int.eq_ofNat_of_zero_le hn0
  have hn2 : n ≤ 70000 := by omega
  clear HB hn0 hn1
  go_wp2_with fail
  go_loopw [7, 12] (fun lv iv wr => ∃ (j : Nat) (l : List (Blk)) (zs : List Int) (c : Int), j ≤ n ∧ l.length = j ∧ iv = .int .i64 j ∧ BlksO w.heap.size wr lv l ∧ Lb.RdrAt wr p b zs c ∧ w.grownBy wr (some p) ∧ Hid (∀ l' zs' d', Took (repP P (n - j)) zs c l' zs' d' → Took (listP P most) xs code (l ++ l') zs' d')) (fun _ iv _ => n - (intOf iv).toNat)
  case atStart => exact ⟨0, [], ys, d, Nat.zero_le _, rfl, rfl, BlksO.nil _ _, hR, hg, fun l' zs' d' hh => Took.bind hT (by simpa using hh)⟩
  case round =>
    obtain ⟨j, l, zs, c, hj, hl, rfl, hO, hR, hg, hC⟩ := hrel
    have hz := hg.size
    by_cases hlt : j < n
    · have HK := hide (Lb.code_any p b zs c wr hR)
      by_cases hc : c = 0
      · subst hc
        have HE := hide (HT.out wr zs 0 hg hR)
        have hlB := hR
        obtain ⟨aL, nL, cL, hlv⟩ : ∃ ao n cap, u7 = .slice ao n cap := by obtain ⟨_, _, h2, _⟩ := hO; exact owns_slice h2
        subst hlv
        clear hR
        go_wp2_with fail
        refine HK.out.mono ?_
        rintro e w2 ⟨rfl, rfl⟩
        clear HK
        go_wp2_with fail
        refine HE.out.mono ?_
        rintro e w3 ⟨a, u, zs2, c2, rfl, hv, hT2, hR2, hg2⟩
        have hg3 := Lb.grownBy_trans hg hg2
        have hO2 := hO.kept hg2 (by omega)
        have hz3 := hg3.size
        clear HE hO hg hg2 hlB
        obtain ⟨ua, rfl, hA⟩ := hv
        obtain ⟨auu, cuu, rfl⟩ := hA.v.slice
        unfold blkV
        have hn := heap_alloc_new w3 (.cells #[.slice auu a.ins.length cuu, .int .u8 a.e.k, .int .i64 a.e.a, .int .i64 a.e.to, .int .i64 a.e.el] 82)
        have hbx := bel1' w3 (.cells #[.slice auu a.ins.length cuu, .int .u8 a.e.k, .int .i64 a.e.a, .int .i64 a.e.to, .int .i64 a.e.el] 82)
        have hO3 : BlksO w.heap.size (w3.alloc (.cells #[.slice auu a.ins.length cuu, .int .u8 a.e.k, .int .i64 a.e.a, .int .i64 a.e.to, .int .i64 a.e.el] 82)) (.slice aL nL cL) l := hO2.kept (Lb.grownBy_below hbx (some p)) (by omega)
        have hR3 := hR2.below hbx
        have hg4 := Lb.grownBy_trans hg3 (Lb.grownBy_below hbx (some p))
        have hA3 := (hA.kept (Lb.grownBy_below hbx (some p)) (by omega)).mono (B' := w.heap.size) (by omega)
        clear hO2 hR2 hg3 hbx
        go_wp2_with (at_builtin; go_must (refine snoc_blk (B := w.heap.size) (.tmp 17) (.tmp 20) rfl rfl hO3 hn hA3 rfl rfl (by omega) (by simp; omega) ?_))
        intro v' w4 hO4 hg5
        have hown : ∀ k, (Value.slice aL nL cL).ownBlock = some k → w.heap.size ≤ k := by obtain ⟨_, _, h2, _⟩ := hO3; exact fun k hk => (h2.lt k hk).1
        have hg6 := grown_new hg4 hg5 hown
        have hR4 := rdr_kept hR3 hg5 (fun e => by have := hown p e; omega) (fun e => by have := hown b e; omega)
        have hC2 : Hid (∀ l' zs' d', Took (repP P (n - (j + 1))) zs2 c2 l' zs' d' → Took (listP P most) xs code ((l ++ [a]) ++ l') zs' d') := by
          intro l' zs' d' hh
          have := hC.out (a :: l') zs' d' (by
            rw [show n - j = (n - (j + 1)) + 1 by omega]
            exact Took.cons hT2 hh)
          simpa using this
        have hl2 : (l ++ [a]).length = j + 1 := by simp [hl]
        clear hO3 hn hR3 hg4 hg5 hown hC hT2 hA3
        go_wp2_with fail
        go_roundw
        case rel => exact ⟨j + 1, l ++ [a], zs2, c2, by omega, hl2, by go_num, hO4, hR4, hg6, hC2⟩
        case measure => simp [intOf]; omega
      · have hb0 : (c == 0) = false := by simp [hc]
        have hfin := hide ((hC.out [] zs c (Took.stay _ hc _ _)).any hc [] zs)
        have HC0 := hide hc
        clear hC hc hO
        go_wp2_with fail
        refine HK.out.mono ?_
        rintro e w2 ⟨rfl, rfl⟩
        clear HK
        go_wp2_with fail
        go_ret
        exact ⟨[], _, zs, c, rfl, BlksO.nil _ _, hfin.out, hR, hg⟩
    · obtain rfl : j = n := by omega
      have hfin : Took (listP P most) xs code l zs c := by
        have := hC.out [] zs c (by rw [Nat.sub_self]; exact Took.pure _ _ _)
        simpa using this
      obtain ⟨aL, nL, cL, hlv⟩ : ∃ ao n cap, u7 = .slice ao n cap := by obtain ⟨_, _, h2, _⟩ := hO; exact owns_slice h2
      subst hlv
      go_wp2_with fail
      go_ret
      exact ⟨l, _, zs, c, rfl, hO, hfin, hR, hg⟩
/-- What one of them is. -/
def Vpr (_ : Nat) : Pair → Value → World → Prop := fun x u _ => u = .agg #[.int .i64 x.v, .int .i64 x.l]
set_option maxHeartbeats 1000000 in
set_option maxRecDepth 100000 in
theorem takeList_pr (P : List Int → Pr (Pair)) (most p b : Nat) (q : Nat) (xs : List Int) (code : Int) (w : World) (h : Lb.RdrAt w p b xs code) (hb : b < w.heap.size) (hm : most ≤ 70000)
    (ht : ∀ W ys d, w.grownBy W (some p) → Lb.RdrAt W p b ys d → Calls Try.prog 51 #[.pointer (some ⟨q, 0, none⟩)] W (RdPost W p b P ys d (Vpr W.heap.size))) :
    Calls Try.prog 54 #[.pointer (some ⟨p, 0, none⟩), .int .i64 most, .func (.func 51) #[] #[.pointer (some ⟨q, 0, none⟩)]] w (RdPost w p b (listP P most) xs code (fun l u W' => PrsO w.heap.size W' u l)) := by
  have hp := h.lt
  have HB := hide (below_t p b xs code (most + 1) w h (by omega) (by omega))
  have HT := hide ht
  have e1 : ((most + 1 : Nat) : Int) = (most : Int) + 1 := by omega
  rw [e1] at HB
  clear h ht e1
  go_enter Try.func54, Try.ntmps54
  go_wp2_with fail
  refine HB.out.mono ?_
  rintro e w1 ⟨n, u, ys, d, rfl, ⟨rfl, hn0, hn1⟩, hT, hR, hg⟩
  obtain ⟨n, rfl⟩ := Int.eq_ofNat_of_zero_le hn0
  have hn2 : n ≤ 70000 := by omega
  clear HB hn0 hn1
  go_wp2_with fail
  go_loopw [7, 12] (fun lv iv wr => ∃ (j : Nat) (l : List (Pair)) (zs : List Int) (c : Int), j ≤ n ∧ l.length = j ∧ iv = .int .i64 j ∧ PrsO w.heap.size wr lv l ∧ Lb.RdrAt wr p b zs c ∧ w.grownBy wr (some p) ∧ Hid (∀ l' zs' d', Took (repP P (n - j)) zs c l' zs' d' → Took (listP P most) xs code (l ++ l') zs' d')) (fun _ iv _ => n - (intOf iv).toNat)
  case atStart => exact ⟨0, [], ys, d, Nat.zero_le _, rfl, rfl, PrsO.nil _ _, hR, hg, fun l' zs' d' hh => Took.bind hT (by simpa using hh)⟩
  case round =>
    obtain ⟨j, l, zs, c, hj, hl, rfl, hO, hR, hg, hC⟩ := hrel
    have hz := hg.size
    by_cases hlt : j < n
    · have HK := hide (Lb.code_any p b zs c wr hR)
      by_cases hc : c = 0
      · subst hc
        have HE := hide (HT.out wr zs 0 hg hR)
        have hlB := hR
        obtain ⟨aL, nL, cL, hlv⟩ : ∃ ao n cap, u7 = .slice ao n cap := owns_slice hO
        subst hlv
        clear hR
        go_wp2_with fail
        refine HK.out.mono ?_
        rintro e w2 ⟨rfl, rfl⟩
        clear HK
        go_wp2_with fail
        refine HE.out.mono ?_
        rintro e w3 ⟨a, u, zs2, c2, rfl, hv, hT2, hR2, hg2⟩
        have hg3 := Lb.grownBy_trans hg hg2
        have hO2 := hO.kept hg2 (by omega)
        have hz3 := hg3.size
        clear HE hO hg hg2 hlB
        have hv := hv
        unfold Vpr at hv
        subst hv
        have hn := heap_alloc_new w3 (.cells #[.int .i64 a.v, .int .i64 a.l] 111)
        have hbx := bel1' w3 (.cells #[.int .i64 a.v, .int .i64 a.l] 111)
        have hO3 : PrsO w.heap.size (w3.alloc (.cells #[.int .i64 a.v, .int .i64 a.l] 111)) (.slice aL nL cL) l := hO2.kept (Lb.grownBy_below hbx (some p)) (by omega)
        have hR3 := hR2.below hbx
        have hg4 := Lb.grownBy_trans hg3 (Lb.grownBy_below hbx (some p))
        clear hO2 hR2 hg3 hbx
        go_wp2_with (at_builtin; go_must (refine snoc_pr (B := w.heap.size) (.tmp 17) (.tmp 20) rfl rfl hO3 hn rfl rfl (by omega) (by simp; omega) ?_))
        intro v' w4 hO4 hg5
        have hown : ∀ k, (Value.slice aL nL cL).ownBlock = some k → w.heap.size ≤ k := fun k hk => (hO3.lt k hk).1
        have hg6 := grown_new hg4 hg5 hown
        have hR4 := rdr_kept hR3 hg5 (fun e => by have := hown p e; omega) (fun e => by have := hown b e; omega)
        have hC2 : Hid (∀ l' zs' d', Took (repP P (n - (j + 1))) zs2 c2 l' zs' d' → Took (listP P most) xs code ((l ++ [a]) ++ l') zs' d') := by
          intro l' zs' d' hh
          have := hC.out (a :: l') zs' d' (by
            rw [show n - j = (n - (j + 1)) + 1 by omega]
            exact Took.cons hT2 hh)
          simpa using this
        have hl2 : (l ++ [a]).length = j + 1 := by simp [hl]
        clear hO3 hn hR3 hg4 hg5 hown hC hT2
        go_wp2_with fail
        go_roundw
        case rel => exact ⟨j + 1, l ++ [a], zs2, c2, by omega, hl2, by go_num, hO4, hR4, hg6, hC2⟩
        case measure => simp [intOf]; omega
      · have hb0 : (c == 0) = false := by simp [hc]
        have hfin := hide ((hC.out [] zs c (Took.stay _ hc _ _)).any hc [] zs)
        have HC0 := hide hc
        clear hC hc hO
        go_wp2_with fail
        refine HK.out.mono ?_
        rintro e w2 ⟨rfl, rfl⟩
        clear HK
        go_wp2_with fail
        go_ret
        exact ⟨[], _, zs, c, rfl, PrsO.nil _ _, hfin.out, hR, hg⟩
    · obtain rfl : j = n := by omega
      have hfin : Took (listP P most) xs code l zs c := by
        have := hC.out [] zs c (by rw [Nat.sub_self]; exact Took.pure _ _ _)
        simpa using this
      obtain ⟨aL, nL, cL, hlv⟩ : ∃ ao n cap, u7 = .slice ao n cap := owns_slice hO
      subst hlv
      go_wp2_with fail
      go_ret
      exact ⟨l, _, zs, c, rfl, hO, hfin, hR, hg⟩
/-- What one of them is. -/
def Vprs (B : Nat) : List Pair → Value → World → Prop := fun x u W' => PrsO B W' u x
set_option maxHeartbeats 1000000 in
set_option maxRecDepth 100000 in
theorem takeList_prs (P : List Int → Pr (List Pair)) (most p b : Nat) (q0 q1 : Nat) (xs : List Int) (code : Int) (w : World) (h : Lb.RdrAt w p b xs code) (hb : b < w.heap.size) (hm : most ≤ 70000)
    (ht : ∀ W ys d, w.grownBy W (some p) → Lb.RdrAt W p b ys d → Calls Try.prog 53 #[.pointer (some ⟨q0, 0, none⟩), .pointer (some ⟨q1, 0, none⟩)] W (RdPost W p b P ys d (Vprs W.heap.size))) :
    Calls Try.prog 52 #[.pointer (some ⟨p, 0, none⟩), .int .i64 most, .func (.func 53) #[] #[.pointer (some ⟨q0, 0, none⟩), .pointer (some ⟨q1, 0, none⟩)]] w (RdPost w p b (listP P most) xs code (fun l u W' => CerO w.heap.size W' u l)) := by
  have hp := h.lt
  have HB := hide (below_t p b xs code (most + 1) w h (by omega) (by omega))
  have HT := hide ht
  have e1 : ((most + 1 : Nat) : Int) = (most : Int) + 1 := by omega
  rw [e1] at HB
  clear h ht e1
  go_enter Try.func52, Try.ntmps52
  go_wp2_with fail
  refine HB.out.mono ?_
  rintro e w1 ⟨n, u, ys, d, rfl, ⟨rfl, hn0, hn1⟩, hT, hR, hg⟩
  obtain ⟨n, rfl⟩ := Int.eq_ofNat_of_zero_le hn0
  have hn2 : n ≤ 70000 := by omega
  clear HB hn0 hn1
  go_wp2_with fail
  go_loopw [7, 12] (fun lv iv wr => ∃ (j : Nat) (l : List (List Pair)) (zs : List Int) (c : Int), j ≤ n ∧ l.length = j ∧ iv = .int .i64 j ∧ CerO w.heap.size wr lv l ∧ Lb.RdrAt wr p b zs c ∧ w.grownBy wr (some p) ∧ Hid (∀ l' zs' d', Took (repP P (n - j)) zs c l' zs' d' → Took (listP P most) xs code (l ++ l') zs' d')) (fun _ iv _ => n - (intOf iv).toNat)
  case atStart => exact ⟨0, [], ys, d, Nat.zero_le _, rfl, rfl, CerO.nil _ _, hR, hg, fun l' zs' d' hh => Took.bind hT (by simpa using hh)⟩
  case round =>
    obtain ⟨j, l, zs, c, hj, hl, rfl, hO, hR, hg, hC⟩ := hrel
    have hz := hg.size
    by_cases hlt : j < n
    · have HK := hide (Lb.code_any p b zs c wr hR)
      by_cases hc : c = 0
      · subst hc
        have HE := hide (HT.out wr zs 0 hg hR)
        have hlB := hR
        obtain ⟨aL, nL, cL, hlv⟩ : ∃ ao n cap, u7 = .slice ao n cap := by obtain ⟨_, _, h2, _⟩ := hO; exact owns_slice h2
        subst hlv
        clear hR
        go_wp2_with fail
        refine HK.out.mono ?_
        rintro e w2 ⟨rfl, rfl⟩
        clear HK
        go_wp2_with fail
        refine HE.out.mono ?_
        rintro e w3 ⟨a, u, zs2, c2, rfl, hv, hT2, hR2, hg2⟩
        have hg3 := Lb.grownBy_trans hg hg2
        have hO2 := hO.kept hg2 (by omega)
        have hz3 := hg3.size
        clear HE hO hg hg2 hlB
        have hA : PrsO _ w3 u a := hv
        obtain ⟨auu, nuu, cuu, rfl⟩ := owns_slice hA
        have hn := heap_alloc_new w3 (.cells #[.slice auu nuu cuu] 64)
        have hbx := bel1' w3 (.cells #[.slice auu nuu cuu] 64)
        have hO3 : CerO w.heap.size (w3.alloc (.cells #[.slice auu nuu cuu] 64)) (.slice aL nL cL) l := hO2.kept (Lb.grownBy_below hbx (some p)) (by omega)
        have hR3 := hR2.below hbx
        have hg4 := Lb.grownBy_trans hg3 (Lb.grownBy_below hbx (some p))
        have hA3 := (hA.kept (Lb.grownBy_below hbx (some p)) (by omega)).mono (B' := w.heap.size) (by omega)
        clear hO2 hR2 hg3 hbx
        go_wp2_with (at_builtin; go_must (refine snoc_prs (B := w.heap.size) (.tmp 17) (.tmp 20) rfl rfl hO3 hn hA3 rfl rfl (by omega) (by simp; omega) ?_))
        intro v' w4 hO4 hg5
        have hown : ∀ k, (Value.slice aL nL cL).ownBlock = some k → w.heap.size ≤ k := by obtain ⟨_, _, h2, _⟩ := hO3; exact fun k hk => (h2.lt k hk).1
        have hg6 := grown_new hg4 hg5 hown
        have hR4 := rdr_kept hR3 hg5 (fun e => by have := hown p e; omega) (fun e => by have := hown b e; omega)
        have hC2 : Hid (∀ l' zs' d', Took (repP P (n - (j + 1))) zs2 c2 l' zs' d' → Took (listP P most) xs code ((l ++ [a]) ++ l') zs' d') := by
          intro l' zs' d' hh
          have := hC.out (a :: l') zs' d' (by
            rw [show n - j = (n - (j + 1)) + 1 by omega]
            exact Took.cons hT2 hh)
          simpa using this
        have hl2 : (l ++ [a]).length = j + 1 := by simp [hl]
        clear hO3 hn hR3 hg4 hg5 hown hC hT2 hA3
        go_wp2_with fail
        go_roundw
        case rel => exact ⟨j + 1, l ++ [a], zs2, c2, by omega, hl2, by go_num, hO4, hR4, hg6, hC2⟩
        case measure => simp [intOf]; omega
      · have hb0 : (c == 0) = false := by simp [hc]
        have hfin := hide ((hC.out [] zs c (Took.stay _ hc _ _)).any hc [] zs)
        have HC0 := hide hc
        clear hC hc hO
        go_wp2_with fail
        refine HK.out.mono ?_
        rintro e w2 ⟨rfl, rfl⟩
        clear HK
        go_wp2_with fail
        go_ret
        exact ⟨[], _, zs, c, rfl, CerO.nil _ _, hfin.out, hR, hg⟩
    · obtain rfl : j = n := by omega
      have hfin : Took (listP P most) xs code l zs c := by
        have := hC.out [] zs c (by rw [Nat.sub_self]; exact Took.pure _ _ _)
        simpa using this
      obtain ⟨aL, nL, cL, hlv⟩ : ∃ ao n cap, u7 = .slice ao n cap := by obtain ⟨_, _, h2, _⟩ := hO; exact owns_slice h2
      subst hlv
      go_wp2_with fail
      go_ret
      exact ⟨l, _, zs, c, rfl, hO, hfin, hR, hg⟩
end Go.Proofs.Ytbjnhicikkjadaa
