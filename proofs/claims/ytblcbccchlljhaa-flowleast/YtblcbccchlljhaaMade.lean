/- Made: a right function out of bytes. -/
import Derived.Test.YtblcbccchlljhaaMade1
import Derived.Test.YtblcbccchlljhaaOpen
import Derived.Test.YtblcbccchlljhaaCheck
namespace Go.Proofs.Ytblcbccchlljhaa
open Go.RowKit Ir

/-- What Made leaves. -/
def MadePost (w : World) (F : Fun) (e : Ending) (w' : World) : Prop := ∃ u, e = .returned (.agg #[.int .i64 F.p, .int .i64 F.v, u]) ∧ BlksO w.heap.size w' u F.bs ∧ Below w.heap.size w w'

theorem zero24_cells {w : World} {g : Nat} (h : w.heap[g]? = some (Obj.cells zero24 28 (0, 0))) : w.cell? ⟨g, 0, none⟩ = some (.int .i64 0) ∧ w.cell? ⟨g, 1, none⟩ = some (.int .i64 0) ∧ w.cell? ⟨g, 2, none⟩ = some (.slice none 0 0) ∧ w.frozen? ⟨g, 0, none⟩ = false ∧ w.frozen? ⟨g, 1, none⟩ = false ∧ w.frozen? ⟨g, 2, none⟩ = false := by
  refine ⟨?_, ?_, ?_, ?_, ?_, ?_⟩
  all_goals first | (rw [cell_of_row _ _ _ _ _ _ h]; rfl) | exact frozen_of_row _ _ _ _ _ h
theorem rowF_cells {w : World} {g : Nat} {p v : Int} {u : Value} (h : w.heap[g]? = some (Obj.cells (rowF p v u) 28 (0, 0))) : w.cell? ⟨g, 0, none⟩ = some (.int .i64 p) ∧ w.cell? ⟨g, 1, none⟩ = some (.int .i64 v) ∧ w.cell? ⟨g, 2, none⟩ = some u := by
  refine ⟨?_, ?_, ?_⟩
  all_goals (rw [cell_of_row _ _ _ _ _ _ h]; rfl)
theorem made_start {w : World} {a b c p vv : Int} {ao : Option Addr} {cap : Nat} {bs : List Int} (hu : Byt w (.slice ao bs.length cap) bs) :
    MadeInv w.heap.size (w.heap.size + 1 + 1 + 1) (w.heap.size + 1 + 1) (w.heap.size + 1) p vv w [] bs (.slice none 0 0) ((((w.alloc (.cells #[.int .u8 a, .int .u8 b, .int .u8 c, .slice ao bs.length cap] 24)).alloc (.cells #[.int .i64 0, .int .i64 0, .slice none 0 0] 28)).alloc (.cells #[.int .i64 p, .int .i64 vv, .slice none 0 0] 28)).alloc (.cells #[.slice ao bs.length cap] 75)) := by
  have z1 : (w.alloc (.cells #[.int .u8 a, .int .u8 b, .int .u8 c, .slice ao bs.length cap] 24)).heap.size = w.heap.size + 1 := by simp
  generalize hW1 : w.alloc (.cells #[.int .u8 a, .int .u8 b, .int .u8 c, .slice ao bs.length cap] 24) = W1 at *
  have B1 : Below w.heap.size w W1 := by rw [← hW1]; exact (Below.refl _ _).alloc (Nat.le_refl _) _
  have h2 := heap_alloc_new W1 (.cells #[.int .i64 0, .int .i64 0, .slice none 0 0] 28)
  have z2 : (W1.alloc (.cells #[.int .i64 0, .int .i64 0, .slice none 0 0] 28)).heap.size = w.heap.size + 1 + 1 := by simp [z1]
  rw [z1] at h2
  have B2 : Below W1.heap.size W1 (W1.alloc (.cells #[.int .i64 0, .int .i64 0, .slice none 0 0] 28)) := (Below.refl _ _).alloc (Nat.le_refl _) _
  generalize W1.alloc (.cells #[.int .i64 0, .int .i64 0, .slice none 0 0] 28) = W2 at *
  have h3 := heap_alloc_new W2 (.cells #[.int .i64 p, .int .i64 vv, .slice none 0 0] 28)
  have z3 : (W2.alloc (.cells #[.int .i64 p, .int .i64 vv, .slice none 0 0] 28)).heap.size = w.heap.size + 1 + 1 + 1 := by simp [z2]
  rw [z2] at h3
  have B3 : Below W2.heap.size W2 (W2.alloc (.cells #[.int .i64 p, .int .i64 vv, .slice none 0 0] 28)) := (Below.refl _ _).alloc (Nat.le_refl _) _
  generalize W2.alloc (.cells #[.int .i64 p, .int .i64 vv, .slice none 0 0] 28) = W3 at *
  have h4 := heap_alloc_new W3 (.cells #[.slice ao bs.length cap] 75)
  rw [z3] at h4
  have B4 : Below W3.heap.size W3 (W3.alloc (.cells #[.slice ao bs.length cap] 75)) := (Below.refl _ _).alloc (Nat.le_refl _) _
  generalize W3.alloc (.cells #[.slice ao bs.length cap] 75) = W4 at *
  have B14 := bel_of (bel_of (bel_of B1 B2) B3) B4
  refine ⟨⟨by omega, _, h4, (BytB.of hu (Nat.le_refl _)).kept fun b hb => B14.block b hb⟩, ?_, BlksO.nil _ _, ?_, B14, B14.size⟩
  · rw [B4.block _ (by omega)]
    exact h3
  · rw [B4.block _ (by omega), B3.block _ (by omega)]
    exact h2

set_option maxHeartbeats 8000000 in
set_option maxRecDepth 100000 in
theorem made_any (va : Value) (a b c : Int) (bs : List Int) (w : World) (h : SpecV w va a b c bs) : Calls Try.prog 8 #[va] w (MadePost w (made a b c bs)) := by
  obtain ⟨i41, hi41, hz41, hs41, hb41⟩ := info_parts info41
  obtain ⟨u, rfl, ha, hb, hc, hu⟩ := h
  obtain ⟨ao, cap, rfl⟩ := hu.slice
  have ta : a.tmod 5 = a % 5 := Int.tmod_eq_emod_of_nonneg ha.1
  have tb : b.tmod 28 = b % 28 := Int.tmod_eq_emod_of_nonneg hb.1
  have tc : c.tmod 7 = c % 7 := Int.tmod_eq_emod_of_nonneg hc.1
  have hvin := vOf_in a b
  obtain ⟨nN, hnN⟩ : ∃ nN : Nat, (nN : Int) = 1 + c % 7 := ⟨(1 + c % 7).toNat, by omega⟩
  have hF : Hid (made a b c bs = ⟨a % 5, vOf a b, (mkBlks (vOf a b) nN nN bs).1⟩) := by
    show _ = _
    unfold made
    rw [← hnN, Int.toNat_natCast]
  generalize hp : a % 5 = p at *
  generalize hq : b % 28 = q at *
  generalize hr : c % 7 = r at *
  have hp' : 0 ≤ p ∧ p < 5 := by omega
  have hq' : 0 ≤ q ∧ q < 28 := by omega
  have hr' : 0 ≤ r ∧ r < 7 := by omega
  obtain ⟨mx, hmx⟩ : ∃ mx, mx = max p 1 := ⟨_, rfl⟩
  have hmax : ∀ (ts : Array TypeId) (t : TypeId) (W : World), (Builtin.max_ ts t #[.int .i64 p, .int .i64 1]).run Try.prog W = .ok (.int .i64 mx) W := by
    intro ts t W
    rw [run_max_int2, hmx]
    congr 2
    split <;> omega
  have hmx' : 1 ≤ mx ∧ mx < 5 := by omega
  have hsum : mx + q = vOf a b := by
    unfold vOf
    omega
  have hI := made_start (a := a) (b := b) (c := c) (p := p) (vv := mx + q) hu
  rw [← hsum] at hF hvin
  have HI0 := hide hI
  have HNN := hide hnN
  have hvv : 0 < mx + q ∧ mx + q < 100 := by omega
  have hnn : 0 < nN ∧ nN ≤ 7 := by omega
  clear hu hp hq hr hmx hsum hI hnN hvin
  go_enter Try.func8, Try.ntmps8
  go_wp2_with fail
  generalize (((w.alloc (.cells #[.int .u8 a, .int .u8 b, .int .u8 c, .slice ao bs.length cap] 24)).alloc (.cells #[.int .i64 0, .int .i64 0, .slice none 0 0] 28)).alloc (.cells #[.int .i64 p, .int .i64 (mx + q), .slice none 0 0] 28)).alloc (.cells #[.slice ao bs.length cap] 75) = W4 at *
  generalize hvq : mx + q = vv at *
  rw [← HNN.out]
  have hpmf : w.heap.size + 1 + 1 ≠ w.heap.size + 1 + 1 + 1 ∧ w.heap.size ≤ w.heap.size + 1 + 1 ∧ w.heap.size ≤ w.heap.size + 1 ∧ w.heap.size + 1 + 1 ≠ w.heap.size + 1 := by omega
  generalize hpm : w.heap.size + 1 + 1 + 1 = pm at hpmf HI0 ⊢
  generalize hpf : w.heap.size + 1 + 1 = pf at hpmf HI0 ⊢
  generalize hpr : w.heap.size + 1 = pres at hpmf HI0 ⊢
  clear hpm hpf hpr ta tb tc hmax hvq HNN
  have hBp : w.heap.size ≤ pf ∧ w.heap.size ≤ pres ∧ pf ≠ pres := ⟨hpmf.2.1, hpmf.2.2.1, hpmf.2.2.2⟩
  have hpfm : pf ≠ pm := hpmf.1
  clear hpmf
  generalize hBB : w.heap.size = B at HI0 hBp
  have hvv0 := hvv.1
  go_loopw [31] (fun iv wr => ∃ (j : Nat) (ub : Value), j ≤ nN ∧ iv = .int .i64 j ∧ MadeInv B pm pf pres p vv w (mkBlks vv nN j bs).1 (mkBlks vv nN j bs).2 ub wr) (fun iv _ => nN - (intOf iv).toNat)
  case atStart => exact ⟨0, _, by omega, rfl, HI0.out⟩
  case round =>
    rename World => wo
    obtain ⟨j, ub, hj, rfl, hinv⟩ := hrel
    have HINV := hide hinv
    by_cases hlt : j < nN
    · obtain ⟨hsn1, hsn2⟩ := mkBlks_snoc vv nN j bs
      have HSN1 := hide hsn1
      have HSN2 := hide hsn2
      obtain ⟨ps, hps1, hps2, hps3⟩ := hinv.blks
      have hpsl : ps.length ≤ 7 := by have := congrArg List.length hps1; rw [List.length_map, mkBlks_len] at this; omega
      have HPS1 := hide hps1
      have HPS2 := hide hps2
      have HPS3 := hide hps3
      generalize hbj : (mkBlks vv nN j bs).2 = bj at *
      generalize hbb : (mkBlks vv nN j bs).1 = bb at *
      have hBx := (Below.refl wo.heap.size wo).alloc (Nat.le_refl _) (.cells (rowB (.slice none 0 0)) 69)
      have hM1 := hinv.maker.below hBx hinv.sz
      have n9 := hide (next_any B pm bj 9 _ hM1 (by omega))
      have hr1 : (wo.alloc (.cells (rowB (.slice none 0 0)) 69)).heap[wo.heap.size]? = some (Obj.cells (rowB (.slice none 0 0)) 69 (0, 0)) := heap_alloc_new wo _
      have HR1 := hide hr1
      have HG1 := hide (grown_below hBx (some pm))
      have hpmlt := hinv.maker.lt
      have hub : ∃ x1 x2 x3, ub = .slice x1 x2 x3 := by
        rcases hps2.2 with ⟨rfl, _⟩ | ⟨k', cap', cur', rfl, _⟩
        · exact ⟨_, _, _, rfl⟩
        · exact ⟨_, _, _, rfl⟩
      have hszB : B ≤ wo.heap.size := hinv.sz
      have hc9 := nxt_in (bs := bj) (n := 9) (by omega)
      unfold rowB at n9
      have hlt' : (j : Int) < (nN : Int) := by omega
      clear hinv hsn1 hsn2 hps1 hps2 hps3 hbj hbb hBx hM1 hr1 HI0
      go_wp2_with fail
      refine n9.out.mono ?_
      rintro e w2 ⟨rfl, hM, hg, hz⟩
      have HM2 := hide hM
      have HG2 := hide (grown_trans HG1.out hg)
      have HR2 := hide ((hg.block wo.heap.size (by simp) (by simp; omega)).trans HR1.out)
      generalize hcc : (nxt bj 9).1 = cc at hc9 ⊢
      generalize hbb1 : (nxt bj 9).2 = b1 at HM2
      obtain ⟨cn, rfl⟩ : ∃ cn : Nat, cc = (cn : Int) := ⟨cc.toNat, by omega⟩
      have HC := hide hcc
      have HB1 := hide hbb1
      clear n9 HR1 HG1 hM hg hz hcc hbb1
      go_wp2_with fail
      go_loopw [35] (fun iv ws => ∃ (i : Nat) (ui : Value), i ≤ cn ∧ iv = .int .i64 i ∧ MkAt B ws pm (mkInss vv i b1).2 ∧ ws.heap[wo.heap.size]? = some (Obj.cells (rowB ui) 69 (0, 0)) ∧ InssO wo.heap.size ws ui (mkInss vv i b1).1 ∧ wo.grownBy ws (some pm)) (fun iv _ => cn - (intOf iv).toNat)
      case atStart => exact ⟨0, _, by omega, rfl, HM2.out, HR2.out, InssO.nil _ _, HG2.out⟩
      case round =>
        rename World => ws
        obtain ⟨i, ui, hi, rfl, hM, hR, hI, hG⟩ := hrel
        by_cases hlti : i < cn
        · obtain ⟨hin1, hin2⟩ := mkInss_snoc vv i b1
          have HN1 := hide hin1
          have HN2 := hide hin2
          have hxl : (mkInss vv i b1).1.length ≤ 1000000 := by rw [mkInss_len]; omega
          have hown : ∀ k, ui.ownBlock = some k → k < ws.heap.size := fun k e => (hI.ownlt k e).2.1
          obtain ⟨aa, ac, hua0⟩ := hI.v.slice
          have hua : ∃ aa an ac, ui = .slice aa an ac := ⟨_, _, _, hua0⟩
          generalize hxs : (mkInss vv i b1).1 = is at *
          generalize hb0 : (mkInss vv i b1).2 = b0 at *
          generalize hxx : (mkIns vv b0).1 = x at HN1
          generalize hb2 : (mkIns vv b0).2 = b2 at HN2
          have HXX := hide hxx
          have HB1' := hide hb2
          have hpf := HINV.out.fld
          have hBp' : B ≤ wo.heap.size := hszB
          clear hin1 hin2 hua0 hxx hb2 hxs hb0
          have hlti' : (i : Int) < (cn : Int) := by omega
          go_wp2_with fail
          refine wp_region_each (by kernel_rfl) (fun t y W => Gbl wo.heap.size pm pf vv ui x is t y W) (fun l W => Sbl B pm x ui is b0 b2 wo l W) (by kernel_rfl) ⟨hM.below (Below.refl _ _).drew (Nat.le_trans hszB hG.size), grown_trans hG (grown_below (Below.refl _ _).drew _), hown, fun _ => hI, fun _ => hR, fun h => by simp at h, Nat.le_trans hszB hG.size⟩ ?_ ?_
          · refine And.intro ?_ (And.intro ?_ (And.intro ?_ (And.intro ?_ (And.intro ?_ (And.intro ?_ (And.intro ?_ (And.intro ?_ (And.intro ?_ (And.intro ?_ trivial)))))))))
            · refine asked_pure rfl rfl (fun _ _ h => h.skip (by decide) (by decide) (by decide)) (fun _ _ _ => rfl) (fun l a W H => ?_)
              have e6 : a.eval (.tmp 6) = .pointer (some ⟨wo.heap.size, 0, none⟩) := H.base 6 rfl
              (simp only [execOp]; try simp only [Option.map]); (try simp only [List.map_toArray, List.map_cons, List.map_nil]); (simp only [e6]; go_simp)
            · refine asked_any rfl (fun l a W H => ?_)
              have e37 : a.eval (.tmp 37) = .pointer (some ⟨wo.heap.size, 0, none⟩) := H.facts 37 rfl
              have hl9 : l 9 = false := by
                cases h9 : l 9 with
                | false => rfl
                | true =>
                  have h1 := H.closed 7 1 (by rfl) (H.closed 9 7 (by rfl) h9)
                  rw [H.new] at h1
                  cases h1
              have hc : W.cell? ⟨wo.heap.size, 0, none⟩ = some ui := by rw [cell_of_row _ _ _ _ _ _ (H.s.row hl9)]; rfl
              refine ⟨ui, W, ?_, fun d hd => by cases hd; exact rfl, H.s.skip (by decide) (by decide) (by decide), fun _ _ _ h => h⟩
              obtain ⟨aa, an, ac, rfl⟩ := hua
              (simp only [execOp]; try simp only [Option.map]); (try simp only [List.map_toArray, List.map_cons, List.map_nil]); (simp only [e37]; go_simp)
            · refine asked_pure rfl rfl (fun _ _ h => h.skip (by decide) (by decide) (by decide)) (fun _ _ _ => rfl) (fun l a W H => ?_)
              have e4 : a.eval (.tmp 4) = .pointer (some ⟨pm, 0, none⟩) := H.base 4 rfl
              exact run_move rfl e4
            · refine asked_pure rfl rfl (fun _ _ h => h.skip (by decide) (by decide) (by decide)) (fun _ _ _ => rfl) (fun l a W H => ?_)
              have e3 : a.eval (.tmp 3) = .pointer (some ⟨pf, 0, none⟩) := H.base 3 rfl
              (simp only [execOp]; try simp only [Option.map]); (try simp only [List.map_toArray, List.map_cons, List.map_nil]); (simp only [e3]; go_simp)
            · refine asked_pure rfl rfl (fun _ _ h => h.skip (by decide) (by decide) (by decide)) (fun _ _ _ => rfl) (fun l a W H => ?_)
              have e40 : a.eval (.tmp 40) = .pointer (some ⟨pf, 1, none⟩) := H.facts 40 rfl
              have hc : W.cell? ⟨pf, 1, none⟩ = some (.int .i64 vv) := by rw [cell_of_row _ _ _ _ _ _ (H.s.fld hpf hpfm)]; rfl
              (simp only [execOp]; try simp only [Option.map]); (try simp only [List.map_toArray, List.map_cons, List.map_nil]); (simp only [e40]; go_simp)
            · refine asked_call rfl Try.func35 (by kernel_rfl) (by kernel_rfl) rfl rfl (fun l a W H => ?_)
              have e39 : a.eval (.tmp 39) = .pointer (some ⟨pm, 0, none⟩) := H.facts 39 rfl
              have e41 : a.eval (.tmp 41) = .int .i64 vv := H.facts 41 rfl
              have ea : (#[.tmp 39, .tmp 41] : Array Operand).map a.eval = #[.pointer (some ⟨pm, 0, none⟩), .int .i64 vv] := by
                simp only [List.map_toArray, List.map_cons, List.map_nil, e39, e41]
              rw [ea]
              refine (mkIns_any B pm b0 vv W (H.s.maker0 H.new) H.s.szB hvv0).mono ?_
              rintro e w' ⟨u, rfl, hA, hM, hg⟩
              exact ⟨_, rfl, ⟨u, by rw [HXX.out], by rw [HXX.out] at hA; exact owns_mono hA H.s.szp⟩, H.s.call (by rw [← HB1'.out]; exact hM) hg, fun _ _ _ h => Gbl_keeps h (Keeps.pm H.s.maker hg)⟩
            · refine asked_any rfl (fun l a W H => ?_)
              obtain ⟨u, e42, hA⟩ : ∃ u, a.eval (.tmp 42) = insV x u ∧ ArgsO wo.heap.size W u x.args := H.facts 42 rfl
              have hB := (Below.refl W.heap.size W).alloc (Nat.le_refl _) (.cells (rowI x u) 79)
              refine ⟨.slice (some ⟨W.heap.size, 0, none⟩) 1 1, W.alloc (.cells (rowI x u) 79), ?_, fun d hd => by cases hd; exact ⟨_, u, rfl, heap_alloc_new W _, hA.keeps (Keeps.below hB), fun e => by have := H.s.own _ e; omega⟩, H.s.alloc hB, fun _ _ _ h => Gbl_keeps (T := T46) h (Keeps.below hB)⟩
              obtain ⟨ua, uc, rfl⟩ := hA.v.slice
              unfold insV at e42
              unfold rowI
              (simp only [execOp]; try simp only [Option.map]); (try simp only [List.map_toArray, List.map_cons, List.map_nil]); (simp only [e42]; go_simp)
            · refine asked_any rfl (fun l a W H => ?_)
              have e38 : a.eval (.tmp 38) = ui := H.facts 38 rfl
              obtain ⟨h, u, e43, hh, hA, hne⟩ : ∃ h u, a.eval (.tmp 43) = .slice (some ⟨h, 0, none⟩) 1 1 ∧ W.heap[h]? = some (Obj.cells (rowI x u) 79 (0, 0)) ∧ ArgsO wo.heap.size W u x.args ∧ ui.ownBlock ≠ some h := H.facts 43 rfl
              have hl9 : l 9 = false := by
                cases h9 : l 9 with
                | false => rfl
                | true =>
                  have h1 := H.closed 9 7 (by rfl) h9
                  rw [H.new] at h1
                  cases h1
              have hO : InssO wo.heap.size W ui is := H.s.inss H.new
              refine app7_ok rfl e38 e43 hO hh hA hxl H.s.szp fun v' w' e2 e3 => ?_
              exact ⟨fun d hd => by cases hd; exact e2, H.s.app hO e3 hBp' hl9, fun _ _ hd h => Gbl_app h hd hO e3⟩
            · refine asked_pure rfl rfl (fun _ _ h => h.skip (by decide) (by decide) (by decide)) (fun _ _ _ => rfl) (fun l a W H => ?_)
              have e6 : a.eval (.tmp 6) = .pointer (some ⟨wo.heap.size, 0, none⟩) := H.base 6 rfl
              (simp only [execOp]; try simp only [Option.map]); (try simp only [List.map_toArray, List.map_cons, List.map_nil]); (simp only [e6]; go_simp)
            · refine asked_skip rfl rfl (fun l a W H => ?_)
              have e45 : a.eval (.tmp 45) = .pointer (some ⟨wo.heap.size, 0, none⟩) := H.facts 45 rfl
              have hO : InssO wo.heap.size W (a.eval (.tmp 44)) (is ++ [x]) := H.facts 44 rfl
              generalize e44 : a.eval (.tmp 44) = y at hO
              obtain ⟨ya, yc, rfl⟩ := hO.v.slice
              have hr := H.s.row H.new
              have hc : W.cell? ⟨wo.heap.size, 0, none⟩ = some ui := by rw [cell_of_row _ _ _ _ _ _ hr]; rfl
              have hf : W.frozen? ⟨wo.heap.size, 0, none⟩ = false := frozen_of_row _ _ _ _ _ hr
              refine ⟨W.setCell ⟨wo.heap.size, 0, none⟩ (.slice ya (is ++ [x]).length yc), ?_, H.s.store hr hO hBp', fun _ _ h => Gbl_keeps (T := T46) h (Keeps.set hr rfl _)⟩
              (simp only [execOp]; try simp only [Option.map]); (try simp only [List.map_toArray, List.map_cons, List.map_nil]); (simp only [e44, e45]; go_simp)
          · intro l s W hall hS _
            obtain ⟨u, q1, q2⟩ := hS.done (hall 9 (by decide))
            have q3 := hS.maker
            rw [hall 5 (by decide), if_pos rfl] at q3
            have q5 := hS.grown
            clear hS hall
            simp [overlay, dstsOf]
            go_wp2
            go_roundw
            case rel => exact ⟨i + 1, u, by omega, by go_num, by rw [HN2.out]; exact q3, q1, by rw [HN1.out]; exact q2, q5⟩
            case measure => simp [intOf]; omega
        · obtain rfl : i = cn := by omega
          generalize hb5 : (mkInss vv i b1).2 = b5 at *
          have HB5 := hide hb5
          have n4 := hide (next_any B pm b5 4 ws hM (by omega))
          have h4 := nxt_in (bs := b5) (n := 4) (by omega)
          have HRs := hide hR
          have HIs := hide hI
          have HGs := hide hG
          have HMs := hide hM
          clear hR hI hG hM hb5 HM2 HG2 HR2
          go_wp2_with fail
          refine n4.out.mono ?_
          rintro e w6 ⟨rfl, hM, hg, hz⟩
          have hkp := Keeps.pm HMs.out hg
          have HG := hide (grown_trans HGs.out hg)
          have HR := hide (hkp _ _ _ _ rfl HRs.out)
          have HI := hide (HIs.out.keeps (hkp.weak fun t ht => by simp [T46] at ht; rcases ht with rfl | rfl <;> decide))
          have HM := hide hM
          clear hM n4 hz hg hkp HRs HIs HGs HMs
          generalize hk4 : (nxt b5 4).1 = k4 at h4 ⊢
          generalize hb6 : (nxt b5 4).2 = b6 at HM
          have HK4' := hide hk4
          have HB6 := hide hb6
          clear hk4 hb6
          have hnn0 : (0 : Int) < (nN : Int) := by omega
          by_cases h0 : k4 = 0
          · subst h0
            have HK4 := HK4'
            clear HK4'
            have n0 := hide (next_any B pm b6 vv w6 HM.out (by omega))
            have hpc : w6.cell? ⟨pf, 1, none⟩ = some (.int .i64 vv) := by rw [cell_of_row _ _ _ _ _ _ ((HG.out.block pf (Array.getElem?_eq_some_iff.1 HINV.out.fld).1 (by simpa using hpfm)).trans HINV.out.fld)]; rfl
            go_wp2_with fail
            refine n0.out.mono ?_
            rintro e w7 ⟨rfl, hM, hg, hz⟩
            have hkp := Keeps.pm HM.out hg
            have HG := hide (grown_trans HG.out hg)
            have HR := hide (hkp _ _ _ _ rfl HR.out)
            have HI := hide (HI.out.keeps (hkp.weak fun t ht => by simp [T46] at ht; rcases ht with rfl | rfl <;> decide))
            have HM := hide hM
            clear hpc
            clear hM n0 hz hg hkp
            generalize hx0 : (nxt b6 vv).1 = y0 at ⊢
            generalize hy0 : (nxt b6 vv).2 = b7 at HM
            have HX0 := hide hx0
            have HY0 := hide hy0
            clear hx0 hy0
            have hend : Hid (mkEnd vv nN b5 = (⟨3, y0, 0, 0⟩, b7)) := by
              show _ = _
              unfold mkEnd
              rw [HK4.out, HB6.out]
              simp [endOf, HX0.out, HY0.out]
            obtain ⟨r0, r1, r2, r3, r4, ⟨f1, f2, f3, f4⟩, q1, q2, q3, q4⟩ := sets4_facts ⟨3, y0, 0, 0⟩ HR.out
            obtain ⟨hO8, hB8, hafter⟩ := made_tail (is := (mkInss vv i b1).1) ⟨3, y0, 0, 0⟩ HINV.out HPS1.out HPS2.out HPS3.out hBp HG.out HM.out HR.out HI.out (.cells #[ui, .int .u8 3, .int .i64 y0, .int .i64 0, .int .i64 0] 69)
            unfold sets4 at hO8 hB8 hafter
            simp only at q1 q2 q3 q4 hO8 hB8 hafter
            have HAFTER := hide hafter
            have hpc2 : w7.cell? ⟨pf, 2, none⟩ = some ub := by rw [cell_of_row _ _ _ _ _ _ ((HG.out.block pf (Array.getElem?_eq_some_iff.1 HINV.out.fld).1 (by simpa using hpfm)).trans HINV.out.fld)]; rfl
            have hpb1 : pf ≠ wo.heap.size := by have := (Array.getElem?_eq_some_iff.1 HINV.out.fld).1; omega
            have hpb2 : wo.heap.size ≠ pf := fun h => hpb1 h.symm
            have hpc3 : (sets4 w7 wo.heap.size ⟨3, y0, 0, 0⟩).cell? ⟨pf, 2, none⟩ = some ub := (grown_sets4 w7 wo.heap.size ⟨3, y0, 0, 0⟩).cell hpc2 (by simpa using hpb1)
            unfold sets4 at hpc3
            simp only at hpc3
            obtain ⟨aui, cui, rfl⟩ := HI.out.v.slice
            obtain ⟨x1, x2, x3, rfl⟩ := hub
            have hblk : Hid ((mkBlk vv nN bj).1 = ⟨(mkInss vv i b1).1, ⟨3, y0, 0, 0⟩⟩ ∧ (mkBlk vv nN bj).2 = b7) := by
              show _ ∧ _
              unfold mkBlk
              rw [HC.out, HB1.out, Int.toNat_natCast, HB5.out, hend.out]
              exact ⟨rfl, rfl⟩
            have h63 : ps.length + 1 ≤ maxLen := by unfold maxLen; omega
            have hby8 : (ps.length + 1) * 56 ≤ 140737488355328 := by omega
            have hcn : ∀ k u, [Value.slice aui (mkInss vv i b1).1.length cui, .int .u8 3, .int .i64 y0, .int .i64 0, .int .i64 0][k]? = some u → (((((w7.setCell ⟨wo.heap.size, 1, none⟩ (.int .u8 3)).setCell ⟨wo.heap.size, 2, none⟩ (.int .i64 y0)).setCell ⟨wo.heap.size, 3, none⟩ (.int .i64 0)).setCell ⟨wo.heap.size, 4, none⟩ (.int .i64 0)).alloc (.cells #[.slice aui (mkInss vv i b1).1.length cui, .int .u8 3, .int .i64 y0, .int .i64 0, .int .i64 0] 69)).cell? ((⟨w7.heap.size, 0, none⟩ : Addr).add k) = some u := by
              intro k u hk
              have hz4 : ((((w7.setCell ⟨wo.heap.size, 1, none⟩ (.int .u8 3)).setCell ⟨wo.heap.size, 2, none⟩ (.int .i64 y0)).setCell ⟨wo.heap.size, 3, none⟩ (.int .i64 0)).setCell ⟨wo.heap.size, 4, none⟩ (.int .i64 0)).heap.size = w7.heap.size := by simp
              rw [Addr.add_lit, Nat.zero_add, ← hz4, World.cell?_alloc_new]
              simpa using hk
            have h1n : ∀ u ∈ [Value.slice aui (mkInss vv i b1).1.length cui, .int .u8 3, .int .i64 y0, .int .i64 0, .int .i64 0], u.oneCell' = true := by
              intro u hu
              simp only [List.mem_cons, List.not_mem_nil, or_false] at hu
              rcases hu with rfl | rfl | rfl | rfl | rfl <;> rfl
            clear hafter HG HR HM HI hend HX0 HY0 HK4 HB6 HC HB1 HB5
            go_wp2_with (at_builtin; go_must (refine wpList_append_own _ rfl (.tmp 78) (.tmp 80) 26 rfl B 69 i41 (.agg #[.slice none 0 0, .int .u8 0, .int .i64 0, .int .i64 0, .int .i64 0]) 5 56 Try.underlying26 hi41 hz41 hs41 hb41 rfl (by decide) _ _ _ rfl hO8 ⟨w7.heap.size, 0, none⟩ 1 1 _ rfl rfl hcn h1n h63 hby8 hB8 ?_))
            intro v' w9 hO9 hg9 _
            obtain ⟨z1, z2, z3⟩ := HAFTER.out v' w9 hO9 hg9
            have hv' : ∃ va vn vc, v' = .slice va vn vc := by
              rcases hO9.2 with ⟨rfl, _⟩ | ⟨k', cap', cur', rfl, _⟩
              · exact ⟨_, _, _, rfl⟩
              · exact ⟨_, _, _, rfl⟩
            obtain ⟨va, vn, vc, rfl⟩ := hv'
            have Z3 := hide z3
            clear HAFTER hO9 hg9 hO8 hB8 hcn h1n q1 q2 q3 q4 r0 r1 r2 r3 r4 f1 f2 f3 f4 z3 hpc2 hpc3
            go_wp2_with fail
            go_roundw
            case rel => exact ⟨j + 1, _, by omega, by go_num, by rw [HSN1.out, HSN2.out, hblk.out.1, hblk.out.2]; exact Z3.out⟩
            case measure => simp [intOf]; omega
          by_cases h1 : k4 = 1
          · subst h1
            have HK4 := HK4'
            clear HK4'
            have n0 := hide (next_any B pm b6 (nN : Int) w6 HM.out (by omega))
            go_wp2_with fail
            refine n0.out.mono ?_
            rintro e w7 ⟨rfl, hM, hg, hz⟩
            have hkp := Keeps.pm HM.out hg
            have HG := hide (grown_trans HG.out hg)
            have HR := hide (hkp _ _ _ _ rfl HR.out)
            have HI := hide (HI.out.keeps (hkp.weak fun t ht => by simp [T46] at ht; rcases ht with rfl | rfl <;> decide))
            have HM := hide hM
            skip
            clear hM n0 hz hg hkp
            generalize hx0 : (nxt b6 (nN : Int)).1 = y0 at ⊢
            generalize hy0 : (nxt b6 (nN : Int)).2 = b7 at HM
            have HX0 := hide hx0
            have HY0 := hide hy0
            clear hx0 hy0
            have hend : Hid (mkEnd vv nN b5 = (⟨1, 0, y0, 0⟩, b7)) := by
              show _ = _
              unfold mkEnd
              rw [HK4.out, HB6.out]
              simp [endOf, HX0.out, HY0.out]
            obtain ⟨r0, r1, r2, r3, r4, ⟨f1, f2, f3, f4⟩, q1, q2, q3, q4⟩ := sets4_facts ⟨1, 0, y0, 0⟩ HR.out
            obtain ⟨hO8, hB8, hafter⟩ := made_tail (is := (mkInss vv i b1).1) ⟨1, 0, y0, 0⟩ HINV.out HPS1.out HPS2.out HPS3.out hBp HG.out HM.out HR.out HI.out (.cells #[ui, .int .u8 1, .int .i64 0, .int .i64 y0, .int .i64 0] 69)
            unfold sets4 at hO8 hB8 hafter
            simp only at q1 q2 q3 q4 hO8 hB8 hafter
            have HAFTER := hide hafter
            have hpc2 : w7.cell? ⟨pf, 2, none⟩ = some ub := by rw [cell_of_row _ _ _ _ _ _ ((HG.out.block pf (Array.getElem?_eq_some_iff.1 HINV.out.fld).1 (by simpa using hpfm)).trans HINV.out.fld)]; rfl
            have hpb1 : pf ≠ wo.heap.size := by have := (Array.getElem?_eq_some_iff.1 HINV.out.fld).1; omega
            have hpb2 : wo.heap.size ≠ pf := fun h => hpb1 h.symm
            have hpc3 : (sets4 w7 wo.heap.size ⟨1, 0, y0, 0⟩).cell? ⟨pf, 2, none⟩ = some ub := (grown_sets4 w7 wo.heap.size ⟨1, 0, y0, 0⟩).cell hpc2 (by simpa using hpb1)
            unfold sets4 at hpc3
            simp only at hpc3
            obtain ⟨aui, cui, rfl⟩ := HI.out.v.slice
            obtain ⟨x1, x2, x3, rfl⟩ := hub
            have hblk : Hid ((mkBlk vv nN bj).1 = ⟨(mkInss vv i b1).1, ⟨1, 0, y0, 0⟩⟩ ∧ (mkBlk vv nN bj).2 = b7) := by
              show _ ∧ _
              unfold mkBlk
              rw [HC.out, HB1.out, Int.toNat_natCast, HB5.out, hend.out]
              exact ⟨rfl, rfl⟩
            have h63 : ps.length + 1 ≤ maxLen := by unfold maxLen; omega
            have hby8 : (ps.length + 1) * 56 ≤ 140737488355328 := by omega
            have hcn : ∀ k u, [Value.slice aui (mkInss vv i b1).1.length cui, .int .u8 1, .int .i64 0, .int .i64 y0, .int .i64 0][k]? = some u → (((((w7.setCell ⟨wo.heap.size, 1, none⟩ (.int .u8 1)).setCell ⟨wo.heap.size, 2, none⟩ (.int .i64 0)).setCell ⟨wo.heap.size, 3, none⟩ (.int .i64 y0)).setCell ⟨wo.heap.size, 4, none⟩ (.int .i64 0)).alloc (.cells #[.slice aui (mkInss vv i b1).1.length cui, .int .u8 1, .int .i64 0, .int .i64 y0, .int .i64 0] 69)).cell? ((⟨w7.heap.size, 0, none⟩ : Addr).add k) = some u := by
              intro k u hk
              have hz4 : ((((w7.setCell ⟨wo.heap.size, 1, none⟩ (.int .u8 1)).setCell ⟨wo.heap.size, 2, none⟩ (.int .i64 0)).setCell ⟨wo.heap.size, 3, none⟩ (.int .i64 y0)).setCell ⟨wo.heap.size, 4, none⟩ (.int .i64 0)).heap.size = w7.heap.size := by simp
              rw [Addr.add_lit, Nat.zero_add, ← hz4, World.cell?_alloc_new]
              simpa using hk
            have h1n : ∀ u ∈ [Value.slice aui (mkInss vv i b1).1.length cui, .int .u8 1, .int .i64 0, .int .i64 y0, .int .i64 0], u.oneCell' = true := by
              intro u hu
              simp only [List.mem_cons, List.not_mem_nil, or_false] at hu
              rcases hu with rfl | rfl | rfl | rfl | rfl <;> rfl
            clear hafter HG HR HM HI hend HX0 HY0 HK4 HB6 HC HB1 HB5
            go_wp2_with (at_builtin; go_must (refine wpList_append_own _ rfl (.tmp 78) (.tmp 80) 26 rfl B 69 i41 (.agg #[.slice none 0 0, .int .u8 0, .int .i64 0, .int .i64 0, .int .i64 0]) 5 56 Try.underlying26 hi41 hz41 hs41 hb41 rfl (by decide) _ _ _ rfl hO8 ⟨w7.heap.size, 0, none⟩ 1 1 _ rfl rfl hcn h1n h63 hby8 hB8 ?_))
            intro v' w9 hO9 hg9 _
            obtain ⟨z1, z2, z3⟩ := HAFTER.out v' w9 hO9 hg9
            have hv' : ∃ va vn vc, v' = .slice va vn vc := by
              rcases hO9.2 with ⟨rfl, _⟩ | ⟨k', cap', cur', rfl, _⟩
              · exact ⟨_, _, _, rfl⟩
              · exact ⟨_, _, _, rfl⟩
            obtain ⟨va, vn, vc, rfl⟩ := hv'
            have Z3 := hide z3
            clear HAFTER hO9 hg9 hO8 hB8 hcn h1n q1 q2 q3 q4 r0 r1 r2 r3 r4 f1 f2 f3 f4 z3 hpc2 hpc3
            go_wp2_with fail
            go_roundw
            case rel => exact ⟨j + 1, _, by omega, by go_num, by rw [HSN1.out, HSN2.out, hblk.out.1, hblk.out.2]; exact Z3.out⟩
            case measure => simp [intOf]; omega
          by_cases h2 : k4 = 2
          · subst h2
            have HK4 := HK4'
            clear HK4'
            have n0 := hide (next_any B pm b6 vv w6 HM.out (by omega))
            have hpc : w6.cell? ⟨pf, 1, none⟩ = some (.int .i64 vv) := by rw [cell_of_row _ _ _ _ _ _ ((HG.out.block pf (Array.getElem?_eq_some_iff.1 HINV.out.fld).1 (by simpa using hpfm)).trans HINV.out.fld)]; rfl
            go_wp2_with fail
            refine n0.out.mono ?_
            rintro e w7 ⟨rfl, hM, hg, hz⟩
            have hkp := Keeps.pm HM.out hg
            have HG := hide (grown_trans HG.out hg)
            have HR := hide (hkp _ _ _ _ rfl HR.out)
            have HI := hide (HI.out.keeps (hkp.weak fun t ht => by simp [T46] at ht; rcases ht with rfl | rfl <;> decide))
            have HM := hide hM
            clear hpc
            clear hM n0 hz hg hkp
            generalize hx0 : (nxt b6 vv).1 = y0 at ⊢
            generalize hy0 : (nxt b6 vv).2 = b7 at HM
            have HX0 := hide hx0
            have HY0 := hide hy0
            clear hx0 hy0
            have n1 := hide (next_any B pm b7 (nN : Int) w7 HM.out (by omega))
            go_wp2_with fail
            refine n1.out.mono ?_
            rintro e w8 ⟨rfl, hM, hg, hz⟩
            have hkp := Keeps.pm HM.out hg
            have HG := hide (grown_trans HG.out hg)
            have HR := hide (hkp _ _ _ _ rfl HR.out)
            have HI := hide (HI.out.keeps (hkp.weak fun t ht => by simp [T46] at ht; rcases ht with rfl | rfl <;> decide))
            have HM := hide hM
            skip
            clear hM n1 hz hg hkp
            generalize hx1 : (nxt b7 (nN : Int)).1 = y1 at ⊢
            generalize hy1 : (nxt b7 (nN : Int)).2 = b8 at HM
            have HX1 := hide hx1
            have HY1 := hide hy1
            clear hx1 hy1
            have n2 := hide (next_any B pm b8 (nN : Int) w8 HM.out (by omega))
            go_wp2_with fail
            refine n2.out.mono ?_
            rintro e w9 ⟨rfl, hM, hg, hz⟩
            have hkp := Keeps.pm HM.out hg
            have HG := hide (grown_trans HG.out hg)
            have HR := hide (hkp _ _ _ _ rfl HR.out)
            have HI := hide (HI.out.keeps (hkp.weak fun t ht => by simp [T46] at ht; rcases ht with rfl | rfl <;> decide))
            have HM := hide hM
            skip
            clear hM n2 hz hg hkp
            generalize hx2 : (nxt b8 (nN : Int)).1 = y2 at ⊢
            generalize hy2 : (nxt b8 (nN : Int)).2 = b9 at HM
            have HX2 := hide hx2
            have HY2 := hide hy2
            clear hx2 hy2
            have hend : Hid (mkEnd vv nN b5 = (⟨2, y0, y1, y2⟩, b9)) := by
              show _ = _
              unfold mkEnd
              rw [HK4.out, HB6.out]
              simp [endOf, HX0.out, HY0.out, HX1.out, HY1.out, HX2.out, HY2.out]
            obtain ⟨r0, r1, r2, r3, r4, ⟨f1, f2, f3, f4⟩, q1, q2, q3, q4⟩ := sets4_facts ⟨2, y0, y1, y2⟩ HR.out
            obtain ⟨hO8, hB8, hafter⟩ := made_tail (is := (mkInss vv i b1).1) ⟨2, y0, y1, y2⟩ HINV.out HPS1.out HPS2.out HPS3.out hBp HG.out HM.out HR.out HI.out (.cells #[ui, .int .u8 2, .int .i64 y0, .int .i64 y1, .int .i64 y2] 69)
            unfold sets4 at hO8 hB8 hafter
            simp only at q1 q2 q3 q4 hO8 hB8 hafter
            have HAFTER := hide hafter
            have hpc2 : w9.cell? ⟨pf, 2, none⟩ = some ub := by rw [cell_of_row _ _ _ _ _ _ ((HG.out.block pf (Array.getElem?_eq_some_iff.1 HINV.out.fld).1 (by simpa using hpfm)).trans HINV.out.fld)]; rfl
            have hpb1 : pf ≠ wo.heap.size := by have := (Array.getElem?_eq_some_iff.1 HINV.out.fld).1; omega
            have hpb2 : wo.heap.size ≠ pf := fun h => hpb1 h.symm
            have hpc3 : (sets4 w9 wo.heap.size ⟨2, y0, y1, y2⟩).cell? ⟨pf, 2, none⟩ = some ub := (grown_sets4 w9 wo.heap.size ⟨2, y0, y1, y2⟩).cell hpc2 (by simpa using hpb1)
            unfold sets4 at hpc3
            simp only at hpc3
            obtain ⟨aui, cui, rfl⟩ := HI.out.v.slice
            obtain ⟨x1, x2, x3, rfl⟩ := hub
            have hblk : Hid ((mkBlk vv nN bj).1 = ⟨(mkInss vv i b1).1, ⟨2, y0, y1, y2⟩⟩ ∧ (mkBlk vv nN bj).2 = b9) := by
              show _ ∧ _
              unfold mkBlk
              rw [HC.out, HB1.out, Int.toNat_natCast, HB5.out, hend.out]
              exact ⟨rfl, rfl⟩
            have h63 : ps.length + 1 ≤ maxLen := by unfold maxLen; omega
            have hby8 : (ps.length + 1) * 56 ≤ 140737488355328 := by omega
            have hcn : ∀ k u, [Value.slice aui (mkInss vv i b1).1.length cui, .int .u8 2, .int .i64 y0, .int .i64 y1, .int .i64 y2][k]? = some u → (((((w9.setCell ⟨wo.heap.size, 1, none⟩ (.int .u8 2)).setCell ⟨wo.heap.size, 2, none⟩ (.int .i64 y0)).setCell ⟨wo.heap.size, 3, none⟩ (.int .i64 y1)).setCell ⟨wo.heap.size, 4, none⟩ (.int .i64 y2)).alloc (.cells #[.slice aui (mkInss vv i b1).1.length cui, .int .u8 2, .int .i64 y0, .int .i64 y1, .int .i64 y2] 69)).cell? ((⟨w9.heap.size, 0, none⟩ : Addr).add k) = some u := by
              intro k u hk
              have hz4 : ((((w9.setCell ⟨wo.heap.size, 1, none⟩ (.int .u8 2)).setCell ⟨wo.heap.size, 2, none⟩ (.int .i64 y0)).setCell ⟨wo.heap.size, 3, none⟩ (.int .i64 y1)).setCell ⟨wo.heap.size, 4, none⟩ (.int .i64 y2)).heap.size = w9.heap.size := by simp
              rw [Addr.add_lit, Nat.zero_add, ← hz4, World.cell?_alloc_new]
              simpa using hk
            have h1n : ∀ u ∈ [Value.slice aui (mkInss vv i b1).1.length cui, .int .u8 2, .int .i64 y0, .int .i64 y1, .int .i64 y2], u.oneCell' = true := by
              intro u hu
              simp only [List.mem_cons, List.not_mem_nil, or_false] at hu
              rcases hu with rfl | rfl | rfl | rfl | rfl <;> rfl
            clear hafter HG HR HM HI hend HX0 HY0 HK4 HB6 HC HB1 HB5
            go_wp2_with (at_builtin; go_must (refine wpList_append_own _ rfl (.tmp 78) (.tmp 80) 26 rfl B 69 i41 (.agg #[.slice none 0 0, .int .u8 0, .int .i64 0, .int .i64 0, .int .i64 0]) 5 56 Try.underlying26 hi41 hz41 hs41 hb41 rfl (by decide) _ _ _ rfl hO8 ⟨w9.heap.size, 0, none⟩ 1 1 _ rfl rfl hcn h1n h63 hby8 hB8 ?_))
            intro v' w9 hO9 hg9 _
            obtain ⟨z1, z2, z3⟩ := HAFTER.out v' w9 hO9 hg9
            have hv' : ∃ va vn vc, v' = .slice va vn vc := by
              rcases hO9.2 with ⟨rfl, _⟩ | ⟨k', cap', cur', rfl, _⟩
              · exact ⟨_, _, _, rfl⟩
              · exact ⟨_, _, _, rfl⟩
            obtain ⟨va, vn, vc, rfl⟩ := hv'
            have Z3 := hide z3
            clear HAFTER hO9 hg9 hO8 hB8 hcn h1n q1 q2 q3 q4 r0 r1 r2 r3 r4 f1 f2 f3 f4 z3 hpc2 hpc3
            go_wp2_with fail
            go_roundw
            case rel => exact ⟨j + 1, _, by omega, by go_num, by rw [HSN1.out, HSN2.out, hblk.out.1, hblk.out.2]; exact Z3.out⟩
            case measure => simp [intOf]; omega
          by_cases h3 : k4 = 3
          · subst h3
            have HK4 := HK4'
            clear HK4'
            have n0 := hide (next_any B pm b6 vv w6 HM.out (by omega))
            have hpc : w6.cell? ⟨pf, 1, none⟩ = some (.int .i64 vv) := by rw [cell_of_row _ _ _ _ _ _ ((HG.out.block pf (Array.getElem?_eq_some_iff.1 HINV.out.fld).1 (by simpa using hpfm)).trans HINV.out.fld)]; rfl
            go_wp2_with fail
            refine n0.out.mono ?_
            rintro e w7 ⟨rfl, hM, hg, hz⟩
            have hkp := Keeps.pm HM.out hg
            have HG := hide (grown_trans HG.out hg)
            have HR := hide (hkp _ _ _ _ rfl HR.out)
            have HI := hide (HI.out.keeps (hkp.weak fun t ht => by simp [T46] at ht; rcases ht with rfl | rfl <;> decide))
            have HM := hide hM
            clear hpc
            clear hM n0 hz hg hkp
            generalize hx0 : (nxt b6 vv).1 = y0 at ⊢
            generalize hy0 : (nxt b6 vv).2 = b7 at HM
            have HX0 := hide hx0
            have HY0 := hide hy0
            clear hx0 hy0
            have n1 := hide (next_any B pm b7 (nN : Int) w7 HM.out (by omega))
            go_wp2_with fail
            refine n1.out.mono ?_
            rintro e w8 ⟨rfl, hM, hg, hz⟩
            have hkp := Keeps.pm HM.out hg
            have HG := hide (grown_trans HG.out hg)
            have HR := hide (hkp _ _ _ _ rfl HR.out)
            have HI := hide (HI.out.keeps (hkp.weak fun t ht => by simp [T46] at ht; rcases ht with rfl | rfl <;> decide))
            have HM := hide hM
            skip
            clear hM n1 hz hg hkp
            generalize hx1 : (nxt b7 (nN : Int)).1 = y1 at ⊢
            generalize hy1 : (nxt b7 (nN : Int)).2 = b8 at HM
            have HX1 := hide hx1
            have HY1 := hide hy1
            clear hx1 hy1
            have n2 := hide (next_any B pm b8 (nN : Int) w8 HM.out (by omega))
            go_wp2_with fail
            refine n2.out.mono ?_
            rintro e w9 ⟨rfl, hM, hg, hz⟩
            have hkp := Keeps.pm HM.out hg
            have HG := hide (grown_trans HG.out hg)
            have HR := hide (hkp _ _ _ _ rfl HR.out)
            have HI := hide (HI.out.keeps (hkp.weak fun t ht => by simp [T46] at ht; rcases ht with rfl | rfl <;> decide))
            have HM := hide hM
            skip
            clear hM n2 hz hg hkp
            generalize hx2 : (nxt b8 (nN : Int)).1 = y2 at ⊢
            generalize hy2 : (nxt b8 (nN : Int)).2 = b9 at HM
            have HX2 := hide hx2
            have HY2 := hide hy2
            clear hx2 hy2
            have hend : Hid (mkEnd vv nN b5 = (⟨2, y0, y1, y2⟩, b9)) := by
              show _ = _
              unfold mkEnd
              rw [HK4.out, HB6.out]
              simp [endOf, HX0.out, HY0.out, HX1.out, HY1.out, HX2.out, HY2.out]
            obtain ⟨r0, r1, r2, r3, r4, ⟨f1, f2, f3, f4⟩, q1, q2, q3, q4⟩ := sets4_facts ⟨2, y0, y1, y2⟩ HR.out
            obtain ⟨hO8, hB8, hafter⟩ := made_tail (is := (mkInss vv i b1).1) ⟨2, y0, y1, y2⟩ HINV.out HPS1.out HPS2.out HPS3.out hBp HG.out HM.out HR.out HI.out (.cells #[ui, .int .u8 2, .int .i64 y0, .int .i64 y1, .int .i64 y2] 69)
            unfold sets4 at hO8 hB8 hafter
            simp only at q1 q2 q3 q4 hO8 hB8 hafter
            have HAFTER := hide hafter
            have hpc2 : w9.cell? ⟨pf, 2, none⟩ = some ub := by rw [cell_of_row _ _ _ _ _ _ ((HG.out.block pf (Array.getElem?_eq_some_iff.1 HINV.out.fld).1 (by simpa using hpfm)).trans HINV.out.fld)]; rfl
            have hpb1 : pf ≠ wo.heap.size := by have := (Array.getElem?_eq_some_iff.1 HINV.out.fld).1; omega
            have hpb2 : wo.heap.size ≠ pf := fun h => hpb1 h.symm
            have hpc3 : (sets4 w9 wo.heap.size ⟨2, y0, y1, y2⟩).cell? ⟨pf, 2, none⟩ = some ub := (grown_sets4 w9 wo.heap.size ⟨2, y0, y1, y2⟩).cell hpc2 (by simpa using hpb1)
            unfold sets4 at hpc3
            simp only at hpc3
            obtain ⟨aui, cui, rfl⟩ := HI.out.v.slice
            obtain ⟨x1, x2, x3, rfl⟩ := hub
            have hblk : Hid ((mkBlk vv nN bj).1 = ⟨(mkInss vv i b1).1, ⟨2, y0, y1, y2⟩⟩ ∧ (mkBlk vv nN bj).2 = b9) := by
              show _ ∧ _
              unfold mkBlk
              rw [HC.out, HB1.out, Int.toNat_natCast, HB5.out, hend.out]
              exact ⟨rfl, rfl⟩
            have h63 : ps.length + 1 ≤ maxLen := by unfold maxLen; omega
            have hby8 : (ps.length + 1) * 56 ≤ 140737488355328 := by omega
            have hcn : ∀ k u, [Value.slice aui (mkInss vv i b1).1.length cui, .int .u8 2, .int .i64 y0, .int .i64 y1, .int .i64 y2][k]? = some u → (((((w9.setCell ⟨wo.heap.size, 1, none⟩ (.int .u8 2)).setCell ⟨wo.heap.size, 2, none⟩ (.int .i64 y0)).setCell ⟨wo.heap.size, 3, none⟩ (.int .i64 y1)).setCell ⟨wo.heap.size, 4, none⟩ (.int .i64 y2)).alloc (.cells #[.slice aui (mkInss vv i b1).1.length cui, .int .u8 2, .int .i64 y0, .int .i64 y1, .int .i64 y2] 69)).cell? ((⟨w9.heap.size, 0, none⟩ : Addr).add k) = some u := by
              intro k u hk
              have hz4 : ((((w9.setCell ⟨wo.heap.size, 1, none⟩ (.int .u8 2)).setCell ⟨wo.heap.size, 2, none⟩ (.int .i64 y0)).setCell ⟨wo.heap.size, 3, none⟩ (.int .i64 y1)).setCell ⟨wo.heap.size, 4, none⟩ (.int .i64 y2)).heap.size = w9.heap.size := by simp
              rw [Addr.add_lit, Nat.zero_add, ← hz4, World.cell?_alloc_new]
              simpa using hk
            have h1n : ∀ u ∈ [Value.slice aui (mkInss vv i b1).1.length cui, .int .u8 2, .int .i64 y0, .int .i64 y1, .int .i64 y2], u.oneCell' = true := by
              intro u hu
              simp only [List.mem_cons, List.not_mem_nil, or_false] at hu
              rcases hu with rfl | rfl | rfl | rfl | rfl <;> rfl
            clear hafter HG HR HM HI hend HX0 HY0 HK4 HB6 HC HB1 HB5
            go_wp2_with (at_builtin; go_must (refine wpList_append_own _ rfl (.tmp 78) (.tmp 80) 26 rfl B 69 i41 (.agg #[.slice none 0 0, .int .u8 0, .int .i64 0, .int .i64 0, .int .i64 0]) 5 56 Try.underlying26 hi41 hz41 hs41 hb41 rfl (by decide) _ _ _ rfl hO8 ⟨w9.heap.size, 0, none⟩ 1 1 _ rfl rfl hcn h1n h63 hby8 hB8 ?_))
            intro v' w9 hO9 hg9 _
            obtain ⟨z1, z2, z3⟩ := HAFTER.out v' w9 hO9 hg9
            have hv' : ∃ va vn vc, v' = .slice va vn vc := by
              rcases hO9.2 with ⟨rfl, _⟩ | ⟨k', cap', cur', rfl, _⟩
              · exact ⟨_, _, _, rfl⟩
              · exact ⟨_, _, _, rfl⟩
            obtain ⟨va, vn, vc, rfl⟩ := hv'
            have Z3 := hide z3
            clear HAFTER hO9 hg9 hO8 hB8 hcn h1n q1 q2 q3 q4 r0 r1 r2 r3 r4 f1 f2 f3 f4 z3 hpc2 hpc3
            go_wp2_with fail
            go_roundw
            case rel => exact ⟨j + 1, _, by omega, by go_num, by rw [HSN1.out, HSN2.out, hblk.out.1, hblk.out.2]; exact Z3.out⟩
            case measure => simp [intOf]; omega
          exact absurd h4 (by omega)
    · obtain rfl : j = nN := by omega
      obtain ⟨c0, c1, c2⟩ := rowF_cells hinv.fld
      obtain ⟨z0, z1, z2, g0, g1, g2⟩ := zero24_cells hinv.res
      obtain ⟨x1, x2, x3, rfl⟩ : ∃ x1 x2 x3, ub = .slice x1 x2 x3 := by
        obtain ⟨ps, _, hps2, _⟩ := hinv.blks
        rcases hps2.2 with ⟨rfl, _⟩ | ⟨k', cap', cur', rfl, _⟩
        · exact ⟨_, _, _, rfl⟩
        · exact ⟨_, _, _, rfl⟩
      obtain ⟨q0, q1, q2⟩ := set3 (.int .i64 p) (.int .i64 vv) (.slice x1 x2 x3) z0 z1 z2
      have hks : Keeps T41 wo (((wo.setCell ⟨pres, 0, none⟩ (.int .i64 p)).setCell ⟨pres, 1, none⟩ (.int .i64 vv)).setCell ⟨pres, 2, none⟩ (.slice x1 x2 x3)) := by
        have k1 : Keeps T41 wo (wo.setCell ⟨pres, 0, none⟩ (.int .i64 p)) := Keeps.set hinv.res rfl _
        have r1 := heap_setCell_same wo pres 0 _ _ (.int .i64 p) hinv.res
        have k2 := Keeps.set (T := T41) (off := 1) r1 rfl (.int .i64 vv)
        have r2 := heap_setCell_same _ pres 1 _ _ (.int .i64 vv) r1
        exact (k1.trans k2).trans (Keeps.set r2 rfl _)
      have HBK := hide (hinv.blks.keeps hks)
      have HBL := hide (bel_set3 hinv.below (g := pres) hBp.2.1 (.int .i64 p) (.int .i64 vv) (.slice x1 x2 x3))
      clear hinv HI0 hks
      go_wp2_with fail
      refine bodyPost_ret (v := .agg #[.int .i64 p, .int .i64 vv, .slice x1 x2 x3]) (by simp [results, Try.results8, go_sem, q0, q1, q2]) rfl ?_
      unfold MadePost
      rw [hBB]
      exact ⟨_, by rw [hF.out], by rw [hF.out]; exact HBK.out, HBL.out⟩
end Go.Proofs.Ytblcbccchlljhaa
