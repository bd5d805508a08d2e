/- BagLaws: the walk. -/
import Derived.Test.YtdeebmpmfedjbaaDoorLs
import Derived.Test.YtdeebmpmfedjbaaDoorOa
import Derived.Test.YtdeebmpmfedjbaaDoorL5
import Derived.Test.YtdeebmpmfedjbaaDoorL13
namespace Go.Proofs.YtdeebmpmfedjbaaDoor
open Go Go.RowKit Bag
set_option linter.unusedVariables false
/-- Five boxes, each apart from those that change. -/
structure Five (k5 k7 k9 k10 k11 : Nat) (f g F9 F10 F11 : Nat → Bool) (W : World) : Prop where
  x5 : SetAt W k5 f
  x7 : SetAt W k7 g
  x9 : SetAt W k9 F9
  x10 : SetAt W k10 F10
  x11 : SetAt W k11 F11
  n : k5 ≠ k9 ∧ k5 ≠ k10 ∧ k5 ≠ k11 ∧ k7 ≠ k9 ∧ k7 ≠ k10 ∧ k7 ≠ k11 ∧ k9 ≠ k10 ∧ k9 ≠ k11 ∧ k10 ≠ k11
section
variable {k5 k7 k9 k10 k11 k12 k13 : Nat} {f g F9 F10 F11 F : Nat → Bool} {W W' : World}
theorem Five.grow (h : Five k5 k7 k9 k10 k11 f g F9 F10 F11 W) (hg : W.grownBy W' none) : Five k5 k7 k9 k10 k11 f g F9 F10 F11 W' :=
  ⟨h.x5.kept hg (by simp), h.x7.kept hg (by simp), h.x9.kept hg (by simp), h.x10.kept hg (by simp), h.x11.kept hg (by simp), h.n⟩
theorem Five.t9 (h : Five k5 k7 k9 k10 k11 f g F9 F10 F11 W) (hs : SetAt W' k9 F) (hg : W.grownBy W' (some k9)) : Five k5 k7 k9 k10 k11 f g F F10 F11 W' := by
  obtain ⟨n1, n2, n3, n4, n5, n6, n7, n8, n9⟩ := h.n
  exact ⟨h.x5.kept hg (by simpa using n1), h.x7.kept hg (by simpa using n4), hs, h.x10.kept hg (by simpa using n7.symm), h.x11.kept hg (by simpa using n8.symm), h.n⟩
theorem Five.t10 (h : Five k5 k7 k9 k10 k11 f g F9 F10 F11 W) (hs : SetAt W' k10 F) (hg : W.grownBy W' (some k10)) : Five k5 k7 k9 k10 k11 f g F9 F F11 W' := by
  obtain ⟨n1, n2, n3, n4, n5, n6, n7, n8, n9⟩ := h.n
  exact ⟨h.x5.kept hg (by simpa using n2), h.x7.kept hg (by simpa using n5), h.x9.kept hg (by simpa using n7), hs, h.x11.kept hg (by simpa using n9.symm), h.n⟩
theorem Five.t11 (h : Five k5 k7 k9 k10 k11 f g F9 F10 F11 W) (hs : SetAt W' k11 F) (hg : W.grownBy W' (some k11)) : Five k5 k7 k9 k10 k11 f g F9 F10 F W' := by
  obtain ⟨n1, n2, n3, n4, n5, n6, n7, n8, n9⟩ := h.n
  exact ⟨h.x5.kept hg (by simpa using n3), h.x7.kept hg (by simpa using n6), h.x9.kept hg (by simpa using n8), h.x10.kept hg (by simpa using n9), hs, h.n⟩
/-- A box behind all of them changes. -/
theorem Five.last (h : Five k5 k7 k9 k10 k11 f g F9 F10 F11 W) {w0 : World} {c : Nat} (h0 : Five k5 k7 k9 k10 k11 f g F9 F10 F11 w0) (hc : w0.heap.size ≤ c) (hg : W.grownBy W' (some c)) : Five k5 k7 k9 k10 k11 f g F9 F10 F11 W' := by
  have l5 := h0.x5.lt
  have l7 := h0.x7.lt
  have l9 := h0.x9.lt
  have l10 := h0.x10.lt
  have l11 := h0.x11.lt
  exact ⟨h.x5.kept hg (by simp; omega), h.x7.kept hg (by simp; omega), h.x9.kept hg (by simp; omega), h.x10.kept hg (by simp; omega), h.x11.kept hg (by simp; omega), h.n⟩
theorem gb_last {w0 : World} {c : Nat} (h0 : w0.grownBy W none) (hc : w0.heap.size ≤ c) (hg : W.grownBy W' (some c)) : w0.grownBy W' none := h0.andThen hg (fun j e => by cases e; exact .inl hc)
end
set_option maxHeartbeats 8000000 in
set_option maxRecDepth 100000 in
theorem laws_any (p q : ActD) (up uq : Value) (w : World) (hT : Tab w) (hp : IntsV w up p.l) (hq : IntsV w uq q.l) : Calls Tryd.prog 7 #[actV p up, actV q uq] w fun e w' => e = .returned (.bool true) ∧ w.grownBy w' none := by
  have HT := hide hT
  have HP := hide hp
  have HQ := hide hq
  clear hT hp hq
  unfold actV
  go_enter Tryd.func7, Tryd.ntmps7
  go_wp2_with (first | (refine wpList_box' rfl 33 (.tmp 0) rfl _ rfl ?_; intro g2 w1 h1) | (refine wpList_box' rfl 33 (.tmp 1) rfl _ rfl ?_; intro g3 w2 h2; have HA2 := hide (cells_at h1.out.2.1 (gb_at h2.out) (by simp)); have HT2 := hide ((HT.out.gb (gb_at h1.out) (by simp)).gb (gb_at h2.out) (by simp))) | (go_at_call 9; refine (awake_any _ HT2.out).mono ?_; rintro e w3 ⟨rfl, hg3⟩; have G3 := hide (((gb_at h1.out).trans (gb_at h2.out)).trans hg3); have C2 := hide (cells_at HA2.out hg3 (by simp)); have C3 := hide (cells_at h2.out.2.1 hg3 (by simp)); have T3 := hide (HT2.out.gb hg3 (by simp)); have U3 := hide (HP.out.below (gb_to G3.out)); have V3 := hide (HQ.out.below (gb_to G3.out)); clear hg3 HA2 HT2 h1 h2) | (refine wpList_load_row rfl 33 (.tmp 2) rfl g2 rfl 33 _ _ C2.out Tryd.underlying33 rfl (info33 _ _ _ _) ?_) | (go_at_call 11; refine (other_any _ _ _ _ _ _ U3.out).mono ?_; rintro e w4 ⟨u, m, rfl, hS, _, _, hg4⟩; have S4 := hide hS; have G4 := hide (G3.out.trans hg4); have V4 := hide (V3.out.below (gb_to hg4)); have C34 := hide (cells_at C3.out hg4 (by simp)); clear hS hg4 U3 V3 C3 G3) | (refine wpList_var_set 5 rfl rfl rfl rfl (.tmp 19) rfl rfl (by simp) _ _ S4.out rfl ?_; intro k5 w5 h5; have G5 := hide (G4.out.trans h5.out.2.2); have V5 := hide (V4.out.below (gb_to h5.out.2.2)); have C5 := hide (cells_at C34.out h5.out.2.2 (by simp)); clear S4 G4 V4 C34) | (refine wpList_load_row rfl 33 (.tmp 3) rfl g3 rfl 33 _ _ C5.out Tryd.underlying33 rfl (info33 _ _ _ _) ?_) | (go_at_call 11; refine (other_any _ _ _ _ _ _ V5.out).mono ?_; rintro e w6 ⟨u, m, rfl, hS, _, _, hg6⟩; have S6 := hide hS; have G6 := hide (G5.out.trans hg6); have X6 := hide (h5.out.2.1.kept hg6 (by simp)); clear hS hg6 V5 G5 h5) | (refine wpList_var_set 7 rfl rfl rfl rfl (.tmp 24) rfl rfl (by simp) _ _ S6.out rfl ?_; intro k7 w7 h7; have G7 := hide (G6.out.trans h7.out.2.2); have X7 := hide (X6.out.kept h7.out.2.2 (by simp)); have Y7 := hide h7.out.2.1; clear S6 G6 X6))
  generalize ofL (nl p.l p.raw) = f at *
  generalize ofL (nl q.l q.raw) = g at *
  refine l5_ok k5 f rfl rfl X7.out (fun s w8 k9 k10 k11 p9 p10 p11 l9 l10 l11 n1 n2 n3 x9 x10 x11 hg => ?_)
  have F8 : Hid (Five k5 k7 k9 k10 k11 f g f f f w8) := by
    have a5 := X7.out.lt
    have a7 := Y7.out.lt
    exact ⟨X7.out.kept hg (by simp), Y7.out.kept hg (by simp), x9, x10, x11, by omega⟩
  have G8 := hide (G7.out.trans hg)
  have L9 := hide (Nat.le_trans G7.out.size l9)
  have L10 := hide (Nat.le_trans G7.out.size l10)
  have L11 := hide (Nat.le_trans G7.out.size l11)
  clear X7 Y7 G7 hg x9 x10 x11 n1 n2 n3 l9 l10 l11 HT HP HQ C2 T3 h7 C5
  simp [overlay, dstsOf, ops_l5, p9, p10, p11]
  clear p9 p10 p11
  generalize s 26 = s26
  generalize s 27 = s27
  generalize s 28 = s28
  generalize s 29 = s29
  generalize s 30 = s30
  generalize s 31 = s31
  go_wp2_with (first | (refine wpList_load_set rfl (.tmp 7) rfl k7 rfl _ F8.out.x7 ?_; intro cs9 hc9) | (go_at_call 15; refine (meet_any k9 _ f g _ F8.out.x9 hc9.out).mono ?_; rintro e w9 ⟨rfl, hS, hg⟩; have F9 := hide (F8.out.t9 hS hg); have G9 := hide (gb_last G8.out L9.out hg); clear hS hg F8 G8 hc9) | (refine wpList_load_set rfl (.tmp 7) rfl k7 rfl _ F9.out.x7 ?_; intro cs10 hc10) | (go_at_call 14; refine (less_any k10 _ f g _ F9.out.x10 hc10.out).mono ?_; rintro e w10 ⟨rfl, hS, hg⟩; have F10 := hide (F9.out.t10 hS hg); have G10 := hide (gb_last G9.out L10.out hg); clear hS hg F9 G9 hc10) | (refine wpList_load_set rfl (.tmp 7) rfl k7 rfl _ F10.out.x7 ?_; intro cs11 hc11) | (go_at_call 13; refine (join_any k11 _ f g _ F10.out.x11 hc11.out).mono ?_; rintro e w11 ⟨rfl, hS, hg⟩; have F11 := hide (F10.out.t11 hS hg); have G11 := hide (gb_last G10.out L11.out hg); clear hS hg F10 G10 hc11) | (refine wpList_load_set rfl (.tmp 10) rfl k10 rfl _ F11.out.x10 ?_; intro cs12 hc12) | (go_at_call 16; refine (copy_any _ _ _ hc12.out).mono ?_; rintro e w12 ⟨u12, rfl, hu, hg⟩; have HU12 := hide hu; have F12 := hide (F11.out.grow hg); have G12 := hide (G11.out.trans hg); clear hu hg F11 G11 hc12) | (refine wpList_var_set 12 rfl rfl rfl rfl (.tmp 39) rfl rfl (by simp) _ _ HU12.out rfl ?_; intro k12 w13 h13; have F13 := hide (F12.out.grow h13.out.2.2); have G13 := hide (G12.out.trans h13.out.2.2); have L12 := hide (show w.heap.size ≤ k12 by rw [h13.out.1]; exact G12.out.size); have M12 := hide (show w12.heap.size ≤ k12 by rw [h13.out.1]; exact Nat.le_refl _); have X12 := hide h13.out.2.1; clear HU12 h13) | (refine wpList_load_set rfl (.tmp 9) rfl k9 rfl _ F13.out.x9 ?_; intro cs14 hc14) | (go_at_call 13; refine (join_any k12 _ _ _ _ X12.out hc14.out).mono ?_; rintro e w14 ⟨rfl, hS, hg⟩; have F14 := hide (F13.out.last F12.out M12.out hg); have G14 := hide (gb_last G13.out L12.out hg); have Z12 := hide hS; clear hS hg F13 G13 hc14 X12 M12) | (refine wpList_load_set rfl (.tmp 10) rfl k10 rfl _ F14.out.x10 ?_; intro cs15 hc15) | (go_at_call 16; refine (copy_any _ _ _ hc15.out).mono ?_; rintro e w15 ⟨u15, rfl, hu, hg⟩; have HU15 := hide hu; have F15 := hide (F14.out.grow hg); have G15 := hide (G14.out.trans hg); have T12 := hide (Z12.out.kept hg (by simp)); clear hu hg F14 G14 hc15 Z12) | (refine wpList_var_set 13 rfl rfl rfl rfl (.tmp 43) rfl rfl (by simp) _ _ HU15.out rfl ?_; intro k13 w16 h16; have F16 := hide (F15.out.grow h16.out.2.2); have G16 := hide (G15.out.trans h16.out.2.2); have L13 := hide (show w.heap.size ≤ k13 by rw [h16.out.1]; exact G15.out.size); have M13 := hide (show w15.heap.size ≤ k13 by rw [h16.out.1]; exact Nat.le_refl _); have X13 := hide h16.out.2.1; have U12 := hide (T12.out.kept h16.out.2.2 (by simp)); clear HU15 h16) | (refine wpList_load_set rfl (.tmp 7) rfl k7 rfl _ F16.out.x7 ?_; intro cs17 hc17) | (go_at_call 13; refine (join_any k13 _ _ _ _ X13.out hc17.out).mono ?_; rintro e w17 ⟨rfl, hS, hg⟩; have F17 := hide (F16.out.last F15.out M13.out hg); have G17 := hide (gb_last G16.out L13.out hg); have Y12 := hide (U12.out.kept hg (by have := T12.out.lt; have := M13.out; simp; omega)); have X13 := hide hS; clear hS hg F16 G16 hc17 M13))
  refine l13_ok k5 k7 k9 k10 k11 k12 k13 f g _ _ rfl rfl rfl rfl rfl rfl rfl rfl 0 ⟨F17.out.x5, F17.out.x7, F17.out.x9, F17.out.x10, F17.out.x11, Y12.out, X13.out⟩ (same_of fun x => by cases f x <;> cases g x <;> rfl) (same_of fun x => by unfold union; cases f x <;> cases g x <;> rfl) (fun s W hs hg => ?_)
  simp [overlay, dstsOf, ops_l13_ok, hs]
  go_wp2_with fail
  go_ret
  exact ⟨rfl, gb_last G17.out L11.out hg⟩
end Go.Proofs.YtdeebmpmfedjbaaDoor
