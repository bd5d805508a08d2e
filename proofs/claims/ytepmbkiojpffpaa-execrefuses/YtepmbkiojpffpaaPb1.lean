/- One round of the document's Play. -/
import Derived.Test.YtepmbkiojpffpaaPx
namespace Go.Proofs.Ytepmbkiojpffpaa
open Go Go.RowKit Ir

set_option maxHeartbeats 1000000 in
set_option maxRecDepth 100000 in
theorem body_starve {Q : Exit → Act → World → Prop} {a : Act} {w wr : World} {ub : Option Addr} {cb : Nat} {bs : List Blk} {r : Int} {n gi gr go gp : Nat} {ca : Option Addr} {cc : Nat} {ans : List Int} {s : St} {cv : Value} {tn kn qn : Nat} {i : Ins} (hA : ActP (.slice ub bs.length cb) (.int .i64 r) (P0 gi) (P0 gr) (.slice (some ⟨gp, 0, none⟩) n n) (P0 go) (.int .i64 (tn : Nat)) (.int .i64 (kn : Nat)) (.int .i64 (qn : Nat)) a) (hS : Stand w n gi gr go gp ca cc ans wr s cv qn) (hu : BlksV w (.slice ub bs.length cb) bs) (ht : tn < bs.length) (hk : kn < (bs.getD tn Blk.zero).ins.length) (hkl : (bs.getD tn Blk.zero).ins.length ≤ 1000) (hi : (bs.getD tn Blk.zero).ins.getD kn Ins.zero = i) (hok : OkI r n i) (hkind : free i.k = false) (h0 : s.left = 0)
    (hgo : ∀ (a' : Act) (W : World) (s' : St) (cv' : Value) (qn' : Nat), one r i s = .inl s' → ActP (.slice ub bs.length cb) (.int .i64 r) (P0 gi) (P0 gr) (.slice (some ⟨gp, 0, none⟩) n n) (P0 go) (.int .i64 (tn : Nat)) (.int .i64 (kn + 1 : Nat)) (.int .i64 (qn' : Nat)) a' → Stand w n gi gr go gp ca cc ans W s' cv' qn' → Q .normal a' W) (hret : ∀ (a' : Act) (W : World) (o : Out), one r i s = .inr o → FinP w gr a' W o → Q .ret a' W) : body14.wp Try.prog Q a wr := by
  obtain ⟨ρ, rfl⟩ := hA.lit
  obtain ⟨gb, off, ib, ioff, icap, ua, an, ac, rfl, hc0, hci, hua⟩ := next_ins hu hS.below ht hk
  rw [hi] at hci hua
  obtain ⟨k, op, d, x, b, nn, args⟩ := i
  obtain ⟨c0, c1, c2, c3, c4, c5, c6⟩ := hci
  simp only at c0 c1 c2 c3 c4 c5 c6 hua hkind
  have hk2 : (k == 2) = false := by rw [beq_eq_false_iff_ne]; intro e; subst e; simp [free] at hkind
  have hk7 : (k == 7) = false := by rw [beq_eq_false_iff_ne]; intro e; subst e; simp [free] at hkind
  have hk8 : (k == 8) = false := by rw [beq_eq_false_iff_ne]; intro e; subst e; simp [free] at hkind
  obtain ⟨il, hil⟩ : ∃ il, (bs.getD tn Blk.zero).ins.length = il := ⟨_, rfl⟩
  rw [hil] at hk hkl hc0
  have htl : (tn : Int) < (bs.length : Int) := by omega
  have hkl2 : (kn : Int) < (il : Int) := by omega
  have hkl3 : (kn : Int) < 1000 := by omega
  have HGO := hide hgo
  have HRET := hide hret
  have HS := hide hS
  have HUA := hide hua
  have hBx := bel1' wr (.cells #[.int .u8 k, .int .u8 op, .int .i64 d, .int .i64 x, .int .i64 b, .int .i64 nn, .slice ua an ac] 65)
  have hbox : (wr.alloc (.cells #[.int .u8 k, .int .u8 op, .int .i64 d, .int .i64 x, .int .i64 b, .int .i64 nn, .slice ua an ac] 65)).heap[wr.heap.size]? = some (Obj.cells (rowI ⟨k, op, d, x, b, nn, args⟩ (.slice ua an ac)) 65 (0, 0)) := heap_alloc_new wr _
  obtain ⟨b0, b1, b2, b3, b4, b5, b6⟩ := rowI_cells hbox
  simp only [Nat.zero_add] at b0 b1 b2 b3 b4 b5 b6
  have hR1 := hS.run.of hBx
  have hM1 : Mp w.heap.size go gp wr (wr.alloc (.cells #[.int .u8 k, .int .u8 op, .int .i64 d, .int .i64 x, .int .i64 b, .int .i64 nn, .slice ua an ac] 65)) := Mp.of hBx hS.run.size.1
  have c67 := hR1.c67
  rw [h0] at c67
  have c00 := hR1.c0
  have f00 := hR1.fr 0
  obtain ⟨hRh, hMh⟩ := hR1.halt 3
  have hM9 := hM1.trans hMh
  obtain ⟨Z, hz, hzs⟩ := HS.out.res
  obtain ⟨OL, hOL, horow, hOLl, hOne⟩ := (hRh).out
  have hzW := (hM9).outs _ _ HS.out.ne.1 hz
  have HO := hide (And.intro horow (And.intro hOLl (And.intro hzW (And.intro hOne (And.intro hzs (And.intro (HS.out.below.trans (hM9).below) HS.out.ne.2))))))
  have HOL := hide hOL
  clear hz hzs hOL horow hOLl hzW hOne
  have hone : one r ⟨k, op, d, x, b, nn, args⟩ s = .inr ⟨3, 0, s.calls, s.mem, s.left⟩ := by rw [one_paid hkind]; unfold paid; rw [if_pos h0, h0]; rfl
  have HONE := hide hone
  have HRH := hide hRh
  clear hone hRh hMh hM9 hkind h0 hR1 hM1
  clear hgo hret hS hA hu hua hi hok hil hBx hbox
  unfold body14
  simp only [P0]
  go_wp2_with (first | (refine wpList_load_row rfl 37 (.tmp 13) rfl go rfl 37 OL.toArray (0, 0) _ HO.out.1 Try.underlying37 rfl (by simp only [List.size_toArray, HO.out.2.1]; exact size37) ?_) | (refine wpList_store_whole rfl 37 (.tmp 10) (.tmp 129) rfl gr 37 Z OL.toArray rfl rfl HO.out.2.2.1 (by simp only [List.size_toArray, HO.out.2.1]; exact size37) (by simp only [List.size_toArray, HO.out.2.1]; exact HO.out.2.2.2.2.1) HO.out.2.2.2.1 w.heap.size w HO.out.2.2.2.2.2.1 HO.out.2.2.2.2.2.2 ?_; intro W7 hrow7 hgr7 hbel7))
  exact HRET.out _ _ _ HONE.out (HS.out.done HRH.out HO.out.2.2.1 HOL.out hrow7.out hgr7.out hbel7.out rfl rfl)
set_option maxHeartbeats 1000000 in
set_option maxRecDepth 100000 in
theorem body_1 {Q : Exit → Act → World → Prop} {a : Act} {w wr : World} {ub : Option Addr} {cb : Nat} {bs : List Blk} {r : Int} {n gi gr go gp : Nat} {ca : Option Addr} {cc : Nat} {ans : List Int} {s : St} {cv : Value} {tn kn qn : Nat} {i : Ins} (hA : ActP (.slice ub bs.length cb) (.int .i64 r) (P0 gi) (P0 gr) (.slice (some ⟨gp, 0, none⟩) n n) (P0 go) (.int .i64 (tn : Nat)) (.int .i64 (kn : Nat)) (.int .i64 (qn : Nat)) a) (hS : Stand w n gi gr go gp ca cc ans wr s cv qn) (hu : BlksV w (.slice ub bs.length cb) bs) (ht : tn < bs.length) (hk : kn < (bs.getD tn Blk.zero).ins.length) (hkl : (bs.getD tn Blk.zero).ins.length ≤ 1000) (hi : (bs.getD tn Blk.zero).ins.getD kn Ins.zero = i) (hok : OkI r n i) (hkind : i.k = 1) (h0 : s.left ≠ 0)
    (hgo : ∀ (a' : Act) (W : World) (s' : St) (cv' : Value) (qn' : Nat), one r i s = .inl s' → ActP (.slice ub bs.length cb) (.int .i64 r) (P0 gi) (P0 gr) (.slice (some ⟨gp, 0, none⟩) n n) (P0 go) (.int .i64 (tn : Nat)) (.int .i64 (kn + 1 : Nat)) (.int .i64 (qn' : Nat)) a' → Stand w n gi gr go gp ca cc ans W s' cv' qn' → Q .normal a' W) (hret : ∀ (a' : Act) (W : World) (o : Out), one r i s = .inr o → FinP w gr a' W o → Q .ret a' W) : body14.wp Try.prog Q a wr := by
  obtain ⟨ρ, rfl⟩ := hA.lit
  obtain ⟨gb, off, ib, ioff, icap, ua, an, ac, rfl, hc0, hci, hua⟩ := next_ins hu hS.below ht hk
  rw [hi] at hci hua
  obtain ⟨k, op, d, x, b, nn, args⟩ := i
  obtain ⟨c0, c1, c2, c3, c4, c5, c6⟩ := hci
  simp only at c0 c1 c2 c3 c4 c5 c6 hua hkind
  subst hkind
  obtain ⟨dn, hd, hd2⟩ := nat_of (hok.d (by simp) (by simp))
  simp only at hd
  subst hd
  obtain ⟨il, hil⟩ : ∃ il, (bs.getD tn Blk.zero).ins.length = il := ⟨_, rfl⟩
  rw [hil] at hk hkl hc0
  have htl : (tn : Int) < (bs.length : Int) := by omega
  have hkl2 : (kn : Int) < (il : Int) := by omega
  have hkl3 : (kn : Int) < 1000 := by omega
  have HGO := hide hgo
  have HRET := hide hret
  have HS := hide hS
  have HUA := hide hua
  have hBx := bel1' wr (.cells #[.int .u8 1, .int .u8 op, .int .i64 dn, .int .i64 x, .int .i64 b, .int .i64 nn, .slice ua an ac] 65)
  have hbox : (wr.alloc (.cells #[.int .u8 1, .int .u8 op, .int .i64 dn, .int .i64 x, .int .i64 b, .int .i64 nn, .slice ua an ac] 65)).heap[wr.heap.size]? = some (Obj.cells (rowI ⟨1, op, dn, x, b, nn, args⟩ (.slice ua an ac)) 65 (0, 0)) := heap_alloc_new wr _
  obtain ⟨b0, b1, b2, b3, b4, b5, b6⟩ := rowI_cells hbox
  simp only [Nat.zero_add] at b0 b1 b2 b3 b4 b5 b6
  have hR1 := hS.run.of hBx
  have hM1 : Mp w.heap.size go gp wr (wr.alloc (.cells #[.int .u8 1, .int .u8 op, .int .i64 dn, .int .i64 x, .int .i64 b, .int .i64 nn, .slice ua an ac] 65)) := Mp.of hBx hS.run.size.1
  have c67 := hR1.c67
  have f67 := hR1.fr 67
  obtain ⟨hRp, hMp⟩ := hR1.spend h0
  have hboxp := hMp.keeps _ _ _ _ rfl hbox
  obtain ⟨p0, p1, p2, p3, p4, p5, p6⟩ := rowI_cells hboxp
  simp only [Nat.zero_add] at p0 p1 p2 p3 p4 p5 p6
  have hl0 : 0 < (s.left : Int) := by omega
  have hl1 : (s.left : Int) ≤ 1048576 := by have := hS.sum; omega
  have hlz : ((s.left : Int) == 0) = false := by rw [beq_eq_false_iff_ne]; omega
  have hone : one r ⟨1, op, dn, x, b, nn, args⟩ s = act r ⟨1, op, dn, x, b, nn, args⟩ { s with left := s.left - 1 } := by rw [one_paid (by simp [free])]; unfold paid; rw [if_neg h0]; rfl
  have HONE := hide hone
  clear hone
  have hlen := hS.len
  have q0 := hRp.pc (j := dn) (by simp only [hlen]; exact hd2)
  have q1 := hRp.pf dn
  have hdl : (dn : Int) < (n : Int) := by omega
  obtain ⟨hR3, hM3⟩ := hRp.place dn nn
  have HM3 := hide ((hM1.trans hMp).trans hM3)
  have HR3 := hide hR3
  clear hR3 hM3 hRp hMp hR1 hM1 hlen
  clear hgo hret hS hA hu hua hi hok hil hBx hbox hboxp h0
  unfold body14
  simp only [P0]
  go_wp2_with fail
  refine HGO.out _ _ { s with p := s.p.set dn nn, left := s.left - 1 } _ qn ?_ ⟨rfl, rfl, rfl, rfl, rfl, rfl, rfl, rfl, rfl, rfl, rfl⟩ (HS.out.move HR3.out HM3.out HS.out.ans HS.out.asked (by simp; exact HS.out.len) (by have := HS.out.sum; simp only; omega))
  rw [HONE.out]
  simp [act, pst]
end Go.Proofs.Ytepmbkiojpffpaa
namespace Go.Proofs.Ytepmbkiojpffpaa
open Go Go.RowKit Ir

set_option maxHeartbeats 1000000 in
set_option maxRecDepth 100000 in
theorem body_2 {Q : Exit → Act → World → Prop} {a : Act} {w wr : World} {ub : Option Addr} {cb : Nat} {bs : List Blk} {r : Int} {n gi gr go gp : Nat} {ca : Option Addr} {cc : Nat} {ans : List Int} {s : St} {cv : Value} {tn kn qn : Nat} {i : Ins} (hA : ActP (.slice ub bs.length cb) (.int .i64 r) (P0 gi) (P0 gr) (.slice (some ⟨gp, 0, none⟩) n n) (P0 go) (.int .i64 (tn : Nat)) (.int .i64 (kn : Nat)) (.int .i64 (qn : Nat)) a) (hS : Stand w n gi gr go gp ca cc ans wr s cv qn) (hu : BlksV w (.slice ub bs.length cb) bs) (ht : tn < bs.length) (hk : kn < (bs.getD tn Blk.zero).ins.length) (hkl : (bs.getD tn Blk.zero).ins.length ≤ 1000) (hi : (bs.getD tn Blk.zero).ins.getD kn Ins.zero = i) (hok : OkI r n i) (hkind : i.k = 2)
    (hgo : ∀ (a' : Act) (W : World) (s' : St) (cv' : Value) (qn' : Nat), one r i s = .inl s' → ActP (.slice ub bs.length cb) (.int .i64 r) (P0 gi) (P0 gr) (.slice (some ⟨gp, 0, none⟩) n n) (P0 go) (.int .i64 (tn : Nat)) (.int .i64 (kn + 1 : Nat)) (.int .i64 (qn' : Nat)) a' → Stand w n gi gr go gp ca cc ans W s' cv' qn' → Q .normal a' W) (hret : ∀ (a' : Act) (W : World) (o : Out), one r i s = .inr o → FinP w gr a' W o → Q .ret a' W) : body14.wp Try.prog Q a wr := by
  obtain ⟨ρ, rfl⟩ := hA.lit
  obtain ⟨gb, off, ib, ioff, icap, ua, an, ac, rfl, hc0, hci, hua⟩ := next_ins hu hS.below ht hk
  rw [hi] at hci hua
  obtain ⟨k, op, d, x, b, nn, args⟩ := i
  obtain ⟨c0, c1, c2, c3, c4, c5, c6⟩ := hci
  simp only at c0 c1 c2 c3 c4 c5 c6 hua hkind
  subst hkind
  obtain ⟨dn, hd, hd2⟩ := nat_of (hok.d (by simp) (by simp))
  simp only at hd
  subst hd
  obtain ⟨an2, hx, hx2⟩ := nat_of (hok.a (by simp) (by simp) (by simp))
  simp only at hx
  subst hx
  obtain ⟨il, hil⟩ : ∃ il, (bs.getD tn Blk.zero).ins.length = il := ⟨_, rfl⟩
  rw [hil] at hk hkl hc0
  have htl : (tn : Int) < (bs.length : Int) := by omega
  have hkl2 : (kn : Int) < (il : Int) := by omega
  have hkl3 : (kn : Int) < 1000 := by omega
  have HGO := hide hgo
  have HRET := hide hret
  have HS := hide hS
  have HUA := hide hua
  have hBx := bel1' wr (.cells #[.int .u8 2, .int .u8 op, .int .i64 dn, .int .i64 an2, .int .i64 b, .int .i64 nn, .slice ua an ac] 65)
  have hbox : (wr.alloc (.cells #[.int .u8 2, .int .u8 op, .int .i64 dn, .int .i64 an2, .int .i64 b, .int .i64 nn, .slice ua an ac] 65)).heap[wr.heap.size]? = some (Obj.cells (rowI ⟨2, op, dn, an2, b, nn, args⟩ (.slice ua an ac)) 65 (0, 0)) := heap_alloc_new wr _
  obtain ⟨b0, b1, b2, b3, b4, b5, b6⟩ := rowI_cells hbox
  simp only [Nat.zero_add] at b0 b1 b2 b3 b4 b5 b6
  have hR1 := hS.run.of hBx
  have hM1 : Mp w.heap.size go gp wr (wr.alloc (.cells #[.int .u8 2, .int .u8 op, .int .i64 dn, .int .i64 an2, .int .i64 b, .int .i64 nn, .slice ua an ac] 65)) := Mp.of hBx hS.run.size.1
  clear hgo hret hS hA hu hua hi hok hil hBx hbox
  unfold body14
  simp only [P0]
  go_wp2_with fail
  clear c0 c1 c2 c3 c4 c5 c6 hc0
  generalize wr.alloc (.cells #[.int .u8 2, .int .u8 op, .int .i64 dn, .int .i64 an2, .int .i64 b, .int .i64 nn, .slice ua an ac] 65) = W1 at *
  generalize wr.heap.size = gb1 at *
  have hlen := HS.out.len
  have hdr : Below W1.heap.size W1 W1.drew := (Below.refl _ _).drew
  have hM2 := hM1.trans (Mp.of hdr hR1.size.1)
  have hR2 := hR1.of hdr
  obtain ⟨xv, hxv⟩ : ∃ xv, pg s.p (an2 : Int) = xv := ⟨_, rfl⟩
  obtain ⟨hR3, hM3⟩ := hR2.place dn xv
  refine py16_ok (gp := gp) (gb := gb1) (n := n) rfl rfl rfl b2 b3 (hR1.pp (by rw [hlen]; exact hx2) hxv) (hR1.pc (by rw [hlen]; exact hd2)) (hR1.pf dn) (by omega) (by omega) ?_
  intro q
  simp [overlay, dstsOf, ops_py16_ok]
  go_wp2_with fail
  refine HGO.out _ _ { s with p := s.p.set dn xv } _ qn ?_ ⟨rfl, rfl, rfl, rfl, rfl, rfl, rfl, rfl, rfl, rfl, rfl⟩ (HS.out.move hR3 (hM2.trans hM3) HS.out.ans HS.out.asked (by simp; exact hlen) HS.out.sum)
  simp [one, free, act, pst, hxv]
set_option maxHeartbeats 1000000 in
set_option maxRecDepth 100000 in
theorem body_7 {Q : Exit → Act → World → Prop} {a : Act} {w wr : World} {ub : Option Addr} {cb : Nat} {bs : List Blk} {r : Int} {n gi gr go gp : Nat} {ca : Option Addr} {cc : Nat} {ans : List Int} {s : St} {cv : Value} {tn kn qn : Nat} {i : Ins} (hA : ActP (.slice ub bs.length cb) (.int .i64 r) (P0 gi) (P0 gr) (.slice (some ⟨gp, 0, none⟩) n n) (P0 go) (.int .i64 (tn : Nat)) (.int .i64 (kn : Nat)) (.int .i64 (qn : Nat)) a) (hS : Stand w n gi gr go gp ca cc ans wr s cv qn) (hu : BlksV w (.slice ub bs.length cb) bs) (ht : tn < bs.length) (hk : kn < (bs.getD tn Blk.zero).ins.length) (hkl : (bs.getD tn Blk.zero).ins.length ≤ 1000) (hi : (bs.getD tn Blk.zero).ins.getD kn Ins.zero = i) (hok : OkI r n i) (hkind : i.k = 7) (hr : 0 ≤ r)
    (hgo : ∀ (a' : Act) (W : World) (s' : St) (cv' : Value) (qn' : Nat), one r i s = .inl s' → ActP (.slice ub bs.length cb) (.int .i64 r) (P0 gi) (P0 gr) (.slice (some ⟨gp, 0, none⟩) n n) (P0 go) (.int .i64 (tn : Nat)) (.int .i64 (kn + 1 : Nat)) (.int .i64 (qn' : Nat)) a' → Stand w n gi gr go gp ca cc ans W s' cv' qn' → Q .normal a' W) (hret : ∀ (a' : Act) (W : World) (o : Out), one r i s = .inr o → FinP w gr a' W o → Q .ret a' W) : body14.wp Try.prog Q a wr := by
  obtain ⟨ρ, rfl⟩ := hA.lit
  obtain ⟨gb, off, ib, ioff, icap, ua, an, ac, rfl, hc0, hci, hua⟩ := next_ins hu hS.below ht hk
  rw [hi] at hci hua
  obtain ⟨k, op, d, x, b, nn, args⟩ := i
  obtain ⟨c0, c1, c2, c3, c4, c5, c6⟩ := hci
  simp only at c0 c1 c2 c3 c4 c5 c6 hua hkind
  subst hkind
  have hdd := hok.d7 (by simp)
  simp only at hdd
  obtain ⟨an2, hx, hx2⟩ := nat_of (hok.a (by simp) (by simp) (by simp))
  simp only at hx
  subst hx
  obtain ⟨dn, hd, hd2⟩ := nat_of (show 0 ≤ d ∧ d < ((1000 : Nat) : Int) from ⟨hdd.1, by omega⟩)
  subst hd
  obtain ⟨en, he, he2⟩ := nat_of (show 0 ≤ r + (dn : Int) ∧ r + (dn : Int) < (n : Int) from ⟨by omega, hdd.2.2⟩)
  obtain ⟨il, hil⟩ : ∃ il, (bs.getD tn Blk.zero).ins.length = il := ⟨_, rfl⟩
  rw [hil] at hk hkl hc0
  have htl : (tn : Int) < (bs.length : Int) := by omega
  have hkl2 : (kn : Int) < (il : Int) := by omega
  have hkl3 : (kn : Int) < 1000 := by omega
  have HGO := hide hgo
  have HRET := hide hret
  have HS := hide hS
  have HUA := hide hua
  have hBx := bel1' wr (.cells #[.int .u8 7, .int .u8 op, .int .i64 dn, .int .i64 an2, .int .i64 b, .int .i64 nn, .slice ua an ac] 65)
  have hbox : (wr.alloc (.cells #[.int .u8 7, .int .u8 op, .int .i64 dn, .int .i64 an2, .int .i64 b, .int .i64 nn, .slice ua an ac] 65)).heap[wr.heap.size]? = some (Obj.cells (rowI ⟨7, op, dn, an2, b, nn, args⟩ (.slice ua an ac)) 65 (0, 0)) := heap_alloc_new wr _
  obtain ⟨b0, b1, b2, b3, b4, b5, b6⟩ := rowI_cells hbox
  simp only [Nat.zero_add] at b0 b1 b2 b3 b4 b5 b6
  have hR1 := hS.run.of hBx
  have hM1 : Mp w.heap.size go gp wr (wr.alloc (.cells #[.int .u8 7, .int .u8 op, .int .i64 dn, .int .i64 an2, .int .i64 b, .int .i64 nn, .slice ua an ac] 65)) := Mp.of hBx hS.run.size.1
  have HE := hide he
  clear he
  clear hgo hret hS hA hu hua hi hok hil hBx hbox
  unfold body14
  simp only [P0]
  go_wp2_with fail
  clear c0 c1 c2 c3 c4 c5 c6 hc0
  generalize wr.alloc (.cells #[.int .u8 7, .int .u8 op, .int .i64 dn, .int .i64 an2, .int .i64 b, .int .i64 nn, .slice ua an ac] 65) = W1 at *
  generalize wr.heap.size = gb1 at *
  have hlen := HS.out.len
  have hdr : Below W1.heap.size W1 W1.drew := (Below.refl _ _).drew
  have hM2 := hM1.trans (Mp.of hdr hR1.size.1)
  have hR2 := hR1.of hdr
  obtain ⟨xv, hxv⟩ : ∃ xv, pg s.p (an2 : Int) = xv := ⟨_, rfl⟩
  obtain ⟨hR3, hM3⟩ := hR2.place en xv
  have hsm := HS.out.run.small
  refine py18_ok (gp := gp) (gb := gb1) (n := n) rfl rfl rfl rfl b2 b3 (hR1.pp (by rw [hlen]; exact hx2) hxv) (hR1.pc (by rw [hlen]; exact he2)) (hR1.pf en) HE.out (by omega) (by omega) (by omega) ?_
  intro q
  simp [overlay, dstsOf, ops_py18_ok]
  go_wp2_with fail
  refine HGO.out _ _ { s with p := s.p.set en xv } _ qn ?_ ⟨rfl, rfl, rfl, rfl, rfl, rfl, rfl, rfl, rfl, rfl, rfl⟩ (HS.out.move hR3 (hM2.trans hM3) HS.out.ans HS.out.asked (by simp; exact hlen) HS.out.sum)
  simp [one, free, act, pst, hxv, HE.out]
set_option maxHeartbeats 1000000 in
set_option maxRecDepth 100000 in
theorem body_8 {Q : Exit → Act → World → Prop} {a : Act} {w wr : World} {ub : Option Addr} {cb : Nat} {bs : List Blk} {r : Int} {n gi gr go gp : Nat} {ca : Option Addr} {cc : Nat} {ans : List Int} {s : St} {cv : Value} {tn kn qn : Nat} {i : Ins} (hA : ActP (.slice ub bs.length cb) (.int .i64 r) (P0 gi) (P0 gr) (.slice (some ⟨gp, 0, none⟩) n n) (P0 go) (.int .i64 (tn : Nat)) (.int .i64 (kn : Nat)) (.int .i64 (qn : Nat)) a) (hS : Stand w n gi gr go gp ca cc ans wr s cv qn) (hu : BlksV w (.slice ub bs.length cb) bs) (ht : tn < bs.length) (hk : kn < (bs.getD tn Blk.zero).ins.length) (hkl : (bs.getD tn Blk.zero).ins.length ≤ 1000) (hi : (bs.getD tn Blk.zero).ins.getD kn Ins.zero = i) (hok : OkI r n i) (hkind : i.k = 8) (hr : 0 ≤ r)
    (hgo : ∀ (a' : Act) (W : World) (s' : St) (cv' : Value) (qn' : Nat), one r i s = .inl s' → ActP (.slice ub bs.length cb) (.int .i64 r) (P0 gi) (P0 gr) (.slice (some ⟨gp, 0, none⟩) n n) (P0 go) (.int .i64 (tn : Nat)) (.int .i64 (kn + 1 : Nat)) (.int .i64 (qn' : Nat)) a' → Stand w n gi gr go gp ca cc ans W s' cv' qn' → Q .normal a' W) (hret : ∀ (a' : Act) (W : World) (o : Out), one r i s = .inr o → FinP w gr a' W o → Q .ret a' W) : body14.wp Try.prog Q a wr := by
  obtain ⟨ρ, rfl⟩ := hA.lit
  obtain ⟨gb, off, ib, ioff, icap, ua, an, ac, rfl, hc0, hci, hua⟩ := next_ins hu hS.below ht hk
  rw [hi] at hci hua
  obtain ⟨k, op, d, x, b, nn, args⟩ := i
  obtain ⟨c0, c1, c2, c3, c4, c5, c6⟩ := hci
  simp only at c0 c1 c2 c3 c4 c5 c6 hua hkind
  subst hkind
  have hxx := hok.a8 (by simp)
  simp only at hxx
  obtain ⟨dn, hd, hd2⟩ := nat_of (hok.d (by simp) (by simp))
  simp only at hd
  subst hd
  obtain ⟨an2, hx, hx2⟩ := nat_of (show 0 ≤ x ∧ x < ((1000 : Nat) : Int) from ⟨hxx.1, by omega⟩)
  subst hx
  obtain ⟨en, he, he2⟩ := nat_of (show 0 ≤ r + (an2 : Int) ∧ r + (an2 : Int) < (n : Int) from ⟨by omega, hxx.2.2⟩)
  obtain ⟨il, hil⟩ : ∃ il, (bs.getD tn Blk.zero).ins.length = il := ⟨_, rfl⟩
  rw [hil] at hk hkl hc0
  have htl : (tn : Int) < (bs.length : Int) := by omega
  have hkl2 : (kn : Int) < (il : Int) := by omega
  have hkl3 : (kn : Int) < 1000 := by omega
  have HGO := hide hgo
  have HRET := hide hret
  have HS := hide hS
  have HUA := hide hua
  have hBx := bel1' wr (.cells #[.int .u8 8, .int .u8 op, .int .i64 dn, .int .i64 an2, .int .i64 b, .int .i64 nn, .slice ua an ac] 65)
  have hbox : (wr.alloc (.cells #[.int .u8 8, .int .u8 op, .int .i64 dn, .int .i64 an2, .int .i64 b, .int .i64 nn, .slice ua an ac] 65)).heap[wr.heap.size]? = some (Obj.cells (rowI ⟨8, op, dn, an2, b, nn, args⟩ (.slice ua an ac)) 65 (0, 0)) := heap_alloc_new wr _
  obtain ⟨b0, b1, b2, b3, b4, b5, b6⟩ := rowI_cells hbox
  simp only [Nat.zero_add] at b0 b1 b2 b3 b4 b5 b6
  have hR1 := hS.run.of hBx
  have hM1 : Mp w.heap.size go gp wr (wr.alloc (.cells #[.int .u8 8, .int .u8 op, .int .i64 dn, .int .i64 an2, .int .i64 b, .int .i64 nn, .slice ua an ac] 65)) := Mp.of hBx hS.run.size.1
  have HE := hide he
  clear he
  clear hgo hret hS hA hu hua hi hok hil hBx hbox
  unfold body14
  simp only [P0]
  go_wp2_with fail
  clear c0 c1 c2 c3 c4 c5 c6 hc0
  generalize wr.alloc (.cells #[.int .u8 8, .int .u8 op, .int .i64 dn, .int .i64 an2, .int .i64 b, .int .i64 nn, .slice ua an ac] 65) = W1 at *
  generalize wr.heap.size = gb1 at *
  have hlen := HS.out.len
  have hdr : Below W1.heap.size W1 W1.drew := (Below.refl _ _).drew
  have hM2 := hM1.trans (Mp.of hdr hR1.size.1)
  have hR2 := hR1.of hdr
  obtain ⟨xv, hxv⟩ : ∃ xv, pg s.p (en : Int) = xv := ⟨_, rfl⟩
  obtain ⟨hR3, hM3⟩ := hR2.place dn xv
  have hsm := HS.out.run.small
  refine py20_ok (gp := gp) (gb := gb1) (n := n) rfl rfl rfl rfl b2 b3 (hR1.pp (by rw [hlen]; exact he2) hxv) (hR1.pc (by rw [hlen]; exact hd2)) (hR1.pf dn) HE.out (by omega) (by omega) (by omega) ?_
  intro q
  simp [overlay, dstsOf, ops_py20_ok]
  go_wp2_with fail
  refine HGO.out _ _ { s with p := s.p.set dn xv } _ qn ?_ ⟨rfl, rfl, rfl, rfl, rfl, rfl, rfl, rfl, rfl, rfl, rfl⟩ (HS.out.move hR3 (hM2.trans hM3) HS.out.ans HS.out.asked (by simp; exact hlen) HS.out.sum)
  simp [one, free, act, pst, hxv, HE.out]
end Go.Proofs.Ytepmbkiojpffpaa
namespace Go.Proofs.Ytepmbkiojpffpaa
open Go Go.RowKit Ir

set_option maxHeartbeats 1000000 in
set_option maxRecDepth 100000 in
theorem body_3t {Q : Exit → Act → World → Prop} {a : Act} {w wr : World} {ub : Option Addr} {cb : Nat} {bs : List Blk} {r : Int} {n gi gr go gp : Nat} {ca : Option Addr} {cc : Nat} {ans : List Int} {s : St} {cv : Value} {tn kn qn : Nat} {i : Ins} (hA : ActP (.slice ub bs.length cb) (.int .i64 r) (P0 gi) (P0 gr) (.slice (some ⟨gp, 0, none⟩) n n) (P0 go) (.int .i64 (tn : Nat)) (.int .i64 (kn : Nat)) (.int .i64 (qn : Nat)) a) (hS : Stand w n gi gr go gp ca cc ans wr s cv qn) (hu : BlksV w (.slice ub bs.length cb) bs) (ht : tn < bs.length) (hk : kn < (bs.getD tn Blk.zero).ins.length) (hkl : (bs.getD tn Blk.zero).ins.length ≤ 1000) (hi : (bs.getD tn Blk.zero).ins.getD kn Ins.zero = i) (hok : OkI r n i) (hkind : i.k = 3) (h0 : s.left ≠ 0) (htr : i.op = 7 ∧ pg s.p i.b = 0)
    (hgo : ∀ (a' : Act) (W : World) (s' : St) (cv' : Value) (qn' : Nat), one r i s = .inl s' → ActP (.slice ub bs.length cb) (.int .i64 r) (P0 gi) (P0 gr) (.slice (some ⟨gp, 0, none⟩) n n) (P0 go) (.int .i64 (tn : Nat)) (.int .i64 (kn + 1 : Nat)) (.int .i64 (qn' : Nat)) a' → Stand w n gi gr go gp ca cc ans W s' cv' qn' → Q .normal a' W) (hret : ∀ (a' : Act) (W : World) (o : Out), one r i s = .inr o → FinP w gr a' W o → Q .ret a' W) : body14.wp Try.prog Q a wr := by
  obtain ⟨ρ, rfl⟩ := hA.lit
  obtain ⟨gb, off, ib, ioff, icap, ua, an, ac, rfl, hc0, hci, hua⟩ := next_ins hu hS.below ht hk
  rw [hi] at hci hua
  obtain ⟨k, op, d, x, b, nn, args⟩ := i
  obtain ⟨c0, c1, c2, c3, c4, c5, c6⟩ := hci
  simp only at c0 c1 c2 c3 c4 c5 c6 hua hkind
  subst hkind
  obtain ⟨dn, hd, hd2⟩ := nat_of (hok.d (by simp) (by simp))
  simp only at hd
  subst hd
  obtain ⟨an2, hx, hx2⟩ := nat_of (hok.a (by simp) (by simp) (by simp))
  simp only at hx
  subst hx
  obtain ⟨bn, hb, hb2⟩ := nat_of (hok.b (by simp))
  simp only at hb
  subst hb
  obtain ⟨il, hil⟩ : ∃ il, (bs.getD tn Blk.zero).ins.length = il := ⟨_, rfl⟩
  rw [hil] at hk hkl hc0
  have htl : (tn : Int) < (bs.length : Int) := by omega
  have hkl2 : (kn : Int) < (il : Int) := by omega
  have hkl3 : (kn : Int) < 1000 := by omega
  have HGO := hide hgo
  have HRET := hide hret
  have HS := hide hS
  have HUA := hide hua
  have hop := hok.op (by simp)
  simp only at hop
  have hBx := bel1' wr (.cells #[.int .u8 3, .int .u8 op, .int .i64 dn, .int .i64 an2, .int .i64 bn, .int .i64 nn, .slice ua an ac] 65)
  have hbox : (wr.alloc (.cells #[.int .u8 3, .int .u8 op, .int .i64 dn, .int .i64 an2, .int .i64 bn, .int .i64 nn, .slice ua an ac] 65)).heap[wr.heap.size]? = some (Obj.cells (rowI ⟨3, op, dn, an2, bn, nn, args⟩ (.slice ua an ac)) 65 (0, 0)) := heap_alloc_new wr _
  obtain ⟨b0, b1, b2, b3, b4, b5, b6⟩ := rowI_cells hbox
  simp only [Nat.zero_add] at b0 b1 b2 b3 b4 b5 b6
  have hR1 := hS.run.of hBx
  have hM1 : Mp w.heap.size go gp wr (wr.alloc (.cells #[.int .u8 3, .int .u8 op, .int .i64 dn, .int .i64 an2, .int .i64 bn, .int .i64 nn, .slice ua an ac] 65)) := Mp.of hBx hS.run.size.1
  have c67 := hR1.c67
  have f67 := hR1.fr 67
  obtain ⟨hRp, hMp⟩ := hR1.spend h0
  have hboxp := hMp.keeps _ _ _ _ rfl hbox
  obtain ⟨p0, p1, p2, p3, p4, p5, p6⟩ := rowI_cells hboxp
  simp only [Nat.zero_add] at p0 p1 p2 p3 p4 p5 p6
  have hl0 : 0 < (s.left : Int) := by omega
  have hl1 : (s.left : Int) ≤ 1048576 := by have := hS.sum; omega
  have hlz : ((s.left : Int) == 0) = false := by rw [beq_eq_false_iff_ne]; omega
  have hone : one r ⟨3, op, dn, an2, bn, nn, args⟩ s = act r ⟨3, op, dn, an2, bn, nn, args⟩ { s with left := s.left - 1 } := by rw [one_paid (by simp [free])]; unfold paid; rw [if_neg h0]; rfl
  have HONE := hide hone
  clear hone
  have HT0 := hide htr
  clear htr
  clear hgo hret hS hA hu hua hi hok hil hBx hbox hboxp h0
  unfold body14
  simp only [P0]
  go_wp2_with fail
  clear c0 c1 c2 c3 c4 c5 c6 hc0 b0 b1 b2 b3 b4 b5 b6 c67 f67
  generalize (wr.alloc (.cells #[.int .u8 3, .int .u8 op, .int .i64 dn, .int .i64 an2, .int .i64 bn, .int .i64 nn, .slice ua an ac] 65)).setCell ⟨go, 67, none⟩ (.int .i64 ((s.left : Int) - 1)) = W1 at *
  generalize wr.alloc (.cells #[.int .u8 3, .int .u8 op, .int .i64 dn, .int .i64 an2, .int .i64 bn, .int .i64 nn, .slice ua an ac] 65) = W0 at *
  generalize wr.heap.size = gb1 at *
  have hlen := HS.out.len
  have hdr : Below W1.heap.size W1 W1.drew := (Below.refl _ _).drew
  have hM2 := (hM1.trans hMp).trans (Mp.of hdr hRp.size.1)
  have hR2 := hRp.of hdr
  have htr := HT0.out
  clear HT0
  obtain ⟨xv, hxv⟩ : ∃ xv, pg s.p (an2 : Int) = xv := ⟨_, rfl⟩
  obtain ⟨yv, hyv⟩ : ∃ yv, pg s.p (bn : Int) = yv := ⟨_, rfl⟩
  simp only [hyv] at htr
  refine py29_ok (gp := gp) (gb := gb1) (n := n) rfl rfl rfl p3 p4 (hRp.pp (by simp only [hlen]; exact hx2) hxv) (hRp.pp (by simp only [hlen]; exact hb2) hyv) (by omega) (by omega) ?_
  intro q e19 e20
  simp [overlay, dstsOf, ops_py29_ok, e19, e20]
  have p1d : W1.drew.cell? ⟨gb1, 1, none⟩ = some (.int .u8 op) := p1
  have p2d : W1.drew.cell? ⟨gb1, 2, none⟩ = some (.int .i64 (dn : Nat)) := p2
  clear p0 p1 p2 p3 p4 p5 p6 e19 e20
  generalize W1.drew = W2 at *
  obtain ⟨rfl, rfl⟩ := htr
  have c00 := hR2.c0
  have f00 := hR2.fr 0
  obtain ⟨hRh, hMh⟩ := hR2.halt 2
  have hM9 := hM2.trans hMh
  obtain ⟨Z, hz, hzs⟩ := HS.out.res
  obtain ⟨OL, hOL, horow, hOLl, hOne⟩ := (hRh).out
  have hzW := (hM9).outs _ _ HS.out.ne.1 hz
  have HO := hide (And.intro horow (And.intro hOLl (And.intro hzW (And.intro hOne (And.intro hzs (And.intro (HS.out.below.trans (hM9).below) HS.out.ne.2))))))
  have HOL := hide hOL
  clear hz hzs hOL horow hOLl hzW hOne
  have HRH := hide hRh
  clear hRh hMh hM9 hR2 hM2 hM1 hMp hRp hR1 hdr
  go_wp2_with (first | (refine wpList_load_row rfl 37 (.tmp 13) rfl go rfl 37 OL.toArray (0, 0) _ HO.out.1 Try.underlying37 rfl (by simp only [List.size_toArray, HO.out.2.1]; exact size37) ?_) | (refine wpList_store_whole rfl 37 (.tmp 10) (.tmp 164) rfl gr 37 Z OL.toArray rfl rfl HO.out.2.2.1 (by simp only [List.size_toArray, HO.out.2.1]; exact size37) (by simp only [List.size_toArray, HO.out.2.1]; exact HO.out.2.2.2.2.1) HO.out.2.2.2.1 w.heap.size w HO.out.2.2.2.2.2.1 HO.out.2.2.2.2.2.2 ?_; intro W7 hrow7 hgr7 hbel7))
  refine HRET.out _ _ ⟨2, 0, s.calls, s.mem, s.left - 1⟩ ?_ (HS.out.done HRH.out HO.out.2.2.1 HOL.out hrow7.out hgr7.out hbel7.out rfl rfl)
  rw [HONE.out]
  simp [act, hyv]
set_option maxHeartbeats 1000000 in
set_option maxRecDepth 100000 in
theorem body_3 {Q : Exit → Act → World → Prop} {a : Act} {w wr : World} {ub : Option Addr} {cb : Nat} {bs : List Blk} {r : Int} {n gi gr go gp : Nat} {ca : Option Addr} {cc : Nat} {ans : List Int} {s : St} {cv : Value} {tn kn qn : Nat} {i : Ins} (hA : ActP (.slice ub bs.length cb) (.int .i64 r) (P0 gi) (P0 gr) (.slice (some ⟨gp, 0, none⟩) n n) (P0 go) (.int .i64 (tn : Nat)) (.int .i64 (kn : Nat)) (.int .i64 (qn : Nat)) a) (hS : Stand w n gi gr go gp ca cc ans wr s cv qn) (hu : BlksV w (.slice ub bs.length cb) bs) (ht : tn < bs.length) (hk : kn < (bs.getD tn Blk.zero).ins.length) (hkl : (bs.getD tn Blk.zero).ins.length ≤ 1000) (hi : (bs.getD tn Blk.zero).ins.getD kn Ins.zero = i) (hok : OkI r n i) (hkind : i.k = 3) (h0 : s.left ≠ 0) (htr : ¬ (i.op = 7 ∧ pg s.p i.b = 0))
    (hgo : ∀ (a' : Act) (W : World) (s' : St) (cv' : Value) (qn' : Nat), one r i s = .inl s' → ActP (.slice ub bs.length cb) (.int .i64 r) (P0 gi) (P0 gr) (.slice (some ⟨gp, 0, none⟩) n n) (P0 go) (.int .i64 (tn : Nat)) (.int .i64 (kn + 1 : Nat)) (.int .i64 (qn' : Nat)) a' → Stand w n gi gr go gp ca cc ans W s' cv' qn' → Q .normal a' W) (hret : ∀ (a' : Act) (W : World) (o : Out), one r i s = .inr o → FinP w gr a' W o → Q .ret a' W) : body14.wp Try.prog Q a wr := by
  obtain ⟨ρ, rfl⟩ := hA.lit
  obtain ⟨gb, off, ib, ioff, icap, ua, an, ac, rfl, hc0, hci, hua⟩ := next_ins hu hS.below ht hk
  rw [hi] at hci hua
  obtain ⟨k, op, d, x, b, nn, args⟩ := i
  obtain ⟨c0, c1, c2, c3, c4, c5, c6⟩ := hci
  simp only at c0 c1 c2 c3 c4 c5 c6 hua hkind
  subst hkind
  obtain ⟨dn, hd, hd2⟩ := nat_of (hok.d (by simp) (by simp))
  simp only at hd
  subst hd
  obtain ⟨an2, hx, hx2⟩ := nat_of (hok.a (by simp) (by simp) (by simp))
  simp only at hx
  subst hx
  obtain ⟨bn, hb, hb2⟩ := nat_of (hok.b (by simp))
  simp only at hb
  subst hb
  obtain ⟨il, hil⟩ : ∃ il, (bs.getD tn Blk.zero).ins.length = il := ⟨_, rfl⟩
  rw [hil] at hk hkl hc0
  have htl : (tn : Int) < (bs.length : Int) := by omega
  have hkl2 : (kn : Int) < (il : Int) := by omega
  have hkl3 : (kn : Int) < 1000 := by omega
  have HGO := hide hgo
  have HRET := hide hret
  have HS := hide hS
  have HUA := hide hua
  have hop := hok.op (by simp)
  simp only at hop
  have hBx := bel1' wr (.cells #[.int .u8 3, .int .u8 op, .int .i64 dn, .int .i64 an2, .int .i64 bn, .int .i64 nn, .slice ua an ac] 65)
  have hbox : (wr.alloc (.cells #[.int .u8 3, .int .u8 op, .int .i64 dn, .int .i64 an2, .int .i64 bn, .int .i64 nn, .slice ua an ac] 65)).heap[wr.heap.size]? = some (Obj.cells (rowI ⟨3, op, dn, an2, bn, nn, args⟩ (.slice ua an ac)) 65 (0, 0)) := heap_alloc_new wr _
  obtain ⟨b0, b1, b2, b3, b4, b5, b6⟩ := rowI_cells hbox
  simp only [Nat.zero_add] at b0 b1 b2 b3 b4 b5 b6
  have hR1 := hS.run.of hBx
  have hM1 : Mp w.heap.size go gp wr (wr.alloc (.cells #[.int .u8 3, .int .u8 op, .int .i64 dn, .int .i64 an2, .int .i64 bn, .int .i64 nn, .slice ua an ac] 65)) := Mp.of hBx hS.run.size.1
  have c67 := hR1.c67
  have f67 := hR1.fr 67
  obtain ⟨hRp, hMp⟩ := hR1.spend h0
  have hboxp := hMp.keeps _ _ _ _ rfl hbox
  obtain ⟨p0, p1, p2, p3, p4, p5, p6⟩ := rowI_cells hboxp
  simp only [Nat.zero_add] at p0 p1 p2 p3 p4 p5 p6
  have hl0 : 0 < (s.left : Int) := by omega
  have hl1 : (s.left : Int) ≤ 1048576 := by have := hS.sum; omega
  have hlz : ((s.left : Int) == 0) = false := by rw [beq_eq_false_iff_ne]; omega
  have hone : one r ⟨3, op, dn, an2, bn, nn, args⟩ s = act r ⟨3, op, dn, an2, bn, nn, args⟩ { s with left := s.left - 1 } := by rw [one_paid (by simp [free])]; unfold paid; rw [if_neg h0]; rfl
  have HONE := hide hone
  clear hone
  have HT0 := hide htr
  clear htr
  clear hgo hret hS hA hu hua hi hok hil hBx hbox hboxp h0
  unfold body14
  simp only [P0]
  go_wp2_with fail
  clear c0 c1 c2 c3 c4 c5 c6 hc0 b0 b1 b2 b3 b4 b5 b6 c67 f67
  generalize (wr.alloc (.cells #[.int .u8 3, .int .u8 op, .int .i64 dn, .int .i64 an2, .int .i64 bn, .int .i64 nn, .slice ua an ac] 65)).setCell ⟨go, 67, none⟩ (.int .i64 ((s.left : Int) - 1)) = W1 at *
  generalize wr.alloc (.cells #[.int .u8 3, .int .u8 op, .int .i64 dn, .int .i64 an2, .int .i64 bn, .int .i64 nn, .slice ua an ac] 65) = W0 at *
  generalize wr.heap.size = gb1 at *
  have hlen := HS.out.len
  have hdr : Below W1.heap.size W1 W1.drew := (Below.refl _ _).drew
  have hM2 := (hM1.trans hMp).trans (Mp.of hdr hRp.size.1)
  have hR2 := hRp.of hdr
  have htr := HT0.out
  clear HT0
  obtain ⟨xv, hxv⟩ : ∃ xv, pg s.p (an2 : Int) = xv := ⟨_, rfl⟩
  obtain ⟨yv, hyv⟩ : ∃ yv, pg s.p (bn : Int) = yv := ⟨_, rfl⟩
  simp only [hyv] at htr
  refine py29_ok (gp := gp) (gb := gb1) (n := n) rfl rfl rfl p3 p4 (hRp.pp (by simp only [hlen]; exact hx2) hxv) (hRp.pp (by simp only [hlen]; exact hb2) hyv) (by omega) (by omega) ?_
  intro q e19 e20
  simp [overlay, dstsOf, ops_py29_ok, e19, e20]
  have p1d : W1.drew.cell? ⟨gb1, 1, none⟩ = some (.int .u8 op) := p1
  have p2d : W1.drew.cell? ⟨gb1, 2, none⟩ = some (.int .i64 (dn : Nat)) := p2
  clear p0 p1 p2 p3 p4 p5 p6 e19 e20
  generalize W1.drew = W2 at *
  have hdr2 : Below W2.heap.size W2 W2.drew := (Below.refl _ _).drew
  obtain ⟨hR4, hM4⟩ := (hR2.of hdr2).place dn (bnd op xv yv)
  have HTR := hide htr
  have HTR2 : Hid (op = 7 → yv ≠ 0) := fun e1 e2 => htr ⟨e1, e2⟩
  by_cases h7 : op = 7
  · have hy0 : (yv == 0) = false := by rw [beq_eq_false_iff_ne]; exact HTR2.out h7
    have HY := hide (HTR2.out h7)
    subst h7
    clear htr HTR2
    go_wp2_with fail
    refine py33_ok (gp := gp) (gb := gb1) (n := n) (op := 7) (x := xv) (y := yv) rfl rfl rfl rfl rfl p1d p2d (hR2.pc (by simp only [hlen]; exact hd2)) (hR2.pf dn) (by omega) hop (fun _ => HY.out) ?_
    intro q2
    simp [overlay, dstsOf, ops_py33_ok]
    go_wp2_with fail
    refine HGO.out _ _ { s with p := s.p.set dn (bnd 7 xv yv), left := s.left - 1 } _ qn ?_ ⟨rfl, rfl, rfl, rfl, rfl, rfl, rfl, rfl, rfl, rfl, rfl⟩ (HS.out.move hR4 ((hM2.trans (Mp.of hdr2 hR2.size.1)).trans hM4) HS.out.ans HS.out.asked (by simp; exact HS.out.len) (by have := HS.out.sum; simp only; omega))
    rw [HONE.out]
    simp [act, pst, hxv, hyv, HTR.out]
  · have h7b : (op == 7) = false := by rw [beq_eq_false_iff_ne]; exact h7
    clear htr h7
    go_wp2_with fail
    refine py33_ok (gp := gp) (gb := gb1) (n := n) (op := op) (x := xv) (y := yv) rfl rfl rfl rfl rfl p1d p2d (hR2.pc (by simp only [hlen]; exact hd2)) (hR2.pf dn) (by omega) hop HTR2.out ?_
    intro q2
    simp [overlay, dstsOf, ops_py33_ok]
    go_wp2_with fail
    refine HGO.out _ _ { s with p := s.p.set dn (bnd op xv yv), left := s.left - 1 } _ qn ?_ ⟨rfl, rfl, rfl, rfl, rfl, rfl, rfl, rfl, rfl, rfl, rfl⟩ (HS.out.move hR4 ((hM2.trans (Mp.of hdr2 hR2.size.1)).trans hM4) HS.out.ans HS.out.asked (by simp; exact HS.out.len) (by have := HS.out.sum; simp only; omega))
    rw [HONE.out]
    simp [act, pst, hxv, hyv, HTR.out]
end Go.Proofs.Ytepmbkiojpffpaa
namespace Go.Proofs.Ytepmbkiojpffpaa
open Go Go.RowKit Ir

set_option maxHeartbeats 1000000 in
set_option maxRecDepth 100000 in
theorem body_4 {Q : Exit → Act → World → Prop} {a : Act} {w wr : World} {ub : Option Addr} {cb : Nat} {bs : List Blk} {r : Int} {n gi gr go gp : Nat} {ca : Option Addr} {cc : Nat} {ans : List Int} {s : St} {cv : Value} {tn kn qn : Nat} {i : Ins} (hA : ActP (.slice ub bs.length cb) (.int .i64 r) (P0 gi) (P0 gr) (.slice (some ⟨gp, 0, none⟩) n n) (P0 go) (.int .i64 (tn : Nat)) (.int .i64 (kn : Nat)) (.int .i64 (qn : Nat)) a) (hS : Stand w n gi gr go gp ca cc ans wr s cv qn) (hu : BlksV w (.slice ub bs.length cb) bs) (ht : tn < bs.length) (hk : kn < (bs.getD tn Blk.zero).ins.length) (hkl : (bs.getD tn Blk.zero).ins.length ≤ 1000) (hi : (bs.getD tn Blk.zero).ins.getD kn Ins.zero = i) (hok : OkI r n i) (hkind : i.k = 4) (h0 : s.left ≠ 0)
    (hgo : ∀ (a' : Act) (W : World) (s' : St) (cv' : Value) (qn' : Nat), one r i s = .inl s' → ActP (.slice ub bs.length cb) (.int .i64 r) (P0 gi) (P0 gr) (.slice (some ⟨gp, 0, none⟩) n n) (P0 go) (.int .i64 (tn : Nat)) (.int .i64 (kn + 1 : Nat)) (.int .i64 (qn' : Nat)) a' → Stand w n gi gr go gp ca cc ans W s' cv' qn' → Q .normal a' W) (hret : ∀ (a' : Act) (W : World) (o : Out), one r i s = .inr o → FinP w gr a' W o → Q .ret a' W) : body14.wp Try.prog Q a wr := by
  obtain ⟨ρ, rfl⟩ := hA.lit
  obtain ⟨gb, off, ib, ioff, icap, ua, an, ac, rfl, hc0, hci, hua⟩ := next_ins hu hS.below ht hk
  rw [hi] at hci hua
  obtain ⟨k, op, d, x, b, nn, args⟩ := i
  obtain ⟨c0, c1, c2, c3, c4, c5, c6⟩ := hci
  simp only at c0 c1 c2 c3 c4 c5 c6 hua hkind
  subst hkind
  obtain ⟨dn, hd, hd2⟩ := nat_of (hok.d (by simp) (by simp))
  simp only at hd
  subst hd
  obtain ⟨an2, hx, hx2⟩ := nat_of (hok.a (by simp) (by simp) (by simp))
  simp only at hx
  subst hx
  obtain ⟨il, hil⟩ : ∃ il, (bs.getD tn Blk.zero).ins.length = il := ⟨_, rfl⟩
  rw [hil] at hk hkl hc0
  have htl : (tn : Int) < (bs.length : Int) := by omega
  have hkl2 : (kn : Int) < (il : Int) := by omega
  have hkl3 : (kn : Int) < 1000 := by omega
  have HGO := hide hgo
  have HRET := hide hret
  have HS := hide hS
  have HUA := hide hua
  have hBx := bel1' wr (.cells #[.int .u8 4, .int .u8 op, .int .i64 dn, .int .i64 an2, .int .i64 b, .int .i64 nn, .slice ua an ac] 65)
  have hbox : (wr.alloc (.cells #[.int .u8 4, .int .u8 op, .int .i64 dn, .int .i64 an2, .int .i64 b, .int .i64 nn, .slice ua an ac] 65)).heap[wr.heap.size]? = some (Obj.cells (rowI ⟨4, op, dn, an2, b, nn, args⟩ (.slice ua an ac)) 65 (0, 0)) := heap_alloc_new wr _
  obtain ⟨b0, b1, b2, b3, b4, b5, b6⟩ := rowI_cells hbox
  simp only [Nat.zero_add] at b0 b1 b2 b3 b4 b5 b6
  have hR1 := hS.run.of hBx
  have hM1 : Mp w.heap.size go gp wr (wr.alloc (.cells #[.int .u8 4, .int .u8 op, .int .i64 dn, .int .i64 an2, .int .i64 b, .int .i64 nn, .slice ua an ac] 65)) := Mp.of hBx hS.run.size.1
  have c67 := hR1.c67
  have f67 := hR1.fr 67
  obtain ⟨hRp, hMp⟩ := hR1.spend h0
  have hboxp := hMp.keeps _ _ _ _ rfl hbox
  obtain ⟨p0, p1, p2, p3, p4, p5, p6⟩ := rowI_cells hboxp
  simp only [Nat.zero_add] at p0 p1 p2 p3 p4 p5 p6
  have hl0 : 0 < (s.left : Int) := by omega
  have hl1 : (s.left : Int) ≤ 1048576 := by have := hS.sum; omega
  have hlz : ((s.left : Int) == 0) = false := by rw [beq_eq_false_iff_ne]; omega
  have hone : one r ⟨4, op, dn, an2, b, nn, args⟩ s = act r ⟨4, op, dn, an2, b, nn, args⟩ { s with left := s.left - 1 } := by rw [one_paid (by simp [free])]; unfold paid; rw [if_neg h0]; rfl
  have HONE := hide hone
  clear hone
  clear hgo hret hS hA hu hua hi hok hil hBx hbox hboxp h0
  unfold body14
  simp only [P0]
  go_wp2_with fail
  clear c0 c1 c2 c3 c4 c5 c6 hc0 b0 b1 b2 b3 b4 b5 b6 c67 f67
  generalize (wr.alloc (.cells #[.int .u8 4, .int .u8 op, .int .i64 dn, .int .i64 an2, .int .i64 b, .int .i64 nn, .slice ua an ac] 65)).setCell ⟨go, 67, none⟩ (.int .i64 ((s.left : Int) - 1)) = W1 at *
  generalize wr.alloc (.cells #[.int .u8 4, .int .u8 op, .int .i64 dn, .int .i64 an2, .int .i64 b, .int .i64 nn, .slice ua an ac] 65) = W0 at *
  generalize wr.heap.size = gb1 at *
  have hlen := HS.out.len
  have hdr : Below W1.heap.size W1 W1.drew := (Below.refl _ _).drew
  have hM2 := (hM1.trans hMp).trans (Mp.of hdr hRp.size.1)
  have hR2 := hRp.of hdr
  obtain ⟨xv, hxv⟩ : ∃ xv, pg s.p (an2 : Int) = xv := ⟨_, rfl⟩
  have hwl := wd_lt xv
  obtain ⟨zv, hzv⟩ : ∃ zv, s.mem.getD (wd xv) 0 = zv := ⟨_, rfl⟩
  have hcm := hRp.cm hwl
  simp only [hzv] at hcm
  obtain ⟨hR3, hM3⟩ := hR2.place dn zv
  refine py35_ok (go := go) (gp := gp) (gb := gb1) (n := n) (j := wd xv) rfl rfl rfl rfl p2 p3 (hRp.pp (by simp only [hlen]; exact hx2) hxv) (hRp.pc (by simp only [hlen]; exact hd2)) hcm (hRp.pf dn) (by omega) (by omega) (fun W => by go_simp) (wrapmod xv) (by omega) ?_
  intro q
  simp [overlay, dstsOf, ops_py35_ok]
  go_wp2_with fail
  refine HGO.out _ _ { s with p := s.p.set dn zv, left := s.left - 1 } _ qn ?_ ⟨rfl, rfl, rfl, rfl, rfl, rfl, rfl, rfl, rfl, rfl, rfl⟩ (HS.out.move hR3 (hM2.trans hM3) HS.out.ans HS.out.asked (by simp; exact HS.out.len) (by have := HS.out.sum; simp only; omega))
  rw [HONE.out]
  simp [act, pst, hxv, ← hzv]
set_option maxHeartbeats 1000000 in
set_option maxRecDepth 100000 in
theorem body_5 {Q : Exit → Act → World → Prop} {a : Act} {w wr : World} {ub : Option Addr} {cb : Nat} {bs : List Blk} {r : Int} {n gi gr go gp : Nat} {ca : Option Addr} {cc : Nat} {ans : List Int} {s : St} {cv : Value} {tn kn qn : Nat} {i : Ins} (hA : ActP (.slice ub bs.length cb) (.int .i64 r) (P0 gi) (P0 gr) (.slice (some ⟨gp, 0, none⟩) n n) (P0 go) (.int .i64 (tn : Nat)) (.int .i64 (kn : Nat)) (.int .i64 (qn : Nat)) a) (hS : Stand w n gi gr go gp ca cc ans wr s cv qn) (hu : BlksV w (.slice ub bs.length cb) bs) (ht : tn < bs.length) (hk : kn < (bs.getD tn Blk.zero).ins.length) (hkl : (bs.getD tn Blk.zero).ins.length ≤ 1000) (hi : (bs.getD tn Blk.zero).ins.getD kn Ins.zero = i) (hok : OkI r n i) (hkind : i.k = 5) (h0 : s.left ≠ 0)
    (hgo : ∀ (a' : Act) (W : World) (s' : St) (cv' : Value) (qn' : Nat), one r i s = .inl s' → ActP (.slice ub bs.length cb) (.int .i64 r) (P0 gi) (P0 gr) (.slice (some ⟨gp, 0, none⟩) n n) (P0 go) (.int .i64 (tn : Nat)) (.int .i64 (kn + 1 : Nat)) (.int .i64 (qn' : Nat)) a' → Stand w n gi gr go gp ca cc ans W s' cv' qn' → Q .normal a' W) (hret : ∀ (a' : Act) (W : World) (o : Out), one r i s = .inr o → FinP w gr a' W o → Q .ret a' W) : body14.wp Try.prog Q a wr := by
  obtain ⟨ρ, rfl⟩ := hA.lit
  obtain ⟨gb, off, ib, ioff, icap, ua, an, ac, rfl, hc0, hci, hua⟩ := next_ins hu hS.below ht hk
  rw [hi] at hci hua
  obtain ⟨k, op, d, x, b, nn, args⟩ := i
  obtain ⟨c0, c1, c2, c3, c4, c5, c6⟩ := hci
  simp only at c0 c1 c2 c3 c4 c5 c6 hua hkind
  subst hkind
  obtain ⟨an2, hx, hx2⟩ := nat_of (hok.a (by simp) (by simp) (by simp))
  simp only at hx
  subst hx
  obtain ⟨bn, hb, hb2⟩ := nat_of (hok.b (by simp))
  simp only at hb
  subst hb
  obtain ⟨il, hil⟩ : ∃ il, (bs.getD tn Blk.zero).ins.length = il := ⟨_, rfl⟩
  rw [hil] at hk hkl hc0
  have htl : (tn : Int) < (bs.length : Int) := by omega
  have hkl2 : (kn : Int) < (il : Int) := by omega
  have hkl3 : (kn : Int) < 1000 := by omega
  have HGO := hide hgo
  have HRET := hide hret
  have HS := hide hS
  have HUA := hide hua
  have hBx := bel1' wr (.cells #[.int .u8 5, .int .u8 op, .int .i64 d, .int .i64 an2, .int .i64 bn, .int .i64 nn, .slice ua an ac] 65)
  have hbox : (wr.alloc (.cells #[.int .u8 5, .int .u8 op, .int .i64 d, .int .i64 an2, .int .i64 bn, .int .i64 nn, .slice ua an ac] 65)).heap[wr.heap.size]? = some (Obj.cells (rowI ⟨5, op, d, an2, bn, nn, args⟩ (.slice ua an ac)) 65 (0, 0)) := heap_alloc_new wr _
  obtain ⟨b0, b1, b2, b3, b4, b5, b6⟩ := rowI_cells hbox
  simp only [Nat.zero_add] at b0 b1 b2 b3 b4 b5 b6
  have hR1 := hS.run.of hBx
  have hM1 : Mp w.heap.size go gp wr (wr.alloc (.cells #[.int .u8 5, .int .u8 op, .int .i64 d, .int .i64 an2, .int .i64 bn, .int .i64 nn, .slice ua an ac] 65)) := Mp.of hBx hS.run.size.1
  have c67 := hR1.c67
  have f67 := hR1.fr 67
  obtain ⟨hRp, hMp⟩ := hR1.spend h0
  have hboxp := hMp.keeps _ _ _ _ rfl hbox
  obtain ⟨p0, p1, p2, p3, p4, p5, p6⟩ := rowI_cells hboxp
  simp only [Nat.zero_add] at p0 p1 p2 p3 p4 p5 p6
  have hl0 : 0 < (s.left : Int) := by omega
  have hl1 : (s.left : Int) ≤ 1048576 := by have := hS.sum; omega
  have hlz : ((s.left : Int) == 0) = false := by rw [beq_eq_false_iff_ne]; omega
  have hone : one r ⟨5, op, d, an2, bn, nn, args⟩ s = act r ⟨5, op, d, an2, bn, nn, args⟩ { s with left := s.left - 1 } := by rw [one_paid (by simp [free])]; unfold paid; rw [if_neg h0]; rfl
  have HONE := hide hone
  clear hone
  clear hgo hret hS hA hu hua hi hok hil hBx hbox hboxp h0
  unfold body14
  simp only [P0]
  go_wp2_with fail
  clear c0 c1 c2 c3 c4 c5 c6 hc0 b0 b1 b2 b3 b4 b5 b6 c67 f67
  generalize (wr.alloc (.cells #[.int .u8 5, .int .u8 op, .int .i64 d, .int .i64 an2, .int .i64 bn, .int .i64 nn, .slice ua an ac] 65)).setCell ⟨go, 67, none⟩ (.int .i64 ((s.left : Int) - 1)) = W1 at *
  generalize wr.alloc (.cells #[.int .u8 5, .int .u8 op, .int .i64 d, .int .i64 an2, .int .i64 bn, .int .i64 nn, .slice ua an ac] 65) = W0 at *
  generalize wr.heap.size = gb1 at *
  have hlen := HS.out.len
  have hdr : Below W1.heap.size W1 W1.drew := (Below.refl _ _).drew
  have hM2 := (hM1.trans hMp).trans (Mp.of hdr hRp.size.1)
  have hR2 := hRp.of hdr
  obtain ⟨xv, hxv⟩ : ∃ xv, pg s.p (an2 : Int) = xv := ⟨_, rfl⟩
  obtain ⟨zv, hzv⟩ : ∃ zv, pg s.p (bn : Int) = zv := ⟨_, rfl⟩
  have hwl := wd_lt xv
  have hmem := hR2.mem
  obtain ⟨hR3, hM3⟩ := hR2.put (j := 3 + wd xv) (u := .int .i64 zv) (how' := 0) (val' := 0) (mem' := s.mem.set (wd xv) zv) (left' := s.left - 1) (by simpa using hmem) (outL_set_mem (by rw [hmem]; exact hwl) _)
  refine py37_ok (go := go) (gp := gp) (gb := gb1) (n := n) (j := wd xv) rfl rfl rfl rfl p3 p4 (hRp.pp (by simp only [hlen]; exact hx2) hxv) (hRp.pp (by simp only [hlen]; exact hb2) hzv) (hRp.cm hwl) (hRp.fr _) (by omega) (by omega) (fun W => by go_simp) (wrapmod xv) (by omega) ?_
  intro q
  simp [overlay, dstsOf, ops_py37_ok]
  go_wp2_with fail
  refine HGO.out _ _ { s with mem := s.mem.set (wd xv) zv, left := s.left - 1 } _ qn ?_ ⟨rfl, rfl, rfl, rfl, rfl, rfl, rfl, rfl, rfl, rfl, rfl⟩ (HS.out.move hR3 (hM2.trans hM3) HS.out.ans HS.out.asked HS.out.len (by have := HS.out.sum; simp only; omega))
  rw [HONE.out]
  simp [act, hxv, hzv]
end Go.Proofs.Ytepmbkiojpffpaa
