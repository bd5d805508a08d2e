/- A run's bin: a KBin is done, or traps. -/
import Derived.Test.YtepmbkiojpffpaaRg
namespace Go.Proofs.Ytepmbkiojpffpaa
open Go.RowKit Ir

/-- A number that is not below 0. -/
theorem nat_of {x : Int} {n : Nat} (h : 0 ≤ x ∧ x < (n : Int)) : ∃ k : Nat, x = (k : Int) ∧ k < n := ⟨x.toNat, by omega, by omega⟩
/-- An instruction's box. -/
def bxI (i : Ins) (u : Value) : Obj := .cells #[.int .u8 i.k, .int .u8 i.op, .int .i64 i.d, .int .i64 i.a, .int .i64 i.b, .int .i64 i.n, u] 65
theorem bxI_cells (w : World) (i : Ins) (u : Value) : InsCells (w.alloc (bxI i u)) w.heap.size 0 i u := by
  unfold bxI
  refine ⟨?_, ?_, ?_, ?_, ?_, ?_, ?_⟩
  all_goals (rw [cell_of_row _ _ _ _ _ _ (heap_alloc_new w _)]; rfl)

set_option maxHeartbeats 1000000 in
set_option maxRecDepth 100000 in
theorem bin_any (B g gp : Nat) (r : Int) (w : World) (s : St) (cv av : Value) (i : Ins) (u : Value) (h : RunAt B g gp r w 0 0 s cv av) (hk : i.k = 3) (hi : OkI r s.p.length i) :
    Calls Try.prog 56 #[.pointer (some ⟨g, 0, none⟩), insV i u] w fun e w' => (∃ v, e = .returned v) ∧ Came B g gp r w' (act r i s) ∧ Mv B gp w w' := by
  obtain ⟨k, op, d, a, b, nn, args⟩ := i
  simp only at hk
  subst hk
  have hop := hi.op rfl
  obtain ⟨dn, hd, hd2⟩ := nat_of (hi.d (by simp) (by simp))
  obtain ⟨an, ha, ha2⟩ := nat_of (hi.a (by simp) (by simp) (by simp))
  obtain ⟨bn, hb, hb2⟩ := nat_of (hi.b (by simp))
  simp only at hd ha hb hop
  subst hd ha hb
  have hBx := bel1' w (bxI ⟨3, op, dn, an, bn, nn, args⟩ u)
  have hR1 := h.of hBx
  obtain ⟨b0, b1, b2, b3, b4, b5, b6⟩ := bxI_cells w ⟨3, op, dn, an, bn, nn, args⟩ u
  simp only [bxI, Nat.zero_add] at b0 b1 b2 b3 b4 b5 b6 hR1 hBx
  have hM1 : Mv B gp w _ := Mv.of hBx h.size.1
  have HR := hide hR1
  have HM := hide hM1
  have hdl : (dn : Int) < (s.p.length : Int) := by omega
  have hal : (an : Int) < (s.p.length : Int) := by omega
  have hbl : (bn : Int) < (s.p.length : Int) := by omega
  have HB := hide (And.intro b1 (And.intro b2 (And.intro b3 b4)))
  unfold insV
  clear h hR1 hM1 hBx hi b0 b1 b2 b3 b4 b5 b6
  go_enter Try.func56, Try.ntmps56
  go_wp2_with fail
  generalize w.alloc (.cells #[.int .u8 3, .int .u8 op, .int .i64 dn, .int .i64 an, .int .i64 bn, .int .i64 nn, u] 65) = W1 at *
  generalize w.heap.size = gb at *
  obtain ⟨xa, hxa⟩ : ∃ xa, pg s.p (an : Int) = xa := ⟨_, rfl⟩
  obtain ⟨xb, hxb⟩ : ∃ xb, pg s.p (bn : Int) = xb := ⟨_, rfl⟩
  refine bn1_ok (g := g) (gp := gp) (n := s.p.length) (x := xa) (y := xb) rfl rfl rfl HB.out.1 HB.out.2.2.1 HB.out.2.2.2 HR.out.c69 (HR.out.pp ha2 hxa) (HR.out.pp hb2 hxb) hal hbl hop ?_
  intro q h4 h5
  simp [overlay, dstsOf, ops_bn1_ok, h4, h5]
  have hdr : Below W1.heap.size W1 W1.drew := (Below.refl _ _).drew
  have hR2 := HR.out.of hdr
  have hM2 : Mv B gp w W1.drew := HM.out.trans (Mv.of hdr HR.out.size.1)
  have b2 : W1.drew.cell? ⟨gb, 2, none⟩ = some (.int .i64 dn) := HB.out.2.1
  generalize hW2 : W1.drew = W2 at *
  clear HR HM hdr hW2 HB h4 h5
  have HR := hide hR2
  have HM := hide hM2
  clear hR2 hM2
  by_cases ht : op = 7 ∧ xb = 0
  · have hrk : rsk op xb = false := by unfold rsk; rw [decide_eq_true ht]; rfl
    have hE : Hid (act r ⟨3, op, dn, an, bn, nn, args⟩ s = .inr ⟨2, 0, s.calls, s.mem, s.left⟩) := by
      show _ = _
      simp only [act, hxb]
      simp [ht]
    obtain ⟨hR3, hM3⟩ := HR.out.put (j := 0) (u := .int .i64 2) (how' := 2) (val' := 0) (mem' := s.mem) (left' := s.left) HR.out.calls HR.out.ans HR.out.mem (rowL_set0 2)
    have HR3 := hide hR3
    have HM3 := hide (HM.out.trans hM3)
    have c0 := HR.out.c0
    have f0 := HR.out.fr 0
    clear hR3 hM3 HR HM
    rw [hrk]
    go_wp2_with fail
    refine bodyPost_ret (results_none rfl _ _ _) rfl ?_
    refine ⟨⟨_, rfl⟩, ?_, HM3.out⟩
    rw [hE.out]
    exact ⟨_, _, _, HR3.out, rfl, rfl, rfl⟩
  · have hrk : rsk op xb = true := by unfold rsk; rw [decide_eq_false ht]; rfl
    have hrv : rsv op xa xb = bnd op xa xb := by unfold rsv; rw [if_neg ht]
    have hE : Hid (act r ⟨3, op, dn, an, bn, nn, args⟩ s = .inl { s with p := s.p.set dn (bnd op xa xb) }) := by
      show _ = _
      simp only [act, hxa, hxb]
      simp [ht, pst]
    obtain ⟨hR3, hM3⟩ := (HR.out.of (Below.refl _ _).drew).place dn (bnd op xa xb)
    have HR3 := hide hR3
    have HM3 := hide ((HM.out.trans (Mv.of (Below.refl _ _).drew HR.out.size.1)).trans hM3)
    clear hR3 hM3 HM
    rw [hrk, hrv]
    go_wp2_with fail
    refine bn4_ok (g := g) (gp := gp) (n := s.p.length) rfl rfl rfl rfl b2 HR.out.c69 (HR.out.pc hd2) (HR.out.pf dn) hdl ?_
    intro q
    simp [overlay, dstsOf, ops_bn4_ok]
    go_wp2_with fail
    go_end0
    refine ⟨⟨_, rfl⟩, ?_, HM3.out⟩
    rw [hE.out]
    exact ⟨_, _, HR3.out⟩
end Go.Proofs.Ytepmbkiojpffpaa
