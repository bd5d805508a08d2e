/- ir.insFault: an instruction's fault. -/
import Derived.Test.YtepmbkiojpffpaaEnds
import Derived.Test.YtepmbkiojpffpaaInts
import Derived.Test.YtepmbkiojpffpaaFormed
namespace Go.Proofs.Ytepmbkiojpffpaa
open Go.RowKit Ir

/-- An instruction in a box of the call's own, in a later world. -/
theorem boxI {w w1 : World} {i : Ins} {u : Value} (hB : Below (w.alloc (.cells #[.int .u8 i.k, .int .u8 i.op, .int .i64 i.d, .int .i64 i.a, .int .i64 i.b, .int .i64 i.n, u] 65)).heap.size (w.alloc (.cells #[.int .u8 i.k, .int .u8 i.op, .int .i64 i.d, .int .i64 i.a, .int .i64 i.b, .int .i64 i.n, u] 65)) w1) : InsCells w1 w.heap.size 0 i u :=
  ⟨box_cell hB 0 rfl, box_cell hB 1 rfl, box_cell hB 2 rfl, box_cell hB 3 rfl, box_cell hB 4 rfl, box_cell hB 5 rfl, box_cell hB 6 rfl⟩
/-- The same, its cells one by one. -/
theorem InsCells.zero {w : World} {b : Nat} {i : Ins} {u : Value} (h : InsCells w b 0 i u) : w.cell? ⟨b, 0, none⟩ = some (.int .u8 i.k) ∧ w.cell? ⟨b, 1, none⟩ = some (.int .u8 i.op) ∧ w.cell? ⟨b, 2, none⟩ = some (.int .i64 i.d) ∧ w.cell? ⟨b, 3, none⟩ = some (.int .i64 i.a) ∧ w.cell? ⟨b, 4, none⟩ = some (.int .i64 i.b) ∧ w.cell? ⟨b, 5, none⟩ = some (.int .i64 i.n) ∧ w.cell? ⟨b, 6, none⟩ = some u :=
  ⟨h.c0, h.c1, h.c2, h.c3, h.c4, h.c5, h.c6⟩
theorem uses_len {i : Ins} (h : i.args.length ≤ 3) : (uses i).length ≤ 3 := by
  unfold uses
  (repeat' split) <;> first | exact h | simp

set_option maxHeartbeats 1000000 in
set_option maxRecDepth 100000 in
theorem insFault_any (i : Ins) (u : Value) (v : Int) (w : World) (hu : IntsV w u i.args) : Calls Try.prog 49 #[insV i u, .int .i64 v] w fun e w' => e = .returned (.int .i64 (inF i v)) ∧ Below w.heap.size w w' := by
  obtain ⟨ua, ca, rfl⟩ := hu.slice
  have hB0 := bel1 w (.cells #[.int .u8 i.k, .int .u8 i.op, .int .i64 i.d, .int .i64 i.a, .int .i64 i.b, .int .i64 i.n, .slice ua i.args.length ca] 65)
  have hu0 := hu.below hB0
  have hF := hide (formed_any i _ _ hu0)
  have HU := hide hu0
  clear hu hu0
  unfold insV at hF ⊢
  go_enter Try.func49, Try.ntmps49
  go_wp2_with fail
  refine hF.out.mono ?_
  rintro r w1 ⟨rfl, hB1⟩
  have I1 := hide (boxI hB1)
  obtain ⟨c0, c1, c2, c3, c4, c5, c6⟩ := I1.out.zero
  have hBw1 := bel_of hB0 hB1
  have HU1 := hide (HU.out.below hB1)
  clear hF hB1 hB0 HU
  cases hf : formed i with
  | false =>
    have he : Hid (inF i v = 20) := by show _ = _; unfold inF; rw [if_pos hf]
    go_wp2_with fail
    go_ret
    exact ⟨by rw [he.out]; rfl, hBw1⟩
  | true =>
    by_cases h3 : 3 < i.args.length
    · have he : Hid (inF i v = 25) := by show _ = _; unfold inF; rw [if_neg (by simp [hf]), if_pos h3]
      have h3' : (3 : Int) < (i.args.length : Int) := by omega
      go_wp2_with fail
      go_ret
      exact ⟨by rw [he.out]; rfl, hBw1⟩
    · have he : Hid (inF i v = if (named i).all (inr · v) then 0 else 21) := by show _ = _; unfold inF; rw [if_neg (by simp [hf]), if_neg h3]
      have h3' : (i.args.length : Int) ≤ 3 := by omega
      have hlen := uses_len (i := i) (by omega)
      have hUs := hide (uses_any i _ w1 HU1.out (by omega))
      unfold insV at hUs
      clear hf h3
      go_wp2_with fail
      refine hUs.out.mono ?_
      rintro r w2 ⟨u2, rfl, hO, hB2⟩
      have I2 := hide (I1.out.below hB2)
      have hv2 := hide hO.v
      obtain ⟨a2, cc2, rfl⟩ := hv2.out.slice
      have HU2 := hide (HU1.out.below hB2)
      have hG := hide (gives_any i _ w2 HU2.out)
      unfold insV at hG
      have hBw2 := bel_of hBw1 hB2
      obtain ⟨d0, d1, d2, d3, d4, d5, d6⟩ := I2.out.zero
      have hnm : Hid ((named i).all (inr · v) = ((uses i).all (inr · v) && (!(gives i.k) || inr i.d v))) := by
        show _ = _
        unfold named
        rw [List.all_append]
        cases gives i.k <;> simp
      generalize uses i = us at *
      clear hUs I1 c0 c1 c2 c3 c4 c5 c6 hO hB2 HU1 hBw1
      go_wp2_with fail
      go_loop [6, 19] (fun _ iv => ∃ j : Nat, j ≤ us.length ∧ iv = .int .i64 j ∧ Hid (us.all (inr · v) = (us.drop j).all (inr · v))) (fun _ iv => us.length - (intOf iv).toNat)
      case atStart => exact ⟨0, by omega, rfl, rfl⟩
      case round =>
        obtain ⟨j, hj, rfl, hall⟩ := hrel
        by_cases hlt : j < us.length
        · obtain ⟨b, off, rfl, hc⟩ := hv2.out.at j hlt
          have hdr := hide (drop_getD hlt)
          generalize us.getD j 0 = x at *
          have hbl := hide (below_any x v w2)
          cases hx : inr x v with
          | true =>
            have hall2 : Hid (us.all (inr · v) = (us.drop (j + 1)).all (inr · v)) := by
              show _ = _
              rw [hall.out, hdr.out, List.all_cons, hx, Bool.true_and]
            clear hall hdr
            go_wp2_with fail
            refine hbl.out.mono ?_
            rintro r w5 ⟨rfl, rfl⟩
            rw [hx]
            go_wp2_with fail
            go_round
            case rel => exact ⟨j + 1, by omega, by go_num, hall2⟩
            case measure => simp [intOf]; omega
          | false =>
            have hall2 : Hid (us.all (inr · v) = false) := by
              show _ = _
              rw [hall.out, hdr.out, List.all_cons, hx, Bool.false_and]
            clear hall hdr
            go_wp2_with fail
            refine hbl.out.mono ?_
            rintro r w5 ⟨rfl, rfl⟩
            rw [hx]
            go_wp2_with fail
            go_ret
            exact ⟨by rw [he.out, hnm.out, hall2.out]; rfl, hBw2⟩
        · obtain rfl : j = us.length := by omega
          have hall2 : Hid (us.all (inr · v) = true) := by
            show _ = _
            rw [hall.out]
            simp
          clear hall
          go_wp2_with fail
          refine hG.out.mono ?_
          rintro r w3 ⟨rfl, hB3⟩
          have hBw3 := bel_of hBw2 hB3
          have hgv : Hid (gv i = if gives i.k = true then i.d else 0) := rfl
          have hbl := hide (below_any (gv i) v w3)
          clear hG hB3 d0 d1 d2 d3 d4 d5 d6 I2 HU2 hv2
          cases hg : gives i.k with
          | true =>
            have hgd : gv i = i.d := by rw [hgv.out, if_pos hg]
            cases hx : inr (gv i) v with
            | true =>
              have hr : Hid (inF i v = 0) := by
                show _ = _
                rw [hgd] at hx
                rw [he.out, hnm.out, hall2.out, hx]
                simp
              clear hgd he hnm hall2 hgv
              go_wp2_with fail
              refine hbl.out.mono ?_
              rintro r w5 ⟨rfl, rfl⟩
              rw [hx]
              go_wp2_with fail
              go_ret
              exact ⟨by rw [hr.out]; rfl, hBw3⟩
            | false =>
              have hr : Hid (inF i v = 21) := by
                show _ = _
                rw [hgd] at hx
                rw [he.out, hnm.out, hall2.out, hx, hg]
                simp
              clear hgd he hnm hall2 hgv
              go_wp2_with fail
              refine hbl.out.mono ?_
              rintro r w5 ⟨rfl, rfl⟩
              rw [hx]
              go_wp2_with fail
              go_ret
              exact ⟨by rw [hr.out]; rfl, hBw3⟩
          | false =>
            have hr : Hid (inF i v = 0) := by
              show _ = _
              rw [he.out, hnm.out, hall2.out, hg]
              simp
            clear he hnm hall2 hgv hbl
            go_wp2_with fail
            go_ret
            exact ⟨by rw [hr.out]; rfl, hBw3⟩
end Go.Proofs.Ytepmbkiojpffpaa
