/- Turn, whole. -/
import Derived.Test.YtbgedbahabbanaaTurn1
import Derived.Test.YtbgedbahabbanaaApp
namespace Go.Proofs.Ytbgedbahabbanaa
open Go.RowKit Ir

theorem wpList_app3 (w : World) {ops : Array Oper} {rest : List Oper} {o : Oper} {a : Act} {Q : Exit → Act → World → Prop} (hgd : o.guard = none) (s y : Operand) (ho : o.op = .call { callee := .builtin .append, args := #[s, y], argTypes := #[44, 44] })
    (B : Nat) (ua : Value) (xs : List Int) (h : Nat) (x : Int) (es : a.eval s = ua) (ey : a.eval y = .slice (some ⟨h, 0, none⟩) 1 1) (hO : ArgsO B w ua xs) (hc : w.cell? ⟨h, 0, none⟩ = some (.int .i64 x)) (hl : xs.length ≤ 1000000) (hB : B ≤ w.heap.size)
    (hK : ∀ v' w', ArgsO B w' v' (xs ++ [x]) → w.grownBy w' ua.ownBlock → Soft B w w' → wpList Try.prog ops Q rest (a.put o.dst v') w') : wpList Try.prog ops Q (o :: rest) a w := by
  refine wpList_plain hgd fun K hK' => ?_
  obtain ⟨v', w', hr, h2, h3, h4⟩ := run_app3 w o.type hO hc hl hB
  unfold Oper.wp execOp
  simp only [ho, resolve, invoke, builtin, Sem.run_bind, Sem.run_pure, Result.andThen_ok, List.map_toArray, List.map_cons, List.map_nil, es, ey, hr]
  exact hK' _ _ (hK v' w' h2 h3 h4)
theorem is41 {T : TypeId → Bool} (hT : T 41 = true) : ∀ t : TypeId, (t == 41) = true → T t = true := by
  intro t ht
  have e : t = 41 := by simpa using ht
  rw [e]
  exact hT
set_option maxHeartbeats 2000000 in
set_option maxRecDepth 100000 in
theorem turn_i6 (B : Nat) (g cap : Nat) (cur : Array Value) (nb j m : Nat) (ui : Option Addr) (ci : Nat) (e : En) (b k f n : Int) (w : World) (hg : w.heap[g]? = some (Obj.cells cur 41 (0, 0))) (hc : BlkCells w g (j * 5) (.slice ui m ci) e)
    (hb0 : 0 ≤ b) (hb1 : b < 256) (hk0 : 0 ≤ k) (hk1 : k < 256) (hb : b.tmod (nb : Int) = (j : Int)) (hj : j < nb) (t : Nat) (hk : k.tmod ((m : Int) + 1) = (t : Int)) (hm : m < 100000) (gi : Nat) (curi : Array Value) (i : Ins) (ua : Option Addr) (ca2 : Nat) (hui : ui = some ⟨gi, 0, none⟩) (hBi : B ≤ gi) (hgi : w.heap[gi]? = some (Obj.cells curi 46 (0, 0))) (hi : InsCells w gi (t * 7) i (.slice ua i.args.length ca2)) (ht : t < m) (h8 : f.tmod 8 = 6) (hA : ArgsO B w (.slice ua i.args.length ca2) i.args) (hal : i.args.length ≤ 1000000) (hB : B ≤ w.heap.size) :
    Calls Try.prog 12 #[.slice (some ⟨g, 0, none⟩) nb cap, .int .u8 b, .int .u8 k, .int .u8 f, .int .i64 n] w (TurnPost B w) := by
  obtain ⟨c0, c1, c2, c3, c4⟩ := hc
  have hfz : ∀ o, w.frozen? ⟨g, o, none⟩ = false := fun o => frozen_of_row _ _ _ _ _ hg
  have hnb : (((nb : Nat) : Int) == 0) = false := by rw [beq_eq_false_iff_ne]; omega
  have hnb1 : (((nb : Nat) : Int) == -1) = false := by rw [beq_eq_false_iff_ne]; omega
  have hm0 : (((m : Nat) : Int) + 1 == 0) = false := by rw [beq_eq_false_iff_ne]; omega
  have hm1 : (((m : Nat) : Int) + 1 == -1) = false := by rw [beq_eq_false_iff_ne]; omega
  have hji : (j : Int) < (nb : Int) := by omega
  subst hui
  obtain ⟨a0, a1, a2, a3, a4, a5, a6⟩ := hi
  have hti : (t : Int) < (m : Int) := by omega
  have htn : (((t : Nat) : Int) == ((m : Nat) : Int)) = false := by rw [beq_eq_false_iff_ne]; omega
  have hBx := (Below.refl w.heap.size w).alloc (Nat.le_refl _) (.cells #[.int .i64 n] 3)
  have hA1 := hA.keeps (Keeps.below hBx)
  have hc1 : (w.alloc (.cells #[.int .i64 n] 3)).cell? ⟨w.heap.size, 0, none⟩ = some (.int .i64 n) := by rw [World.cell?_alloc_new]; rfl
  have hB1 : B ≤ (w.alloc (.cells #[.int .i64 n] 3)).heap.size := Nat.le_trans hB hBx.size
  have hgi1 : (w.alloc (.cells #[.int .i64 n] 3)).heap[gi]? = some (Obj.cells curi 46 (0, 0)) := by rw [hBx.block gi (Array.getElem?_eq_some_iff.1 hgi).1]; exact hgi
  have HG1 := hide hgi1
  have HBX := hide hBx
  have hsl : (curi)[t * 7 + 6]? = some (.slice ua i.args.length ca2) := by rw [← cell_of_row _ _ _ _ _ _ hgi]; exact a6
  have HSL := hide hsl
  clear hg hgi hfz hBx hgi1 hA hsl
  go_enter Try.func12, Try.ntmps12
  go_wp2_with (at_builtin; go_must (refine wpList_app3 _ rfl (.tmp 132) (.tmp 134) rfl B _ i.args _ n rfl rfl hA1 hc1 hal hB1 ?_))
  intro v2 w2 hO2 hg2 hS2
  have hk2 := Keeps.grown (T := fun t => t != 3) hA1 rfl hg2
  have hgi2 := hk2 _ _ _ _ rfl HG1.out
  have z1 : w2.cell? ⟨gi, t * 7 + 6, none⟩ = some (.slice ua i.args.length ca2) := by rw [cell_of_row _ _ _ _ _ _ hgi2]; exact HSL.out
  have z2 : w2.frozen? ⟨gi, t * 7 + 6, none⟩ = false := frozen_of_row _ _ _ _ _ hgi2
  have hks : Keeps (fun t => t != 46) w2 (w2.setCell ⟨gi, t * 7 + 6, none⟩ v2) := Keeps.set hgi2 rfl v2
  have hOf : ArgsO B (w2.setCell ⟨gi, t * 7 + 6, none⟩ v2) v2 (i.args ++ [n]) := owns_keeps hO2 hks rfl
  have hSf : Soft B w (w2.setCell ⟨gi, t * 7 + 6, none⟩ v2) := ((Soft.below HBX.out).trans hS2).trans (Soft.set hgi2 ⟨fun h => by simp at h, fun _ => ⟨fun h => by omega, fun h1 h2 => by omega, fun _ => ⟨_, hOf⟩⟩, fun h => by simp at h⟩)
  have hBf : Below B w (w2.setCell ⟨gi, t * 7 + 6, none⟩ v2) := (((Below.refl B w).alloc hB _).grown hg2 hB1 (fun k hk => (hA1.lt k hk).1)).setCell (p := ⟨gi, t * 7 + 6, none⟩) hBi _
  have HSF := hide hSf
  have HKF : Hid (Keeps T24 w (w2.setCell ⟨gi, t * 7 + 6, none⟩ v2)) := ((Keeps.below HBX.out).trans (hk2.weak fun t ht => by simp [T24] at *; exact ht.1.1)).trans (hks.weak fun t ht => by simp [T24] at *; exact ht.1.2)
  have HK1 : Hid (K41 w (w2.setCell ⟨gi, t * 7 + 6, none⟩ v2)) := K41.keeps (T := fun t => t == 41) rfl (((Keeps.below HBX.out).trans (hk2.weak (is41 (T := fun t => t != 3) rfl))).trans (hks.weak (is41 (T := fun t => t != 46) rfl)))
  obtain ⟨v2a, v2c, hv2⟩ := hO2.v.slice
  simp only [List.length_append, List.length_cons, List.length_nil, Nat.zero_add] at hv2
  subst hv2
  clear hO2 hg2 hS2 hk2 hgi2 hks hOf hSf hA1 hc1
  go_wp2_with fail
  go_end0
  exact ⟨rfl, HSF.out, hBf, HKF.out, HK1.out⟩
set_option maxHeartbeats 2000000 in
set_option maxRecDepth 100000 in
theorem turn_i7a (B : Nat) (g cap : Nat) (cur : Array Value) (nb j m : Nat) (ui : Option Addr) (ci : Nat) (e : En) (b k f n : Int) (w : World) (hg : w.heap[g]? = some (Obj.cells cur 41 (0, 0))) (hc : BlkCells w g (j * 5) (.slice ui m ci) e)
    (hb0 : 0 ≤ b) (hb1 : b < 256) (hk0 : 0 ≤ k) (hk1 : k < 256) (hb : b.tmod (nb : Int) = (j : Int)) (hj : j < nb) (t : Nat) (hk : k.tmod ((m : Int) + 1) = (t : Int)) (hm : m < 100000) (gi : Nat) (i : Ins) (ua : Option Addr) (ca2 : Nat) (hui : ui = some ⟨gi, 0, none⟩) (hi : InsCells w gi (t * 7) i (.slice ua i.args.length ca2)) (ht : t < m) (h8 : f.tmod 8 = 7) (hal : i.args.length = 0) :
    Calls Try.prog 12 #[.slice (some ⟨g, 0, none⟩) nb cap, .int .u8 b, .int .u8 k, .int .u8 f, .int .i64 n] w (TurnPost B w) := by
  obtain ⟨c0, c1, c2, c3, c4⟩ := hc
  have hfz : ∀ o, w.frozen? ⟨g, o, none⟩ = false := fun o => frozen_of_row _ _ _ _ _ hg
  have hnb : (((nb : Nat) : Int) == 0) = false := by rw [beq_eq_false_iff_ne]; omega
  have hnb1 : (((nb : Nat) : Int) == -1) = false := by rw [beq_eq_false_iff_ne]; omega
  have hm0 : (((m : Nat) : Int) + 1 == 0) = false := by rw [beq_eq_false_iff_ne]; omega
  have hm1 : (((m : Nat) : Int) + 1 == -1) = false := by rw [beq_eq_false_iff_ne]; omega
  have hji : (j : Int) < (nb : Int) := by omega
  subst hui
  obtain ⟨a0, a1, a2, a3, a4, a5, a6⟩ := hi
  have hti : (t : Int) < (m : Int) := by omega
  have htn : (((t : Nat) : Int) == ((m : Nat) : Int)) = false := by rw [beq_eq_false_iff_ne]; omega
  have hal' : ¬ (0 : Int) < (i.args.length : Int) := by omega
  clear hg hfz hal
  go_enter Try.func12, Try.ntmps12
  go_wp2_with fail
  go_end0
  exact ⟨rfl, Soft.refl _ _, Below.refl _ _, Keeps.refl _ _, K41.refl _⟩
set_option maxHeartbeats 2000000 in
set_option maxRecDepth 100000 in
theorem turn_i7b (B : Nat) (g cap : Nat) (cur : Array Value) (nb j m : Nat) (ui : Option Addr) (ci : Nat) (e : En) (b k f n : Int) (w : World) (hg : w.heap[g]? = some (Obj.cells cur 41 (0, 0))) (hc : BlkCells w g (j * 5) (.slice ui m ci) e)
    (hb0 : 0 ≤ b) (hb1 : b < 256) (hk0 : 0 ≤ k) (hk1 : k < 256) (hb : b.tmod (nb : Int) = (j : Int)) (hj : j < nb) (t : Nat) (hk : k.tmod ((m : Int) + 1) = (t : Int)) (hm : m < 100000) (gi : Nat) (i : Ins) (ua : Option Addr) (ca2 : Nat) (hui : ui = some ⟨gi, 0, none⟩) (hi : InsCells w gi (t * 7) i (.slice ua i.args.length ca2)) (ht : t < m) (h8 : f.tmod 8 = 7) (ga : Nat) (cura : Array Value) (hua : ua = some ⟨ga, 0, none⟩) (hBa : B ≤ ga) (hga : w.heap[ga]? = some (Obj.cells cura 3 (0, 0))) (x0 : Int) (hx0 : w.cell? ⟨ga, 0, none⟩ = some (.int .i64 x0)) (hal : 0 < i.args.length) :
    Calls Try.prog 12 #[.slice (some ⟨g, 0, none⟩) nb cap, .int .u8 b, .int .u8 k, .int .u8 f, .int .i64 n] w (TurnPost B w) := by
  obtain ⟨c0, c1, c2, c3, c4⟩ := hc
  have hfz : ∀ o, w.frozen? ⟨g, o, none⟩ = false := fun o => frozen_of_row _ _ _ _ _ hg
  have hnb : (((nb : Nat) : Int) == 0) = false := by rw [beq_eq_false_iff_ne]; omega
  have hnb1 : (((nb : Nat) : Int) == -1) = false := by rw [beq_eq_false_iff_ne]; omega
  have hm0 : (((m : Nat) : Int) + 1 == 0) = false := by rw [beq_eq_false_iff_ne]; omega
  have hm1 : (((m : Nat) : Int) + 1 == -1) = false := by rw [beq_eq_false_iff_ne]; omega
  have hji : (j : Int) < (nb : Int) := by omega
  subst hui
  subst hua
  obtain ⟨a0, a1, a2, a3, a4, a5, a6⟩ := hi
  have hti : (t : Int) < (m : Int) := by omega
  have htn : (((t : Nat) : Int) == ((m : Nat) : Int)) = false := by rw [beq_eq_false_iff_ne]; omega
  have hal' : (0 : Int) < (i.args.length : Int) := by omega
  have f1 : w.frozen? ⟨ga, 0, none⟩ = false := frozen_of_row _ _ _ _ _ hga
  have HG := hide hga
  clear hg hfz hal hga
  go_enter Try.func12, Try.ntmps12
  go_wp2_with fail
  go_end0
  exact ⟨rfl, Soft.set HG.out ⟨fun _ => ⟨_, rfl⟩, fun h => by simp at h, fun h => by simp at h⟩, (Below.refl _ _).setCell (p := ⟨ga, 0, none⟩) hBa _, Keeps.set HG.out rfl _, K41.keeps (T := fun t => t == 41) rfl (Keeps.set HG.out rfl _)⟩

theorem turn_any (B : Nat) (u : Value) (bs : List Blk) (b k f n : Int) (w : World) (hu : BlksO B w u bs) (hB : B ≤ w.heap.size) (hb0 : 0 ≤ b) (hb1 : b < 256) (hk0 : 0 ≤ k) (hk1 : k < 256) (hf0 : 0 ≤ f)
    (hlen : ∀ x ∈ bs, x.ins.length < 100000 ∧ ∀ i ∈ x.ins, i.args.length ≤ 1000000) : Calls Try.prog 12 #[u, .int .u8 b, .int .u8 k, .int .u8 f, .int .i64 n] w (TurnPost B w) := by
  by_cases h0 : bs.length = 0
  · obtain rfl : bs = [] := List.eq_nil_of_length_eq_zero h0
    exact turn_none B u b k f n w hu
  have hu' := hu
  obtain ⟨ps, hps, hown, hall⟩ := hu'
  obtain ⟨g, cap, cur, rfl, hBg, hg, _⟩ := hu.rows (by omega)
  have hpl : ps.length = bs.length := by rw [← hps, List.length_map]
  have htb : b.tmod (bs.length : Int) = b % (bs.length : Int) := Int.tmod_eq_emod_of_nonneg hb0
  have hbr : 0 ≤ b % (bs.length : Int) ∧ b % (bs.length : Int) < (bs.length : Int) := ⟨Int.emod_nonneg _ (by omega), Int.emod_lt_of_pos _ (by omega)⟩
  obtain ⟨j, hj⟩ : ∃ j : Nat, (j : Int) = b % (bs.length : Int) := ⟨(b % (bs.length : Int)).toNat, by omega⟩
  have hjl : j < bs.length := by omega
  have hb : b.tmod (bs.length : Int) = (j : Int) := by rw [htb, hj]
  have hjp : j < ps.length := by omega
  have hp : ps[j]? = some ps[j] := List.getElem?_eq_getElem hjp
  obtain ⟨g0, g1, g2, g3, g4⟩ := cellsB_get ps j _ hp
  have hcc : ∀ q x, q < 5 → (cellsB ps)[j * 5 + q]? = some x → w.cell? ⟨g, j * 5 + q, none⟩ = some x := by
    intro q x _ hx
    have := hown.cells (g := g) rfl _ _ hx
    rwa [Addr.add_lit, Nat.zero_add] at this
  have hI := hall _ (List.getElem_mem hjp)
  have hmem : ps[j].1 ∈ bs := by rw [← hps]; exact List.mem_map_of_mem (List.getElem_mem hjp)
  obtain ⟨hml, hargs⟩ := hlen _ hmem
  have hcells : BlkCells w g (j * 5) ps[j].2 ps[j].1.e := ⟨hcc 0 _ (by omega) g0, hcc 1 _ (by omega) g1, hcc 2 _ (by omega) g2, hcc 3 _ (by omega) g3, hcc 4 _ (by omega) g4⟩
  generalize ps[j].2 = ui at *
  generalize ps[j].1 = blk at *
  obtain ⟨is, e⟩ := blk
  simp only at hI hml hargs hcells
  obtain ⟨ua, uc, rfl⟩ := hI.v.slice
  have htk : k.tmod ((is.length : Int) + 1) = k % ((is.length : Int) + 1) := Int.tmod_eq_emod_of_nonneg hk0
  have hkr : 0 ≤ k % ((is.length : Int) + 1) ∧ k % ((is.length : Int) + 1) < (is.length : Int) + 1 := ⟨Int.emod_nonneg _ (by omega), Int.emod_lt_of_pos _ (by omega)⟩
  obtain ⟨t, ht⟩ : ∃ t : Nat, (t : Int) = k % ((is.length : Int) + 1) := ⟨(k % ((is.length : Int) + 1)).toNat, by omega⟩
  have hkk : k.tmod ((is.length : Int) + 1) = (t : Int) := by rw [htk, ht]
  by_cases htm : t = is.length
  · have h4 : f.tmod 4 = f % 4 := Int.tmod_eq_emod_of_nonneg hf0
    have : f % 4 = 0 ∨ f % 4 = 1 ∨ f % 4 = 2 ∨ f % 4 = 3 := by omega
    rcases this with h | h | h | h
    · exact turn_e0 B g cap cur bs.length j is.length ua uc e b k f n w hBg hg hcells hb0 hb1 hk0 hk1 hb hjl t hkk hml htm (by rw [h4, h])
    · exact turn_e1 B g cap cur bs.length j is.length ua uc e b k f n w hBg hg hcells hb0 hb1 hk0 hk1 hb hjl t hkk hml htm (by rw [h4, h])
    · exact turn_e2 B g cap cur bs.length j is.length ua uc e b k f n w hBg hg hcells hb0 hb1 hk0 hk1 hb hjl t hkk hml htm (by rw [h4, h])
    · exact turn_e3 B g cap cur bs.length j is.length ua uc e b k f n w hBg hg hcells hb0 hb1 hk0 hk1 hb hjl t hkk hml htm (by rw [h4, h])
  · have htl : t < is.length := by omega
    have hI' := hI
    obtain ⟨qs, hqs, hqown, hqall⟩ := hI'
    obtain ⟨gi, ci, curi, hue, hBi, hgi, _⟩ := hI.rows (by omega)
    simp only [Value.slice.injEq, true_and] at hue
    obtain ⟨hue, rfl⟩ := hue
    have hql : qs.length = is.length := by rw [← hqs, List.length_map]
    have htq : t < qs.length := by omega
    have hq : qs[t]? = some qs[t] := List.getElem?_eq_getElem htq
    obtain ⟨i0, i1, i2, i3, i4, i5, i6⟩ := cellsI_get qs t _ hq
    have hci : ∀ q x, q < 7 → (cellsI qs)[t * 7 + q]? = some x → w.cell? ⟨gi, t * 7 + q, none⟩ = some x := by
      intro q x _ hx
      have := hqown.cells (g := gi) (by rw [hue]; rfl) _ _ hx
      rwa [Addr.add_lit, Nat.zero_add] at this
    have hA := hqall _ (List.getElem_mem htq)
    have hmemi : qs[t].1 ∈ is := by rw [← hqs]; exact List.mem_map_of_mem (List.getElem_mem htq)
    have hal := hargs _ hmemi
    have hic : InsCells w gi (t * 7) qs[t].1 qs[t].2 := ⟨hci 0 _ (by omega) i0, hci 1 _ (by omega) i1, hci 2 _ (by omega) i2, hci 3 _ (by omega) i3, hci 4 _ (by omega) i4, hci 5 _ (by omega) i5, hci 6 _ (by omega) i6⟩
    generalize qs[t].2 = va at *
    generalize qs[t].1 = i at *
    obtain ⟨aa, ac, rfl⟩ := hA.v.slice
    have h8 : f.tmod 8 = f % 8 := Int.tmod_eq_emod_of_nonneg hf0
    have : f % 8 = 0 ∨ f % 8 = 1 ∨ f % 8 = 2 ∨ f % 8 = 3 ∨ f % 8 = 4 ∨ f % 8 = 5 ∨ f % 8 = 6 ∨ f % 8 = 7 := by omega
    rcases this with h | h | h | h | h | h | h | h
    · exact turn_i0 B g cap cur bs.length j is.length ua uc e b k f n w hg hcells hb0 hb1 hk0 hk1 hb hjl t hkk hml gi curi i aa ac hue hBi hgi hic htl (by rw [h8, h])
    · exact turn_i1 B g cap cur bs.length j is.length ua uc e b k f n w hg hcells hb0 hb1 hk0 hk1 hb hjl t hkk hml gi curi i aa ac hue hBi hgi hic htl (by rw [h8, h])
    · exact turn_i2 B g cap cur bs.length j is.length ua uc e b k f n w hg hcells hb0 hb1 hk0 hk1 hb hjl t hkk hml gi curi i aa ac hue hBi hgi hic htl (by rw [h8, h])
    · exact turn_i3 B g cap cur bs.length j is.length ua uc e b k f n w hg hcells hb0 hb1 hk0 hk1 hb hjl t hkk hml gi curi i aa ac hue hBi hgi hic htl (by rw [h8, h])
    · exact turn_i4 B g cap cur bs.length j is.length ua uc e b k f n w hg hcells hb0 hb1 hk0 hk1 hb hjl t hkk hml gi curi i aa ac hue hBi hgi hic htl (by rw [h8, h])
    · exact turn_i5 B g cap cur bs.length j is.length ua uc e b k f n w hg hcells hb0 hb1 hk0 hk1 hb hjl t hkk hml gi curi i aa ac hue hBi hgi hic htl (by rw [h8, h])
    · exact turn_i6 B g cap cur bs.length j is.length ua uc e b k f n w hg hcells hb0 hb1 hk0 hk1 hb hjl t hkk hml gi curi i aa ac hue hBi hgi hic htl (by rw [h8, h]) hA hal hB
    · by_cases hal0 : i.args.length = 0
      · exact turn_i7a B g cap cur bs.length j is.length ua uc e b k f n w hg hcells hb0 hb1 hk0 hk1 hb hjl t hkk hml gi i aa ac hue hic htl (by rw [h8, h]) hal0
      · have hA' := hA
        rcases hA'.2 with ⟨hv, hv0⟩ | ⟨ga, cap', cura, hv, hba, hga, _⟩
        · omega
        · simp only [Value.slice.injEq] at hv
          obtain ⟨bb, off, e1, hx0⟩ := hA.v.at 0 (by omega)
          rw [hv.1] at e1
          simp only [Option.some.injEq, Addr.mk.injEq, and_true] at e1
          obtain ⟨rfl, rfl⟩ := e1
          exact turn_i7b B g cap cur bs.length j is.length ua uc e b k f n w hg hcells hb0 hb1 hk0 hk1 hb hjl t hkk hml gi i aa ac hue hic htl (by rw [h8, h]) ga cura hv.1 hba hga _ hx0 (by omega)
end Go.Proofs.Ytbgedbahabbanaa
