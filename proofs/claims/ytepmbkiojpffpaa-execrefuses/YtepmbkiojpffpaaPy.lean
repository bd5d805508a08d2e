/- The great loop of the document's Play. -/
import Derived.Test.YtepmbkiojpffpaaPb1
import Derived.Test.YtepmbkiojpffpaaPb6
namespace Go.Proofs.Ytepmbkiojpffpaa
open Go Go.RowKit Ir

def InvP (w : World) (ub : Option Addr) (cb : Nat) (bs : List Blk) (r : Int) (n gi gr go gp : Nat) (ca : Option Addr) (cc : Nat) (ans : List Int) (s0 : St) (a : Act) (wr : World) : Prop :=
  ∃ (tn kn qn : Nat) (s : St) (cv : Value), ActP (.slice ub bs.length cb) (.int .i64 r) (P0 gi) (P0 gr) (.slice (some ⟨gp, 0, none⟩) n n) (P0 go) (.int .i64 (tn : Nat)) (.int .i64 (kn : Nat)) (.int .i64 (qn : Nat)) a ∧ Stand w n gi gr go gp ca cc ans wr s cv qn ∧ tn < bs.length ∧ kn ≤ (bs.getD tn Blk.zero).ins.length ∧ play r bs 0 s0 = cont r bs (bs.getD tn Blk.zero).e ((bs.getD tn Blk.zero).ins.drop kn) s
theorem cont_drop {r : Int} {bs : List Blk} {e : En} {is : List Ins} {kn : Nat} (h : kn < is.length) (s : St) : cont r bs e (is.drop kn) s = match one r (is.getD kn Ins.zero) s with | .inr o => o | .inl s' => cont r bs e (is.drop (kn + 1)) s' := by
  have e1 : is.getD kn Ins.zero = is[kn] := by simp [List.getElem?_eq_getElem h]
  rw [e1, List.drop_eq_getElem_cons h, cont_cons]
  cases one r is[kn] s <;> rfl
theorem main14 {Q : Exit → Act → World → Prop} {a0 : Act} {w w0 : World} {ub : Option Addr} {cb : Nat} {bs : List Blk} {r : Int} {n gi gr go gp : Nat} {ca : Option Addr} {cc : Nat} {ans : List Int} {s0 : St} {cv0 : Value} (hA0 : ActP (.slice ub bs.length cb) (.int .i64 r) (P0 gi) (P0 gr) (.slice (some ⟨gp, 0, none⟩) n n) (P0 go) (.int .i64 (0 : Nat)) (.int .i64 (0 : Nat)) (.int .i64 (0 : Nat)) a0) (hS0 : Stand w n gi gr go gp ca cc ans w0 s0 cv0 0) (hu : BlksV w (.slice ub bs.length cb) bs) (hans : IntsV w (.slice ca ans.length cc) ans) (hb : Okay r n bs) (hbl : 1 ≤ bs.length) (hr : 0 ≤ r)
    (hfin : ∀ (a' : Act) (W : World), FinP w gr a' W (play r bs 0 s0) → Q .ret a' W) : (Code.loop body14).wp Try.prog Q a0 w0 := by
  refine wp_loop (InvP w ub cb bs r n gi gr go gp ca cc ans s0) (fun a wr => muP go (a.eval (.tmp 16)) wr) ⟨0, 0, 0, s0, cv0, hA0, hS0, by omega, by omega, play_cont r bs 0 s0⟩ ?_
  rintro a wr ⟨tn, kn, qn, s, cv, hA, hS, ht, hk, hpl⟩
  have hB : OkB r n bs.length (bs.getD tn Blk.zero) := hb _ (by simp [List.getElem?_eq_getElem ht])
  obtain ⟨hB1, hB2, hB3⟩ := hB
  have hmu : muP go (a.eval (.tmp 16)) wr = 1001 * s.left + (1000 - kn) := by rw [hA.b16]; exact hS.run.mu kn
  by_cases hlt : kn < (bs.getD tn Blk.zero).ins.length
  · rw [cont_drop hlt] at hpl
    obtain ⟨i, hi⟩ : ∃ i, (bs.getD tn Blk.zero).ins.getD kn Ins.zero = i := ⟨_, rfl⟩
    have hok : OkI r n i := hB2 i (by rw [← hi, show (bs.getD tn Blk.zero).ins.getD kn Ins.zero = (bs.getD tn Blk.zero).ins[kn] by rw [List.getD_eq_getElem?_getD, List.getElem?_eq_getElem hlt]; rfl]; exact List.getElem_mem hlt)
    rw [hi] at hpl
    have hgo : ∀ (a' : Act) (W : World) (s' : St) (cv' : Value) (qn' : Nat), one r i s = .inl s' → ActP (.slice ub bs.length cb) (.int .i64 r) (P0 gi) (P0 gr) (.slice (some ⟨gp, 0, none⟩) n n) (P0 go) (.int .i64 (tn : Nat)) (.int .i64 (kn + 1 : Nat)) (.int .i64 (qn' : Nat)) a' → Stand w n gi gr go gp ca cc ans W s' cv' qn' → Exit.then (fun a' w' => InvP w ub cb bs r n gi gr go gp ca cc ans s0 a' w' ∧ muP go (a'.eval (.tmp 16)) w' < muP go (a.eval (.tmp 16)) wr) Q .normal a' W := by
      intro a' W s' cv' qn' h1 hA' hS'
      rw [h1] at hpl
      refine ⟨⟨tn, kn + 1, qn', s', cv', hA', hS', ht, hlt, hpl⟩, ?_⟩
      rw [hmu, hA'.b16, hS'.run.mu (kn + 1)]
      have := one_left h1
      omega
    have hret : ∀ (a' : Act) (W : World) (o : Out), one r i s = .inr o → FinP w gr a' W o → Exit.then (fun a' w' => InvP w ub cb bs r n gi gr go gp ca cc ans s0 a' w' ∧ muP go (a'.eval (.tmp 16)) w' < muP go (a.eval (.tmp 16)) wr) Q .ret a' W := by
      intro a' W o h1 hF
      rw [h1] at hpl
      exact hfin a' W (by rw [hpl]; exact hF)
    have hk8 := hok.k
    by_cases e2 : i.k = 2
    · exact body_2 hA hS hu ht hlt hB1 hi hok e2 hgo hret
    by_cases e7 : i.k = 7
    · exact body_7 hA hS hu ht hlt hB1 hi hok e7 hr hgo hret
    by_cases e8 : i.k = 8
    · exact body_8 hA hS hu ht hlt hB1 hi hok e8 hr hgo hret
    by_cases h0 : s.left = 0
    · exact body_starve hA hS hu ht hlt hB1 hi hok (by simp [free, e2, e7, e8]) h0 hgo hret
    by_cases e1 : i.k = 1
    · exact body_1 hA hS hu ht hlt hB1 hi hok e1 h0 hgo hret
    by_cases e3 : i.k = 3
    · by_cases htr : i.op = 7 ∧ pg s.p i.b = 0
      · exact body_3t hA hS hu ht hlt hB1 hi hok e3 h0 htr hgo hret
      · exact body_3 hA hS hu ht hlt hB1 hi hok e3 h0 htr hgo hret
    by_cases e4 : i.k = 4
    · exact body_4 hA hS hu ht hlt hB1 hi hok e4 h0 hgo hret
    by_cases e5 : i.k = 5
    · exact body_5 hA hS hu ht hlt hB1 hi hok e5 h0 hgo hret
    · exact body_6 hA hS hu ht hlt hB1 hi hok (by omega) h0 hans hgo hret
  · have hkn : kn = (bs.getD tn Blk.zero).ins.length := by omega
    rw [hkn, List.drop_length, cont_nil] at hpl
    obtain ⟨e, he⟩ : ∃ e, (bs.getD tn Blk.zero).e = e := ⟨_, rfl⟩
    rw [he] at hpl hB3
    have hgo : ∀ (a' : Act) (W : World) (s' : St) (t' : Nat), fini e s = .inl ((t' : Int), s') → ActP (.slice ub bs.length cb) (.int .i64 r) (P0 gi) (P0 gr) (.slice (some ⟨gp, 0, none⟩) n n) (P0 go) (.int .i64 (t' : Nat)) (.int .i64 (0 : Nat)) (.int .i64 (qn : Nat)) a' → Stand w n gi gr go gp ca cc ans W s' cv qn → Exit.then (fun a' w' => InvP w ub cb bs r n gi gr go gp ca cc ans s0 a' w' ∧ muP go (a'.eval (.tmp 16)) w' < muP go (a.eval (.tmp 16)) wr) Q .normal a' W := by
      intro a' W s' t' h1 hA' hS'
      rw [h1] at hpl
      have htl : 0 ≤ (t' : Int) ∧ (t' : Int) < (bs.length : Int) := by
        refine blk_to (r := r) (b := ⟨[], e⟩) (s := s) (s' := s') hB3 ?_
        show (insts r [] s).bind (fini e) = _
        exact h1
      refine ⟨⟨t', 0, qn, s', cv, hA', hS', by omega, by omega, by rw [hpl]; exact play_cont r bs (t' : Int) s'⟩, ?_⟩
      rw [hmu, hA'.b16, hS'.run.mu 0]
      have := fini_left h1
      omega
    have hret : ∀ (a' : Act) (W : World) (o : Out), fini e s = .inr o → FinP w gr a' W o → Exit.then (fun a' w' => InvP w ub cb bs r n gi gr go gp ca cc ans s0 a' w' ∧ muP go (a'.eval (.tmp 16)) w' < muP go (a.eval (.tmp 16)) wr) Q .ret a' W := by
      intro a' W o h1 hF
      rw [h1] at hpl
      exact hfin a' W (by rw [hpl]; exact hF)
    have hk3 := hB3.k
    by_cases h0 : s.left = 0
    · exact body_e0 hA hS hu ht hkn hB1 he h0 hgo hret
    by_cases e3 : e.k = 3
    · exact body_e3 hA hS hu ht hkn hB1 he hB3 h0 e3 hgo hret
    by_cases e1 : e.k = 1
    · exact body_e1 hA hS hu ht hkn hB1 he hB3 h0 e1 hgo hret
    by_cases hz : pg s.p e.a = 0
    · exact body_e2t hA hS hu ht hkn hB1 he hB3 h0 (by omega) hz hgo hret
    · exact body_e2f hA hS hu ht hkn hB1 he hB3 h0 (by omega) hz hgo hret
end Go.Proofs.Ytepmbkiojpffpaa
namespace Go.Proofs.Ytepmbkiojpffpaa
open Go.RowKit Ir

theorem box27 (w : World) (a b c d : Value) : ∀ W, Below (w.heap.size + 1) (w.alloc (.cells #[a, b, c, d] 27)) W → W.cell? ⟨w.heap.size, 0, none⟩ = some a ∧ W.cell? ⟨w.heap.size, 1, none⟩ = some b ∧ W.cell? ⟨w.heap.size, 2, none⟩ = some c ∧ W.cell? ⟨w.heap.size, 3, none⟩ = some d := by
  intro W hB
  have hsz : (w.alloc (.cells #[a, b, c, d] 27)).heap.size = w.heap.size + 1 := by simp
  rw [← hsz] at hB
  refine ⟨?_, ?_, ?_, ?_⟩
  all_goals
    refine cell_below hB ?_
    rw [cell_of_row _ _ _ _ _ _ (heap_alloc_new w _)]
    rfl
set_option maxHeartbeats 4000000 in
set_option maxRecDepth 100000 in
theorem play_any (u : Value) (bs : List Blk) (r slots : Int) (first : Nat) (v : Value) (I : Inp) (n : Nat) (w : World) (hu : BlksV w u bs) (hI : InpV w v I) (hb : Okay r n bs) (hn : r + slots = (n : Int)) (hn2 : n ≤ 1000000) (hr : 0 ≤ r ∧ r ≤ 1000000) (hbl : 1 ≤ bs.length ∧ bs.length ≤ 1000) (hf : first + I.args.length ≤ n) (hfu : 0 ≤ I.fuel ∧ I.fuel ≤ 1048576) :
    Calls Try.prog 12 #[u, .int .i64 r, .int .i64 slots, .int .i64 first, v] w fun e w' => ∃ x, e = .returned x ∧ OutO w.heap.size w' x (play r bs 0 (st0 n first I)) ∧ Below w.heap.size w w' := by
  obtain ⟨a, b, c, rfl, ha, hm, hc⟩ := hI
  obtain ⟨ub, cb, rfl⟩ := hu.slice
  obtain ⟨aa, ac, rfl⟩ := ha.slice
  obtain ⟨ma, mc, rfl⟩ := hm.slice
  obtain ⟨ca, cc, rfl⟩ := hc.slice
  have hz37 := (zero_of_info zero37).1
  obtain ⟨Z37, hZ37⟩ : ∃ Z, Z = (out0 0).toArray := ⟨_, rfl⟩
  simp only [← hZ37] at hz37
  have HZ37 := hide hz37
  have HZE := hide hZ37
  have HBOX := hide (box27 w (.slice aa I.args.length ac) (.slice ma I.mem.length mc) (.slice ca I.ans.length cc) (.int .i64 I.fuel))
  have hmk := fun W => run_make2 n hn2 W
  obtain ⟨R0, hR0⟩ : ∃ R0, R0 = nums (List.replicate n 0) := ⟨_, rfl⟩
  simp only [← hR0] at hmk
  have hs1 : r + slots ≤ 9223372036854775807 := by omega
  have hs2 : -9223372036854775808 ≤ r + slots := by omega
  have HR0 := hide hR0
  clear hz37 hZ37 hR0
  go_enter Try.func12, Try.ntmps12
  go_wp2_with (first | (refine wpList_alloc' rfl 37 rfl Z37 HZ37.out ?_; intro gr Wo ho))
  have hsz1 : (w.alloc (.cells #[.slice aa I.args.length ac, .slice ma I.mem.length mc, .slice ca I.ans.length cc, .int .i64 I.fuel] 27)).heap.size = w.heap.size + 1 := by simp
  have hgr : gr = w.heap.size + 1 := ho.out.1.trans hsz1
  have hBo : Below (w.heap.size + 1) (w.alloc (.cells #[.slice aa I.args.length ac, .slice ma I.mem.length mc, .slice ca I.ans.length cc, .int .i64 I.fuel] 27)) Wo := by have := ho.out.2.2; rwa [hgr] at this
  have hgrl : gr < Wo.heap.size := (Array.getElem?_eq_some_iff.1 ho.out.2.1).1
  have hBA := bel1' Wo (.cells R0.toArray 2)
  have hrA : (Wo.alloc (.cells R0.toArray 2)).heap[Wo.heap.size]? = some (Obj.cells R0.toArray 2 (0, 0)) := heap_alloc_new Wo _
  have hBw : Below w.heap.size w Wo := (bel1' w _).trans (hBo.mono (by omega))
  obtain ⟨W1, hW1⟩ : ∃ W1, W1 = Wo.alloc (.cells R0.toArray 2) := ⟨_, rfl⟩
  obtain ⟨gp, hgp⟩ : ∃ gp, gp = Wo.heap.size := ⟨_, rfl⟩
  rw [← hgp] at hrA hBA hgrl ⊢
  rw [← hW1] at hrA hBA ⊢
  have hg1 : w.heap.size + 1 < gp := by omega
  have hBw1 : Below w.heap.size w W1 := hBw.trans (hBA.mono (by omega))
  have hBo1 : Below (w.heap.size + 1) (w.alloc (.cells #[.slice aa I.args.length ac, .slice ma I.mem.length mc, .slice ca I.ans.length cc, .int .i64 I.fuel] 27)) W1 := hBo.trans (hBA.mono (by omega))
  have hgr1 : W1.heap[gr]? = some (Obj.cells Z37 37 (0, 0)) := (hBA.block gr hgrl).trans ho.out.2.1
  have hp1 : W1.heap[gp]? = some (Obj.cells (nums (splice (List.replicate n 0) first (I.args.take 0))).toArray 2 (0, 0)) := by rw [hrA, HR0.out, List.take_zero, splice_nil]
  have HW1 := hide (And.intro hBw1 (And.intro hBo1 (And.intro hgr1 (And.intro hp1 hg1))))
  have HGR := hide hgr
  clear hgr hBw1 hBo1 hgr1 hp1 hrA hBA hBw hBo hgrl ho hmk hW1 hgp HR0 hsz1 R0 hg1 hs1 hs2
  have haL := hide ha
  have hmL := hide hm
  have hcL := hide hc
  have huL := hide hu
  have hal := SlV.len_le ha
  have hml := SlV.len_le hm
  have hal2 : (I.args.length : Int) ≤ 9223372036854775807 := by unfold maxLen at hal; omega
  have hml2 : (I.mem.length : Int) ≤ 9223372036854775807 := by unfold maxLen at hml; omega
  clear ha hm hc hu hal hml
  go_loopw [12] (fun iv wr => ∃ j : Nat, j ≤ I.args.length ∧ iv = .int .i64 j ∧ wr.heap[gp]? = some (Obj.cells (nums (splice (List.replicate n 0) first (I.args.take j))).toArray 2 (0, 0)) ∧ Below gp W1 wr) (fun iv _ => I.args.length - (intOf iv).toNat)
  case atStart => exact ⟨0, by omega, rfl, HW1.out.2.2.2.1, Below.refl _ _⟩
  case round =>
    obtain ⟨j, hj, rfl, hrow, hBr⟩ := hrel
    have hg1 := HW1.out.2.2.2.2
    have hB2 := HW1.out.2.1.trans (hBr.mono (by omega))
    obtain ⟨i0, i1, i2, i3⟩ := HBOX.out wr hB2
    by_cases hlt : j < I.args.length
    · have hBw : Below w.heap.size w wr := HW1.out.1.trans (hBr.mono (by omega))
      obtain ⟨ab, aoff, rfl, hcell⟩ := IntsV.at (haL.out.below hBw) j hlt
      have hlen : (splice (List.replicate n 0) first (I.args.take j)).length = n := by rw [length_splice]; simp; simp; omega
      have HS := hide (splice_snoc (List.replicate n 0) I.args first j hlt (by simpa using hf))
      obtain ⟨x, hx⟩ : ∃ x, I.args.getD j 0 = x := ⟨_, rfl⟩
      rw [hx] at hcell HS
      have hpc : wr.cell? ⟨gp, first + j, none⟩ = some (.int .i64 ((splice (List.replicate n 0) first (I.args.take j)).getD (first + j) 0)) := by
        rw [cell_of_row _ _ _ _ _ _ hrow]
        simpa using nums_get (by rw [hlen]; omega)
      have hpf : wr.frozen? ⟨gp, first + j, none⟩ = false := frozen_of_row _ _ _ _ _ hrow
      have hrow2 : (wr.setCell ⟨gp, first + j, none⟩ (.int .i64 x)).heap[gp]? = some (Obj.cells (nums (splice (List.replicate n 0) first (I.args.take (j + 1)))).toArray 2 (0, 0)) := by
        rw [heap_setCell_same wr gp _ _ _ _ hrow, ← HS.out]
        simp [nums_set]
      have HR2 := hide (And.intro hrow2 (hBr.setCell (p := ⟨gp, first + j, none⟩) (Nat.le_refl _) (.int .i64 x)))
      obtain ⟨y, hy⟩ : ∃ y, (splice (List.replicate n 0) first (I.args.take j)).getD (first + j) 0 = y := ⟨_, rfl⟩
      rw [hy] at hpc
      have hlt' : (j : Int) < (I.args.length : Int) := by omega
      have hfj : (first : Int) + (j : Int) < (n : Int) := by omega
      clear hrow2 hlen HS hx hrow hBr hBw hB2 hg1 hy i1 i2 i3
      go_wp2_with fail
      go_roundw
      case rel => exact ⟨j + 1, by omega, by go_num, HR2.out.1, HR2.out.2⟩
      case measure => simp [intOf]; omega
    · obtain rfl : j = I.args.length := by omega
      rw [List.take_length] at hrow
      have HR2 := hide (And.intro hrow hBr)
      have hBw : Below w.heap.size w wr := HW1.out.1.trans (hBr.mono (by omega))
      have hgrr : wr.heap[gr]? = some (Obj.cells Z37 37 (0, 0)) := (hBr.block gr (by rw [HGR.out]; omega)).trans HW1.out.2.2.1
      have HR3 := hide (And.intro hBw (And.intro hgrr (And.intro hB2 hg1)))
      obtain ⟨OA, hOA⟩ : ∃ OA, OA = out0 I.fuel := ⟨_, rfl⟩
      have hbd : ∀ W, (Instr.build 37 #[(4, .int .i64 I.fuel)]).run Try.prog W = .ok (.agg OA.toArray) W := fun W => by rw [hOA]; exact build37 _ W
      have hOl : OA.length = 68 := by rw [hOA]; simp [out0, outL_len, z64]
      have hO1 : ∀ v ∈ OA.toArray.toList, v.oneCell' = true := fun v hv => by rw [hOA] at hv; exact outL_one (how := 0) (val := 0) (mem := z64) (left := I.fuel) (cv := .slice none 0 0) rfl v (by simpa [out0] using hv)
      have hzl : Z37.size = 68 := by rw [HZE.out]; simp [out0, outL_len, z64]
      have HBD := hide hbd
      have HO := hide (And.intro hOl (And.intro hO1 (And.intro hzl hOA)))
      clear hrow hlt hB2 hBr hBw hgrr hg1 hbd hOl hO1 hzl hOA
      go_wp2_with (first | (refine wpList_build1 rfl 37 4 (.tmp 46) rfl (.int .i64 I.fuel) (.agg OA.toArray) rfl (HBD.out _) ?_) | (refine wpList_var 37 13 rfl rfl rfl rfl (.tmp 47) rfl rfl Z37 OA.toArray HZ37.out (Nat.le_of_ble_eq_true rfl) rfl (by simp only [List.size_toArray, HO.out.1]; exact size37) (by simp only [List.size_toArray, HO.out.1]; exact HO.out.2.2.1) HO.out.2.1 ?_; intro go W2 hgo))
      have hgpl : gp < wr.heap.size := (Array.getElem?_eq_some_iff.1 HR2.out.1).1
      have hg1 := HR3.out.2.2.2
      have hgo1 : go = wr.heap.size := hgo.out.1
      have hB2 : Below go wr W2 := hgo.out.2.2
      have hBw2 : Below w.heap.size w W2 := HR3.out.1.trans (hB2.mono (by omega))
      have hBo2 := HR3.out.2.2.1.trans (hB2.mono (by omega))
      have hgr2 : W2.heap[gr]? = some (Obj.cells Z37 37 (0, 0)) := (hB2.block gr (by rw [HGR.out]; omega)).trans HR3.out.2.1
      have hfuel : ((fuelOf I.fuel : Nat) : Int) = I.fuel := by unfold fuelOf; omega
      have hP2 : PlayAt w.heap.size go gp W2 0 0 ⟨laidL n first I.args, splice (List.replicate 64 0) 0 ((I.mem.take 64).take 0), [], fuelOf I.fuel, I.ans⟩ (.slice none 0 0) := by
        refine ⟨?_, CallsO.nil _ _ _, ?_, ?_, by omega, by omega, by simp only [laidL_len]; omega⟩
        · rw [hgo.out.2.1, HO.out.2.2.2, List.take_zero, splice_nil]
          simp only [hfuel]
          rfl
        · rw [List.take_zero, splice_nil]
          simp
        · rw [hB2.block gp (by omega), laidL_fit _ _ _ hf]
          exact HR2.out.1
      have HP2 := hide hP2
      have HW2 := hide (And.intro hBw2 (And.intro hBo2 (And.intro hgr2 (And.intro hg1 (by omega : gp < go)))))
      clear hP2 hBw2 hBo2 hgr2 hfuel hB2 hgo1 hg1 hgpl hgo HBD HO HR3 HR2 HW1 i0 i1 i2 i3
      go_loopw [14] (fun iv wr => ∃ j : Nat, j ≤ (I.mem.take 64).length ∧ iv = .int .i64 j ∧ PlayAt w.heap.size go gp wr 0 0 ⟨laidL n first I.args, splice (List.replicate 64 0) 0 ((I.mem.take 64).take j), [], fuelOf I.fuel, I.ans⟩ (.slice none 0 0) ∧ Mp w.heap.size go gp W2 wr) (fun iv _ => (I.mem.take 64).length - (intOf iv).toNat)
      case atStart => exact ⟨0, by omega, rfl, HP2.out, Mp.refl _ _ _ _⟩
      case round =>
        obtain ⟨j, hj, rfl, hP, hM⟩ := hrel
        rename World => wq
        have hB2 := HW2.out.2.1
        have hbx : wq.heap[w.heap.size]? = some (Obj.cells #[.slice aa I.args.length ac, .slice ma I.mem.length mc, .slice ca I.ans.length cc, .int .i64 I.fuel] 27 (0, 0)) := by
          have h1 : W2.heap[w.heap.size]? = some (Obj.cells #[.slice aa I.args.length ac, .slice ma I.mem.length mc, .slice ca I.ans.length cc, .int .i64 I.fuel] 27 (0, 0)) := (hB2.block w.heap.size (by omega)).trans (heap_alloc_new w _)
          exact hM.keeps _ _ _ _ rfl h1
        have i1 : wq.cell? ⟨w.heap.size, 1, none⟩ = some (.slice ma I.mem.length mc) := by rw [cell_of_row _ _ _ _ _ _ hbx]; rfl
        have hmin : (I.mem.take 64).length = min 64 I.mem.length := by simp
        by_cases hlt : j < (I.mem.take 64).length
        · have hjm : j < I.mem.length := by omega
          have hj64 : j < 64 := by omega
          obtain ⟨mb, moff, rfl, hcell⟩ := IntsV.at (hmL.out.below (HW2.out.1.trans hM.below)) j hjm
          have HS := hide (splice_snoc (List.replicate 64 0) (I.mem.take 64) 0 j hlt (by simp; omega))
          obtain ⟨x, hx⟩ : ∃ x, I.mem.getD j 0 = x := ⟨_, rfl⟩
          have hx2 : (I.mem.take 64).getD j 0 = x := by rw [← hx]; simp [hj64]
          rw [hx] at hcell
          rw [hx2, Nat.zero_add] at HS
          have c3 := hP.cm hj64
          have f3 := hP.fr (3 + j)
          have hml3 := hP.mem
          obtain ⟨hP3, hM3⟩ := hP.put (j := 3 + j) (u := .int .i64 x) (how' := 0) (val' := 0) (mem' := splice (List.replicate 64 0) 0 ((I.mem.take 64).take (j + 1))) (left' := fuelOf I.fuel) (by rw [← HS.out]; simpa using hml3) (by rw [← HS.out]; exact outL_set_mem (by rw [hml3]; exact hj64) _)
          have HP3 := hide hP3
          have HM3 := hide (hM.trans hM3)
          obtain ⟨y, hy⟩ : ∃ y, (splice (List.replicate 64 0) 0 ((I.mem.take 64).take j)).getD j 0 = y := ⟨_, rfl⟩
          simp only [hy] at c3
          have hj1 : (j : Int) < (I.mem.length : Int) := by omega
          have hj2 : (j : Int) < 64 := by omega
          clear hP hM hP3 hM3 hy hbx hB2 hx hx2 hml3 hmin HS
          go_wp2_with fail
          go_roundw
          case rel => exact ⟨j + 1, by omega, by go_num, HP3.out, HM3.out⟩
          case measure => simp [intOf]; omega
        · obtain rfl : j = (I.mem.take 64).length := by omega
          rw [List.take_length] at hP
          have hS0 : Stand w n w.heap.size gr go gp ca cc I.ans wq (st0 n first I) (.slice none 0 0) 0 := by
            refine ⟨hP, HW2.out.1.trans hM.below, ⟨_, hbx, rfl⟩, ⟨Z37, hM.outs _ _ (by rw [HGR.out]; have := HW2.out.2.2.2; omega) HW2.out.2.2.1, by rw [HZE.out]; simp [out0, outL_len, z64]⟩, ⟨by rw [HGR.out]; have := HW2.out.2.2.2; omega, by rw [HGR.out]; omega⟩, rfl, rfl, laidL_len _ _ _, ?_⟩
            show 0 + fuelOf I.fuel ≤ 1048576
            unfold fuelOf
            omega
          have HS0 := hide hS0
          have hfin : ∀ (a' : Act) (W : World), FinP w gr a' W (play r bs 0 (st0 n first I)) → ∃ x, a'.eval (.tmp 10) = P0 gr ∧ a'.defers = [] ∧ W.heap[gr]? = some (Obj.cells (x : List Value).toArray 37 (0, 0)) ∧ x.length = 68 ∧ OutO w.heap.size W (.agg x.toArray) (play r bs 0 (st0 n first I)) ∧ Below w.heap.size w W := by
            rintro a' W ⟨h1, h0, ⟨cv, gp', h2, h3⟩, h4, h5⟩
            exact ⟨_, h1, h0, h2, outL_len h4, ⟨cv, gp', rfl, h3, h4⟩, h5⟩
          have HFIN := hide hfin
          clear hP hM hS0 hfin hbx hB2 hlt
          rcases Nat.lt_or_ge I.mem.length 64 with h64 | h64
          · have hjl : (I.mem.take 64).length = I.mem.length := by omega
            rw [hjl]
            clear hjl hj hmin h64
            go_wp2_with fail
            refine main14 (s0 := st0 n first I) ⟨rfl, rfl, rfl, rfl, rfl, rfl, rfl, rfl, rfl, rfl, rfl⟩ HS0.out huL.out hcL.out hb hbl.1 hr.1 ?_
            intro a' W hF
            obtain ⟨x, e10, hd, hrow, hxl, hO, hBW⟩ := HFIN.out a' W hF
            simp only [Exit.inBlock]
            refine bodyPost_ret (results_cell_row rfl _ W gr 37 x.toArray (0, 0) _ e10 hrow Try.underlying37 rfl (by simp only [List.size_toArray, hxl]; exact size37)) hd ?_
            exact ⟨_, rfl, hO, hBW⟩
          · have hjl : (I.mem.take 64).length = 64 := by omega
            rw [hjl]
            clear hjl hj hmin
            rcases Nat.lt_or_ge 64 I.mem.length with h65 | h65
            · have hj1 : (64 : Int) < (I.mem.length : Int) := by omega
              clear h65 h64
              go_wp2_with fail
              refine main14 (s0 := st0 n first I) ⟨rfl, rfl, rfl, rfl, rfl, rfl, rfl, rfl, rfl, rfl, rfl⟩ HS0.out huL.out hcL.out hb hbl.1 hr.1 ?_
              intro a' W hF
              obtain ⟨x, e10, hd, hrow, hxl, hO, hBW⟩ := HFIN.out a' W hF
              simp only [Exit.inBlock]
              refine bodyPost_ret (results_cell_row rfl _ W gr 37 x.toArray (0, 0) _ e10 hrow Try.underlying37 rfl (by simp only [List.size_toArray, hxl]; exact size37)) hd ?_
              exact ⟨_, rfl, hO, hBW⟩
            · have hj0 : I.mem.length = 64 := by omega
              rw [hj0] at i1
              clear h65 h64 hj0
              go_wp2_with fail
              refine main14 (s0 := st0 n first I) ⟨rfl, rfl, rfl, rfl, rfl, rfl, rfl, rfl, rfl, rfl, rfl⟩ HS0.out huL.out hcL.out hb hbl.1 hr.1 ?_
              intro a' W hF
              obtain ⟨x, e10, hd, hrow, hxl, hO, hBW⟩ := HFIN.out a' W hF
              simp only [Exit.inBlock]
              refine bodyPost_ret (results_cell_row rfl _ W gr 37 x.toArray (0, 0) _ e10 hrow Try.underlying37 rfl (by simp only [List.size_toArray, hxl]; exact size37)) hd ?_
              exact ⟨_, rfl, hO, hBW⟩
end Go.Proofs.Ytepmbkiojpffpaa
