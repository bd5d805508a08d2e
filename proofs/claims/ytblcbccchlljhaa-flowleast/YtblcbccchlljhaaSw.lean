/- Solve, whole: facts that are numbers. -/
import Derived.Test.YtblcbccchlljhaaSx
namespace Go.Proofs.Ytblcbccchlljhaa.I
open Go.RowKit Ir Wy

/-- Nothing of the call's own is older; all that there was behind the tables stays but the facts. -/
abbrev Own (w3 : World) (g : Nat) (k : Nat) : Prop := k = g ∨ w3.heap.size ≤ k
/-- Where the loop stands: M measures what is left. -/
def RM (w3 : World) (p : Fl.Prob Fc) (m : (Nat → Fc) → Nat) (g q M0 : Nat) (wr : World) (M : Nat) : Prop := ∃ fs ql N, M = m fs * (p.n + 1) + ql.length ∧ M ≤ M0 ∧ N ≤ (M0 - M) * 200000 + 200 ∧ p.Come fs ∧ Fl.Settled p fs ql ∧ (∀ x ∈ ql, x < p.n) ∧ FactsAt wr g p.n fs ∧ Que w3.heap.size wr q N ql ∧ Bg.Chg (Own w3 g) w3 wr
theorem own_trans {w3 wr w' : World} {g : Nat} {S : Nat → Prop} (h : Bg.Chg (Own w3 g) w3 wr) (k : Bg.Chg S wr w') (hS : ∀ j, j < w3.heap.size → S j → j = g) : Bg.Chg (Own w3 g) w3 w' := h.trans k fun j hj e => .inl (hS j hj e)
theorem own_below {w w3 wr : World} {g : Nat} (h : Bg.Chg (Own w3 g) w3 wr) (hw : Below w.heap.size w w3) (hg : w.heap.size ≤ g) : Below w.heap.size w wr := hw.trans (h.below hw.size fun k e => by
  rcases e with e | e
  · omega
  · have := hw.size; omega)
theorem facts_chg {w w' : World} {g n B : Nat} {fs : Nat → Fc} (h : FactsAt w g n fs) (k : Bg.Chg (fun j => B ≤ j) w w') (hg : g < B) (hw : g < w.heap.size) : FactsAt w' g n fs := h.eq (k.block g hw (by omega))
theorem num_no {a M0 k N : Nat} (h : N ≤ (M0 - (a + (k + 1))) * 200000 + 200) : N ≤ (M0 - (a + k)) * 200000 + 200 :=
  Nat.le_trans h (Nat.add_le_add_right (Nat.mul_le_mul_right _ (by omega)) 200)
theorem num_lin {X Y N N' t K : Nat} (h3 : N ≤ X + 200) (hN : N' ≤ N + 1 + t) (ht : t + 1 ≤ K) (h : X + K ≤ Y) : N' ≤ Y + 200 := by omega
theorem num_mul {x y : Nat} (K : Nat) (h : x + 1 ≤ y) : x * K + K ≤ y * K := by
  have := Nat.mul_le_mul_right K h
  rw [Nat.add_mul, Nat.one_mul] at this
  exact this
theorem num_yes {a b M0 k l N N' t : Nat} (h3 : N ≤ (M0 - (a + (k + 1))) * 200000 + 200) (hN : N' ≤ N + 1 + t) (ht : t ≤ 100000) (hlt : b + l < a + (k + 1)) (h2 : a + (k + 1) ≤ M0) : N' ≤ (M0 - (b + l)) * 200000 + 200 :=
  num_lin h3 hN (by omega) (num_mul 200000 (by omega))
theorem num_lin2 {X K N : Nat} (h : N ≤ X + 200) (hX : X ≤ K) : N ≤ K + 200 := by omega
theorem num_max {M M0 N : Nat} (h3 : N ≤ (M0 - M) * 200000 + 200) (h2 : M0 ≤ 100000000) : N + 200000 < maxLen := by
  have h : N ≤ 100000000 * 200000 + 200 := num_lin2 h3 (Nat.mul_le_mul_right 200000 (by omega))
  unfold maxLen
  omega
theorem num_less {x y n l k : Nat} (h : x < y) (hl : l ≤ n) : x * (n + 1) + l < y * (n + 1) + (k + 1) := by
  have := Nat.mul_le_mul_right (n + 1) (show x + 1 ≤ y from h)
  rw [Nat.add_mul] at this
  omega
/-- The tables stay. -/
theorem tabs {w2 w3 wq : World} {gf gt n g : Nat} {Vf Vt : Nat → Value} {Rf Rt : Nat → List Int} (h : Wst w2 gf gt n w3 Vf Vt Rf Rt) (hg : g < w2.heap.size) (k : Bg.Chg (Own w3 g) w3 wq) : RowsO w2.heap.size gf n wq Vf Rf ∧ RowsO w2.heap.size gt n wq Vt Rt := by
  refine ⟨h.f.chg k (fun e => ?_) (fun b hb j hj e => ?_), h.t.chg k (fun e => ?_) (fun b hb j hj e => ?_)⟩
  · have := h.f.lt; have := h.f0; omega
  · have := (h.f.row b hb).lt j hj; omega
  · have := h.t.lt; have := h.t0; omega
  · have := (h.t.row b hb).lt j hj; omega
theorem z85 (W : World) : (zeroValue 85).run Try.prog W = .ok (.agg #[.slice none 0 0, .map none]) W := by kernel_rfl
theorem que_new' {w : World} {q B : Nat} (h : w.heap[q]? = some (.cells #[.slice none 0 0, .map none] 85 (0, 0))) (hB : B ≤ q) : Que B w q 0 [] :=
  ⟨.slice none 0 0, none, .map [], ⟨⟨85, h⟩, Bg.RowW.nil _ _ _, by simp [Value.ownBlock], fun _ => rfl, fun m e => (by cases e), ⟨fun k => by simp [Go.Maps.has], Go.Maps.isMap_empty, by simp⟩⟩, hB, fun m e => (by simp at e), fun k e => by simp [Value.ownBlock] at e⟩
theorem put1_range (i : Nat) : put1 (List.range i) i = List.range (i + 1) := by
  rw [put1, if_neg (by simp), List.range_succ]
theorem func_nil {t : TypeId} (hd : ∀ k W (f : Fn) (a c : Array Value), (Op.equalIn (k + 1) t (.func f a c) .nilFunc).run Try.prog W = .ok false W) (f : Fn) (a c : Array Value) (W : World) : (binOp .eql t (.func f a c) .nilFunc).run Try.prog W = .ok (.bool false) W := by
  simp only [binOp]
  simp [Op.equal, Op.maxDepth, hd 9999]
theorem nil33 (f : Fn) (a c : Array Value) (W : World) : (binOp .eql 33 (.func f a c) .nilFunc).run Try.prog W = .ok (.bool false) W := func_nil (fun k W f a c => by simp [Op.equalIn, run_underlying Try.underlying33]) f a c W
theorem nilI (f : Fn) (a c : Array Value) (W : World) : (binOp .eql 57 (.func f a c) .nilFunc).run Try.prog W = .ok (.bool false) W := func_nil (fun k W f a c => by simp [Op.equalIn, run_underlying Try.underlying57]) f a c W
theorem nilJ (f : Fn) (a c : Array Value) (W : World) : (binOp .eql 59 (.func f a c) .nilFunc).run Try.prog W = .ok (.bool false) W := func_nil (fun k W f a c => by simp [Op.equalIn, run_underlying Try.underlying59]) f a c W
theorem nilP (f : Fn) (a c : Array Value) (W : World) : (binOp .eql 60 (.func f a c) .nilFunc).run Try.prog W = .ok (.bool false) W := func_nil (fun k W f a c => by simp [Op.equalIn, run_underlying Try.underlying60]) f a c W
set_option maxHeartbeats 8000000 in
set_option maxRecDepth 100000 in
theorem solve_any (w : World) {p : Fl.Prob Fc} {vF vI vJ vP : Value} {m : (Nat → Fc) → Nat} (hf : FnsOk w p vF vI vJ vP) (ok : p.Ok m) (h0 : 0 < p.n) (hn : p.n ≤ 100) (hlen : ∀ b, b < p.n → (p.frm b).length ≤ 1000) (hM0 : m p.first * (p.n + 1) + p.n ≤ 100000000) {fF fI fJ fP : Fn} {aF cF aI cI aJ cJ aP cP : Array Value} (eF : vF = .func fF aF cF) (eI : vI = .func fI aI cI) (eJ : vJ = .func fJ aJ cJ) (eP : vP = .func fP aP cP) :
    Calls Try.prog 20 #[.agg #[.int .i64 (p.n : Int), vF, vI, vJ, vP]] w fun e w' => ∃ g cap fs, e = .returned (.slice (some ⟨g, 0, none⟩) p.n cap) ∧ w.heap.size ≤ g ∧ p.Come fs ∧ p.Still fs ∧ FactsAt w' g p.n fs ∧ Below w.heap.size w w' := by
  have HF := hide hf
  have HOK := hide ok
  have HLEN := hide hlen
  clear hf ok hlen
  subst eF eI eJ eP
  have nF := nil33
  have nI := nilI
  have nJ := nilJ
  have nP := nilP
  go_enter Try.func20, Try.ntmps20
  go_wp2_with (refine Bg.wpList_box' rfl 62 (.tmp 0) rfl #[.int .i64 (p.n : Int), (.func fF aF cF), (.func fI aI cI), (.func fJ aJ cJ), (.func fP aP cP)] rfl ?_; intro pb w1 h1; have k0 : w1.cell? ⟨pb, 0, none⟩ = some (.int .i64 (p.n : Int)) := (cell_of_row _ _ _ _ _ _ h1.out.2.1).trans rfl; have k1 : w1.cell? ⟨pb, 1, none⟩ = some (.func fF aF cF) := (cell_of_row _ _ _ _ _ _ h1.out.2.1).trans rfl; have k2 : w1.cell? ⟨pb, 2, none⟩ = some (.func fI aI cI) := (cell_of_row _ _ _ _ _ _ h1.out.2.1).trans rfl; have k3 : w1.cell? ⟨pb, 3, none⟩ = some (.func fJ aJ cJ) := (cell_of_row _ _ _ _ _ _ h1.out.2.1).trans rfl; have k4 : w1.cell? ⟨pb, 4, none⟩ = some (.func fP aP cP) := (cell_of_row _ _ _ _ _ _ h1.out.2.1).trans rfl)
  have hB1 : Hid (Below w.heap.size w w1) := hide (h1.out.2.2.mono (by rw [h1.out.1]; exact Nat.le_refl _))
  have hP1 : Hid (w1.heap[pb]? = some (.cells #[.int .i64 (p.n : Int), (.func fF aF cF), (.func fI aI cI), (.func fJ aJ cJ), (.func fP aP cP)] 62 (0, 0))) := hide h1.out.2.1
  have hpb : Hid (pb = w.heap.size ∧ pb < w1.heap.size) := hide ⟨h1.out.1, (Array.getElem?_eq_some_iff.1 h1.out.2.1).1⟩
  clear h1 k0 k1 k2 k3 k4 nF nI nJ nP
  go_loopw [3, 4, 33] (fun lv _ iv wr => ∃ i : Nat, i ≤ p.n ∧ iv = .int .i64 i ∧ Hid (FactsL w1.heap.size wr lv i p.first) ∧ Hid (Below w1.heap.size w1 wr)) (fun _ _ iv _ => p.n - (intOf iv).toNat)
  case atStart => exact ⟨0, by omega, rfl, hide (FactsL.nil _ _ _), hide (Below.refl _ _)⟩
  case round =>
    obtain ⟨i, hi, rfl, hL, hB⟩ := hrel
    by_cases hil : i < p.n
    · have hil' : (i : Int) < (p.n : Int) := by omega
      have k2 : wr.cell? ⟨pb, 2, none⟩ = some (.func fI aI cI) := (hB.out.cell (p := ⟨pb, 2, none⟩) hpb.out.2).trans ((cell_of_row _ _ _ _ _ _ hP1.out).trans rfl)
      obtain ⟨al, cl, rfl⟩ := hL.out.slice
      have hcall := hide (HF.out.first wr (hB1.out.trans (hB.out.mono hB1.out.size)) i hil)
      go_wp2_with (refine wpList_callv rfl (.tmp 38) #[.tmp 39] #[3] rfl (.func fI aI cI) rfl #[.int .i64 (i : Int)] (by simp [Act.eval]) ?_)
      refine hcall.out.mono ?_
      rintro e w2 ⟨u, rfl, hu, hB2⟩
      refine ⟨_, rfl, ?_⟩
      have HU := hide hu
      have hO2 := hide (hL.out.below hB2)
      have HB2 := hide (bel_of hB.out hB2)
      clear hu hB2 hcall k2
      go_wp2_with (first | (refine wpList_one rfl (.tmp 40) rfl rfl HU.out ?_; intro h w3 h3) | (at_builtin; go_must (refine wpList_snoc (.tmp 36) (.tmp 41) rfl rfl (hO2.out.below h3.out.2.2) h3.out.1 rfl rfl (by omega) (by have := HB2.out.size; have := h3.out.2.2.size; omega) ?_)))
      intro v' w4 hL4 hg4
      have HB4 := hide ((bel_of HB2.out h3.out.2.2).grown hg4.out (bel_of HB2.out h3.out.2.2).size (fun k e => (hO2.out.lt k e).1))
      obtain ⟨a4, c4, rfl⟩ := hL4.out.slice
      clear h3 hg4
      go_wp2_with fail
      go_roundw
      case rel => exact ⟨i + 1, by omega, by go_num, hL4, HB4⟩
      case measure => simp [intOf]; omega
    · obtain rfl : i = p.n := by omega
      obtain ⟨g, cap, rfl, hg1, hg2, hFA⟩ := hL.out.at h0
      have k1 : wr.cell? ⟨pb, 1, none⟩ = some (.func fF aF cF) := (hB.out.cell (p := ⟨pb, 1, none⟩) hpb.out.2).trans ((cell_of_row _ _ _ _ _ _ hP1.out).trans rfl)
      have hwr : Hid (Below w.heap.size w wr) := hide (hB1.out.trans (hB.out.mono hB1.out.size))
      have hFrm : Hid (FromOk wr (.func fF aF cF) p.n p.frm) := hide (fun W hW b hb => HF.out.frm W (hwr.out.trans (hW.mono hwr.out.size)) b hb)
      have hPr : Hid (wr.heap[pb]? = some (.cells #[.int .i64 (p.n : Int), (.func fF aF cF), (.func fI aI cI), (.func fJ aJ cJ), (.func fP aP cP)] 62 (0, 0))) := hide ((hB.out.block pb hpb.out.2).trans hP1.out)
      have hgr := hide (⟨hg1, hg2⟩ : _ ∧ _)
      have hFr := hide hFA
      clear hg1 hg2 hFA hL
      go_wp2_with (first | (go_at_call 40; refine (ways_any wr _ p.n p.frm hn hFrm.out (fun b hb a ha => HOK.out.frm_lt b hb a ha) HLEN.out).mono ?_; rintro e w3 ⟨gf, gt, Vf, Vt, T, rfl, hWs, hTo⟩; have HWs := hide hWs; have HTo := hide hTo; clear hWs hTo k1) | (refine Bg.wpList_newv 7 rfl rfl 85 rfl (.agg #[.slice none 0 0, .map none]) z85 ?_; intro q w4 h4))
      have hQ4 : Hid (Que w3.heap.size w4 q 0 (List.range 0)) := hide (que_new' h4.out.2.1 (by rw [h4.out.1]; exact Nat.le_refl _))
      have hC4 : Hid (Bg.Chg (Own w3 g) w3 w4) := hide ((Bg.Chg.gb0 (S := Own w3 g) (Bg.gb_at h4.out)))
      have hF3 : Hid (FactsAt w3 g p.n p.first) := hide (hFr.out.below HWs.out.below)
      have hg3 : Hid (g < w3.heap.size) := hide (by have := HWs.out.below.size; have := hgr.out.2; omega)
      have hF4 : Hid (FactsAt w4 g p.n p.first) := hide (hF3.out.below (Bg.gb_to (Bg.gb_at h4.out)))
      have hq : Hid (q = w3.heap.size) := hide h4.out.1
      clear h4
      go_loopw [8, 54] (fun _ iv wq => ∃ (i N : Nat), i ≤ p.n ∧ iv = .int .i64 i ∧ N ≤ i ∧ Hid (Que w3.heap.size wq q N (List.range i)) ∧ Hid (Bg.Chg (Own w3 g) w3 wq) ∧ Hid (FactsAt wq g p.n p.first)) (fun _ iv _ => p.n - (intOf iv).toNat)
      case atStart => exact ⟨0, 0, by omega, rfl, by omega, hQ4, hC4, hF4⟩
      case round =>
        rename World => wq
        obtain ⟨i, N, hi, rfl, hN, hQ, hC, hFq⟩ := hrel
        by_cases hil : i < p.n
        · have hil' : (i : Int) < (p.n : Int) := by omega
          have hput := hide (que_put hQ.out i (by omega) (by unfold maxLen; omega) (by rw [List.length_range]; omega) hC.out.size)
          go_wp2_with (go_at_call 41; refine hput.out.mono ?_; rintro e w5 ⟨rb, rfl, hQ5, hC5⟩)
          rw [put1_range] at hQ5
          have HQ5 := hide hQ5
          have HC5 := hide (own_trans hC.out hC5 (fun j h1 h2 => by omega))
          have HF5 := hide (facts_chg hFq.out hC5 hg3.out (Nat.lt_of_lt_of_le hg3.out hC.out.size))
          clear hQ5 hC5 hput
          go_wp2_with fail
          go_roundw
          case rel => exact ⟨i + 1, N + 1, by omega, by go_num, by omega, HQ5, HC5, HF5⟩
          case measure => simp [intOf]; omega
        · obtain rfl : i = p.n := by omega
          have hR0 : Hid (∃ M, RM w3 p m g q (m p.first * (p.n + 1) + p.n) wq M) := hide ⟨_, p.first, List.range p.n, N, by rw [List.length_range], Nat.le_refl _, by omega, p.come_first, Fl.Settled.start _ _ (fun x hx => List.mem_range.2 hx), fun x hx => List.mem_range.1 hx, hFq.out, hQ.out, hC.out⟩
          have hw3 : Hid (Below w.heap.size w w3) := hide (hwr.out.trans (HWs.out.below.mono hwr.out.size))
          have hP3 : Hid (w3.heap[pb]? = some (.cells #[.int .i64 (p.n : Int), (.func fF aF cF), (.func fI aI cI), (.func fJ aJ cJ), (.func fP aP cP)] 62 (0, 0))) := hide ((HWs.out.below.block pb (Array.getElem?_eq_some_iff.1 hPr.out).1).trans hPr.out)
          have hpg : Hid (pb < g ∧ pb < w3.heap.size ∧ w.heap.size ≤ g) := hide (by have := hpb.out; have := hgr.out; have := hg3.out; omega)
          generalize m p.first * (p.n + 1) + p.n = M0 at *
          clear hC hFq hQ hQ4 hC4 hF4 hF3 hFr hB1 hP1 hB hPr hFrm
          go_wp2_with fail
          go_loopw [9, 10, 12] (fun _ _ _ wz => Hid (∃ M, RM w3 p m g q M0 wz M)) (fun _ _ _ wz => Fl.mu (RM w3 p m g q M0 wz))
          case atStart => exact hR0
          case round =>
            rename World => wz
            obtain ⟨fs, ql, N, hMe, hMM, hN, hCome, hSet, hlt, hFA, hQue, hC⟩ := Fl.mu_at hrel.out
            have HS := hide hSet
            have HC := hide hCome
            have HL := hide hlt
            have HFA := hide hFA
            have HQ := hide hQue
            have HCh := hide hC
            have HME := hide hMe
            have HNB := hide hN
            have HMM := hide hMM
            clear hMe hSet hCome hlt hFA hQue hC hrel hN hMM
            cases ql with
            | nil =>
              go_wp2_with (go_at_call 42; refine (que_len HQ.out).mono ?_; rintro e w5 ⟨rfl, rfl⟩)
              go_ret
              exact ⟨g, cap, fs, rfl, hpg.out.2.2, HC.out, HS.out.still, HFA.out, own_below HCh.out hw3.out hpg.out.2.2⟩
            | cons x r =>
              have hxn := HL.out x (by simp)
              have hpos : (0 : Int) < (((x :: r).length : Nat) : Int) := by simp only [List.length_cons]; omega
              have hpos' : 0 < (x :: r).length := by simp
              have htake := hide (que_take HQ.out (by omega))
              go_wp2_with (first | (go_at_call 42; refine (que_len HQ.out).mono ?_; rintro e w5 ⟨rfl, rfl⟩) | (go_at_call 43; refine htake.out.mono ?_; rintro e w5 ⟨rfl, hQ5, hC5⟩))
              have HQ5 := hide hQ5
              have HC5 := hide (own_trans HCh.out hC5 (fun j h1 h2 => by omega))
              have HF5 := hide (facts_chg HFA.out hC5 hg3.out (Nat.lt_of_lt_of_le hg3.out HCh.out.size))
              clear hQ5 hC5 htake
              have HT5 := hide (tabs HWs.out hgr.out.2 HC5.out)
              have hrow5 := HT5.out.1.row x hxn
              simp only [frI_end p.frm hxn] at hrow5
              refine r18_ok HF.out HOK.out HLEN.out g cap x gf _ pb fs (Vf x) 62 rfl rfl rfl rfl rfl ((HC5.out.block pb hpg.out.2.1 (fun e => by have := hpg.out; omega)).trans hP3.out) (own_below HC5.out hw3.out hpg.out.2.2) hpg.out.2.2 HC.out hxn HF5.out (HT5.out.1.at x hxn).1 hrow5 (fun e => by have := (hrow5.lt g e).1; have := hgr.out.2; omega) ?_
              intro s W gs ch hs74 hSw hFW hgW
              have HSw := hide hSw
              have HFW := hide hFW
              have HCW := hide (own_trans HC5.out (Bg.Chg.of_gb hgW) (fun j h1 h2 => by simpa using h2))
              have HQW := hide (HQ5.out.chg (Bg.Chg.of_gb hgW) (fun j e => by have := hg3.out; simp at e; omega))
              clear hSw hFW hgW hrow5
              cases ch with
              | false =>
                simp [overlay, dstsOf, ops_r18, hs74]
                clear hs74
                have hR6 : RM w3 p m g q M0 W (m gs * (p.n + 1) + r.length) := by
                  obtain ⟨e1, _⟩ := HSw.out.no rfl
                  have h1 := HME.out
                  have h2 := HMM.out
                  have h3 := HNB.out
                  rw [h1] at h2 h3
                  simp only [List.length_cons] at h2 h3
                  refine ⟨gs, r, N, rfl, ?_, ?_, HSw.out.come, HS.out.no HSw.out, fun y hy => HL.out y (by simp [hy]), HFW.out, HQW.out, HCW.out⟩
                  · rw [e1]; omega
                  · rw [e1]; exact num_no h3
                have HR6 := hide hR6
                have hmu := hide (Fl.mu_le hR6)
                have e1 := hide (HSw.out.no rfl).1
                clear hR6
                go_wp2_with fail
                go_roundw
                case rel => exact hide ⟨_, HR6.out⟩
                case measure =>
                  have h1 := HME.out
                  have h2 := hmu.out
                  rw [e1.out] at h2
                  simp only [List.length_cons] at h1
                  omega
              | true =>
                simp [overlay, dstsOf, ops_r18, hs74]
                clear hs74
                have hmx := hide (num_max HNB.out hM0)
                have hql := hide (Fl.nodup_len HQW.out.nodup (fun y hy => HL.out y (by simp [hy])))
                have hput := hide (que_put HQW.out x (by omega) (by have := hmx.out; omega) (by have := hql.out; omega) HCW.out.size)
                go_wp2_with (go_at_call 41; refine hput.out.mono ?_; rintro e w7 ⟨rb, rfl, hQ7, hC7⟩; have HQ7 := hide hQ7; have HC7 := hide (own_trans HCW.out hC7 (fun j h1 h2 => by omega)); have HF7 := hide (facts_chg HFW.out hC7 hg3.out (Nat.lt_of_lt_of_le hg3.out HCW.out.size)); have HT7 := hide (tabs HWs.out hgr.out.2 HC7.out); obtain ⟨c1, c2⟩ := HT7.out.2.at x hxn; have hrow7 := HT7.out.2.row x hxn; obtain ⟨aT, cT, hvT⟩ := hrow7.slice; rw [List.length_map] at hvT; rw [hvT] at c1 hrow7; have HVT := hide hvT; clear hQ7 hC7 hvT hrow7)
                have htl := HTo.out.len x
                have HTL := hide (show (T x).length ≤ 100000 by omega)
                have htl' := HTL.out
                clear htl hput HT7
                go_loopw [12, 82] (fun _ jv wy => ∃ (j N' : Nat) (q' : List Nat), j ≤ (T x).length ∧ jv = .int .i64 j ∧ N' ≤ N + 1 + j ∧ Hid (Que w3.heap.size wy q N' q') ∧ Hid ((∀ y, (y ∈ r ∨ y = x ∨ y ∈ (T x).take j) → y ∈ q') ∧ ∀ y ∈ q', y < p.n) ∧ Hid (FactsAt wy g p.n gs) ∧ Hid (Bg.Chg (Own w3 g) w3 wy)) (fun _ jv _ => (T x).length - (intOf jv).toNat)
                case atStart =>
                  refine ⟨0, N + 1, _, by omega, rfl, by omega, HQ7, hide ⟨fun y hy => ?_, fun y hy => ?_⟩, HF7, HC7⟩
                  · rcases hy with e | e | e
                    · exact put1_sub e
                    · rw [e]; exact put1_self _ _
                    · simp at e
                  · rcases put1_mem hy with e | e
                    · exact HL.out y (by simp [e])
                    · rw [e]; exact hxn
                case round =>
                  rename World => wy
                  obtain ⟨j, N', q', hj, rfl, hN', HQy, HSy, HFy, HCy⟩ := hrel
                  by_cases hjl : j < (T x).length
                  · have hjl' : (j : Int) < ((T x).length : Int) := by omega
                    have hrowy := (tabs HWs.out hgr.out.2 HCy.out).2.row x hxn
                    rw [HVT.out] at hrowy
                    obtain ⟨gu, ou, rfl, hcu⟩ := hrowy.v.at j (by rw [List.length_map]; exact hjl)
                    rw [ci_getD hjl] at hcu
                    have hzn := HTo.out.lt x ((T x).getD j 0) (by rw [getD_get _ _ _ hjl]; exact List.getElem_mem hjl)
                    have htk := hide (show (T x).take (j + 1) = (T x).take j ++ [(T x).getD j 0] by rw [getD_get _ _ _ hjl, List.take_succ_eq_append_getElem hjl])
                    generalize (T x).getD j 0 = z at *
                    have hql2 := hide (Fl.nodup_len HQy.out.nodup HSy.out.2)
                    have hput := hide (que_put HQy.out z (by omega) (by have := hmx.out; omega) (by have := hql2.out; omega) HCy.out.size)
                    clear hrowy
                    go_wp2_with (go_at_call 41; refine hput.out.mono ?_; rintro e w8 ⟨rb, rfl, hQ8, hC8⟩)
                    have HQ8 := hide hQ8
                    have HC8 := hide (own_trans HCy.out hC8 (fun j h1 h2 => by omega))
                    have HF8 := hide (facts_chg HFy.out hC8 hg3.out (Nat.lt_of_lt_of_le hg3.out HCy.out.size))
                    have HS8 : Hid ((∀ y, (y ∈ r ∨ y = x ∨ y ∈ (T x).take (j + 1)) → y ∈ put1 q' z) ∧ ∀ y ∈ put1 q' z, y < p.n) := hide ⟨fun y hy => by
                      rw [htk.out] at hy
                      rcases hy with e | e | e
                      · exact put1_sub (HSy.out.1 y (.inl e))
                      · exact put1_sub (HSy.out.1 y (.inr (.inl e)))
                      · rcases List.mem_append.1 e with e | e
                        · exact put1_sub (HSy.out.1 y (.inr (.inr e)))
                        · simp at e
                          rw [e]
                          exact put1_self _ _, fun y hy => by
                      rcases put1_mem hy with e | e
                      · exact HSy.out.2 y e
                      · rw [e]; exact hzn⟩
                    clear hQ8 hC8 hput
                    go_wp2_with fail
                    go_roundw
                    case rel => exact ⟨j + 1, N' + 1, _, by omega, by go_num, by omega, HQ8, HS8, HF8, HC8⟩
                    case measure => simp [intOf]; omega
                  · obtain rfl : j = (T x).length := by omega
                    have hR9 : RM w3 p m g q M0 wy (m gs * (p.n + 1) + q'.length) := by
                      have h1 := HME.out
                      have h2 := HMM.out
                      have h3 := HNB.out
                      rw [h1] at h2 h3
                      simp only [List.length_cons] at h2 h3
                      have hl := Fl.nodup_len HQy.out.nodup HSy.out.2
                      have hlt := num_less (k := r.length) (HSw.out.yes rfl) hl
                      refine ⟨gs, q', N', rfl, by omega, num_yes h3 hN' HTL.out hlt h2, HSw.out.come, HS.out.yes HSw.out (HSy.out.1 x (.inr (.inl rfl))) (fun y hy => HSy.out.1 y (.inl hy)) (fun y hy hm => HSy.out.1 y (.inr (.inr (by rw [List.take_length]; exact HTo.out.old y hy x hm)))), HSy.out.2, HFy.out, HQy.out, HCy.out⟩
                    have HR9 := hide hR9
                    have hmu := hide (Fl.mu_le hR9)
                    have hlt := hide (num_less (k := r.length) (HSw.out.yes rfl) (Fl.nodup_len HQy.out.nodup HSy.out.2))
                    clear hR9
                    go_wp2_with fail
                    go_roundw
                    case rel => exact hide ⟨_, HR9.out⟩
                    case measure =>
                      have h1 := HME.out
                      have h2 := hmu.out
                      have h3 := hlt.out
                      simp only [List.length_cons] at h1
                      omega
end Go.Proofs.Ytblcbccchlljhaa.I
