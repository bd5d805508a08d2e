/- The code's ways: of each block those from which facts come, and those to which its own go. -/
import Derived.Test.YtblcbccchlljhaaW1
import Derived.OwnWalk
namespace Go.Proofs.Ytblcbccchlljhaa
open Go.RowKit Ir Wy

/-- From, called in any world that leaves what was there, answers a new row. -/
def FromOk (w0 : World) (vF : Value) (n : Nat) (frm : Nat → List Nat) : Prop := ∀ W, Below w0.heap.size w0 W → ∀ b, b < n → CallV vF #[.int .i64 (b : Int)] W fun e W' => ∃ u, e = .returned u ∧ ArgsO W.heap.size W' u (ci (frm b)) ∧ Below W.heap.size W W'
/-- Behind i blocks and j of the next one's. -/
def frI (frm : Nat → List Nat) (i j b : Nat) : List Nat := if b < i then frm b else if b = i then (frm b).take j else []
structure Too (n : Nat) (frm : Nat → List Nat) (i j : Nat) (T : Nat → List Nat) : Prop where
  old : ∀ b, b < i → ∀ a ∈ frm b, b ∈ T a
  new : ∀ a ∈ (frm i).take j, i ∈ T a
  lt : ∀ a, ∀ b ∈ T a, b < n
  len : ∀ a, (T a).length ≤ 1000 * i + j
theorem Too.start (n : Nat) (frm : Nat → List Nat) : Too n frm 0 0 (fun _ => []) := ⟨fun b hb => by omega, fun a ha => by simp at ha, fun _ _ h => by simp at h, fun _ => by simp⟩
theorem Too.step {n i j : Nat} {frm : Nat → List Nat} {T : Nat → List Nat} (h : Too n frm i j T) (hi : i < n) (hj : j < (frm i).length) : Too n frm i (j + 1) (upV T ((frm i).getD j 0) (T ((frm i).getD j 0) ++ [i])) := by
  have sub : ∀ a b, b ∈ T a → b ∈ upV T ((frm i).getD j 0) (T ((frm i).getD j 0) ++ [i]) a := by
    intro a b hb
    by_cases e : a = (frm i).getD j 0
    · rw [e] at hb ⊢
      rw [upV_same]
      exact List.mem_append.2 (.inl hb)
    · rw [upV_ne _ _ e]
      exact hb
  refine ⟨fun b hb a ha => sub a b (h.old b hb a ha), fun a ha => ?_, fun a b hb => ?_, fun a => ?_⟩
  · rw [List.take_succ_eq_append_getElem hj] at ha
    rcases List.mem_append.1 ha with q | q
    · exact sub a i (h.new a q)
    · simp only [List.mem_singleton] at q
      rw [q, getD_get _ _ _ hj, upV_same]
      simp
  · by_cases e : a = (frm i).getD j 0
    · rw [e, upV_same] at hb
      rcases List.mem_append.1 hb with q | q
      · exact h.lt _ b q
      · simp at q; omega
    · rw [upV_ne _ _ e] at hb
      exact h.lt a b hb
  · by_cases e : a = (frm i).getD j 0
    · rw [e, upV_same, List.length_append, List.length_singleton]
      have := h.len ((frm i).getD j 0)
      omega
    · rw [upV_ne _ _ e]
      have := h.len a
      omega
theorem Too.all {n i : Nat} {frm : Nat → List Nat} {T : Nat → List Nat} (h : Too n frm i (frm i).length T) (hl : (frm i).length ≤ 1000) : Too n frm (i + 1) 0 T := by
  refine ⟨fun b hb a ha => ?_, fun a ha => by simp at ha, h.lt, fun a => by have := h.len a; omega⟩
  by_cases e : b = i
  · subst e
    exact h.new a (by rw [List.take_length]; exact ha)
  · exact h.old b (by omega) a ha
theorem frI_zero (frm : Nat → List Nat) : frI frm 0 0 = fun _ => [] := by
  funext b
  simp only [frI]
  split
  · omega
  · split <;> simp
theorem frI_all (frm : Nat → List Nat) (i : Nat) : frI frm i (frm i).length = frI frm (i + 1) 0 := by
  funext b
  simp only [frI]
  by_cases h : b < i
  · rw [if_pos h, if_pos (by omega)]
  · rw [if_neg h]
    by_cases e : b = i
    · subst e
      rw [if_pos rfl, if_pos (by omega), List.take_length]
    · rw [if_neg e, if_neg (by omega)]
      split <;> simp
theorem frI_end (frm : Nat → List Nat) {n b : Nat} (h : b < n) : frI frm n 0 b = frm b := if_pos h
theorem frI_at (frm : Nat → List Nat) (i j : Nat) : frI frm i j i = (frm i).take j := by simp [frI]
theorem frI_up (frm : Nat → List Nat) {i j : Nat} (hj : j < (frm i).length) : upV (fun b => ci (frI frm i j b)) i (ci (frI frm i j i) ++ [(((frm i).getD j 0 : Nat) : Int)]) = fun b => ci (frI frm i (j + 1) b) := by
  funext b
  by_cases e : b = i
  · subst e
    rw [upV_same, frI_at]
    show _ = ci (frI frm b (j + 1) b)
    rw [frI_at, List.take_succ_eq_append_getElem hj, getD_get _ _ _ hj]
    simp only [ci, List.map_append, List.map_cons, List.map_nil]
  · rw [upV_ne _ _ e]
    show ci _ = ci _
    unfold frI
    by_cases h : b < i
    · rw [if_pos h, if_pos h]
    · rw [if_neg h, if_neg h, if_neg e, if_neg e]
theorem ci_up (T : Nat → List Nat) (x i : Nat) : upV (fun a => ci (T a)) x (ci (T x) ++ [(i : Int)]) = fun a => ci (upV T x (T x ++ [i]) a) := by
  funext a
  by_cases e : a = x
  · subst e
    rw [upV_same]
    show _ = ci _
    rw [upV_same]
    simp only [ci, List.map_append, List.map_cons, List.map_nil]
  · rw [upV_ne _ _ e]
    show _ = ci _
    rw [upV_ne _ _ e]
theorem ci_getD {l : List Nat} {j : Nat} (h : j < l.length) : (ci l).getD j 0 = ((l.getD j 0 : Nat) : Int) := by
  simp [ci, h]
set_option maxHeartbeats 4000000 in
set_option maxRecDepth 100000 in
theorem ways_any (w : World) (vF : Value) (n : Nat) (frm : Nat → List Nat) (h0 : n ≤ 100) (hF : FromOk w vF n frm) (hlt : ∀ b, b < n → ∀ a ∈ frm b, a < n) (hlen : ∀ b, b < n → (frm b).length ≤ 1000) :
    Calls Try.prog 40 #[.int .i64 (n : Int), vF] w fun e w' => ∃ gf gt Vf Vt T, e = .returned (.tuple #[.slice (some ⟨gf, 0, none⟩) n n, .slice (some ⟨gt, 0, none⟩) n n]) ∧ Wst w gf gt n w' Vf Vt (fun b => ci (frI frm n 0 b)) (fun a => ci (T a)) ∧ Too n frm n 0 T := by
  have HF := hide hF
  have HLT := hide hlt
  have HLEN := hide hlen
  clear hF hlt hlen
  go_enter Try.func40, Try.ntmps40
  go_wp2_with fail
  refine w1_ok n (by omega) rfl rfl ?_
  intro s w1 gf gt hs4 hs5 hne hf0 ht0 hRf hRt hB1
  have HW1 : Hid (Wst w gf gt n w1 (fun _ => .slice none 0 0) (fun _ => .slice none 0 0) (fun b => ci (frI frm 0 0 b)) (fun _ => ci [])) := hide ⟨by rw [frI_zero]; exact hRf _, hRt _, hne, fun a b _ _ k hk => by simp [Value.ownBlock] at hk, hB1, hf0, ht0⟩
  clear hne hf0 ht0 hRf hRt hB1
  simp [overlay, dstsOf, ops_w1, hs4, hs5]
  clear hs4 hs5
  go_wp2_with fail
  go_loopw [6, 8, 14] (fun _ _ iv wr => ∃ (i : Nat) (Vf Vt : Nat → Value) (T : Nat → List Nat), i ≤ n ∧ iv = .int .i64 i ∧ Hid (Wst w gf gt n wr Vf Vt (fun b => ci (frI frm i 0 b)) (fun a => ci (T a))) ∧ Hid (Too n frm i 0 T)) (fun _ _ iv _ => n - (intOf iv).toNat)
  case atStart => exact ⟨0, _, _, _, by omega, rfl, HW1, hide (Too.start n frm)⟩
  case round =>
    obtain ⟨i, Vf, Vt, T, hi, rfl, HW, HT⟩ := hrel
    by_cases hil : i < n
    · have hil' : (i : Int) < (n : Int) := by omega
      have hcall := HF.out wr HW.out.below i hil
      have HLi := hide (HLT.out i hil)
      have hni := HLEN.out i hil
      go_wp2_with (refine wpList_callv rfl (.tmp 17) #[.tmp 18] #[3] rfl vF rfl #[.int .i64 (i : Int)] (by simp [Act.eval]) ?_)
      refine hcall.mono ?_
      rintro e w2 ⟨u, rfl, hu, hB2⟩
      have HU2 := hide (HW.out.urow hu)
      have HW2 := hide (HW.out.grow hB2)
      obtain ⟨au, cu, rfl⟩ := hu.slice
      clear hcall hu hB2
      have hlc : (ci (frm i)).length = (frm i).length := List.length_map _
      rw [hlc] at HU2 ⊢
      refine ⟨_, rfl, ?_⟩
      go_wp2_with fail
      go_loopw [8, 21] (fun _ jv wq => ∃ (j : Nat) (Vf Vt : Nat → Value) (T : Nat → List Nat), j ≤ (frm i).length ∧ jv = .int .i64 j ∧ Hid (Wst w gf gt n wq Vf Vt (fun b => ci (frI frm i j b)) (fun a => ci (T a))) ∧ Hid (Too n frm i j T) ∧ Hid (Urow wr.heap.size n wq (.slice au (frm i).length cu) (ci (frm i)) Vf Vt)) (fun _ jv _ => (frm i).length - (intOf jv).toNat)
      case atStart => exact ⟨0, _, _, _, by omega, rfl, HW2, HT, HU2⟩
      case round =>
        rename World => wq
        obtain ⟨j, Vf, Vt, T, hj, rfl, HWq, HTq, HUq⟩ := hrel
        by_cases hjl : j < (frm i).length
        · have hjl' : (j : Int) < ((frm i).length : Int) := by omega
          obtain ⟨gu, ou, rfl, hcu⟩ := HUq.out.own.v.at j (by rw [hlc]; exact hjl)
          rw [ci_getD hjl] at hcu
          have HFU := hide (frI_up frm hjl)
          have HTS := hide (HTq.out.step hil hjl)
          have hxn := HLi.out ((frm i).getD j 0) (by rw [getD_get _ _ _ hjl]; exact List.getElem_mem hjl)
          generalize (frm i).getD j 0 = x at *
          have hx0 : decide ((x : Int) < 0) = false := by simp only [decide_eq_false_iff_not]; omega
          have hx1 : decide (n ≤ x) = false := by simp only [decide_eq_false_iff_not]; omega
          have hxn' : (x : Int) < (n : Int) := by omega
          have HXN := hide hxn
          clear hxn
          have hcx := hide (show (ci (T x)).length ≤ 1000000 by rw [List.length_map]; have := HTq.out.len x; omega)
          obtain ⟨q1, q2⟩ := HWq.out.f.at i hil
          have hOx := HWq.out.f.row i hil
          have hcl : (ci (frI frm i j i)).length ≤ 1000000 := by rw [frI_at, List.length_map, List.length_take]; omega
          generalize hLe : ci (frI frm i j i) = L at hOx HFU hcl
          obtain ⟨aX, cX, hvx⟩ := hOx.slice
          have hO4 := hOx.below (bel1' wq (.cells #[.int .i64 (x : Int)] 3))
          have hn := heap_alloc_new wq (.cells #[.int .i64 (x : Int)] 3)
          have HVX := hide hvx
          rw [hvx] at q1 hO4
          clear hvx hOx hLe
          go_wp2_with (at_builtin; go_must (refine snoc_int (B := w.heap.size) (.tmp 37) (.tmp 39) rfl rfl hO4 hn rfl rfl hcl (by have := HWq.out.below.size; simp; omega) ?_))
          intro v5 w5 hO5 hg5 how5
          rw [← HVX.out] at hg5 how5
          obtain ⟨S1, S2, q3, q4⟩ := HWq.out.snoc HUq.out hil hg5 hO5 (by simpa only [World.size_alloc] using how5)
          rw [HFU.out] at S1
          rw [HVX.out] at q3
          have HS1 := hide S1
          have HS2 := hide S2
          obtain ⟨a5, c5, hv5⟩ := hO5.slice
          subst hv5
          rw [show (L ++ [(x : Int)]).length = L.length + 1 by simp] at HS1 HS2
          clear S1 S2 hO5 hg5 how5 hn hO4 q1 q2 hcl
          have HW6 : Hid (w5.setCell ⟨gf, i, none⟩ (.slice a5 (L.length + 1) c5) = w5.setCell ⟨gf, i, none⟩ (.slice a5 (L.length + 1) c5)) := hide rfl
          obtain ⟨p1, p2⟩ := HS1.out.t.at x HXN.out
          have hOy := HS1.out.t.row x HXN.out
          have hcl2 := hcx.out
          have HCU := hide (ci_up T x i)
          have HS3 := hide HS1.out.below.size
          generalize hLe : ci (T x) = L2 at hOy HCU hcl2
          obtain ⟨aY, cY, hvy⟩ := hOy.slice
          have hO6 := hOy.below (bel1' (w5.setCell ⟨gf, i, none⟩ (.slice a5 (L.length + 1) c5)) (.cells #[.int .i64 (i : Int)] 3))
          have hn6 := heap_alloc_new (w5.setCell ⟨gf, i, none⟩ (.slice a5 (L.length + 1) c5)) (.cells #[.int .i64 (i : Int)] 3)
          have HVY := hide hvy
          rw [hvy] at p1 hO6
          have hsz : (w5.setCell ⟨gf, i, none⟩ (.slice a5 (L.length + 1) c5)).heap.size = w5.heap.size := by simp
          rw [hsz] at hn6
          clear hvy hOy hLe HW6 hsz
          go_wp2_with (at_builtin; go_must (refine snoc_int (B := w.heap.size) (.tmp 47) (.tmp 49) rfl rfl hO6 hn6 rfl rfl hcl2 (by have := HS3.out; simp at this ⊢; omega) ?_))
          intro v7 w7 hO7 hg7 how7
          rw [← HVY.out] at hg7 how7
          obtain ⟨S1, S2, q7, q8⟩ := HS1.out.swap.snoc HS2.out.swap HXN.out hg7 hO7 (by simpa using how7)
          rw [HCU.out] at S1
          rw [HVY.out] at q7
          have HS5 := hide S1.swap
          have HS6 := hide S2.swap
          obtain ⟨a7, c7, hv7⟩ := hO7.slice
          subst hv7
          rw [show (L2 ++ [(i : Int)]).length = L2.length + 1 by simp] at HS5 HS6
          clear S1 S2 hO7 hg7 how7 hn6 hO6 p1 p2 hcl2 q3 q4
          go_wp2_with fail
          go_roundw
          case rel => exact ⟨j + 1, _, _, _, by omega, by go_num, HS5, HTS, HS6⟩
          case measure => simp [intOf]; omega
        · obtain rfl : j = (frm i).length := by omega
          have HW3 := HWq.out
          rw [frI_all] at HW3
          have HW4 := hide HW3
          have HT4 := hide (HTq.out.all hni)
          clear HW3
          go_wp2_with fail
          go_roundw
          case rel => exact ⟨i + 1, _, _, _, by omega, by go_num, HW4, HT4⟩
          case measure => simp [intOf]; omega
    · obtain rfl : i = n := by omega
      go_wp2_with fail
      go_ret2
      exact ⟨gf, gt, Vf, Vt, T, rfl, HW.out, HT.out⟩
end Go.Proofs.Ytblcbccchlljhaa
