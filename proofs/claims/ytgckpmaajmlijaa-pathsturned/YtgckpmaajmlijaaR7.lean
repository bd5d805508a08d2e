/- The code's Order and Reach. -/
import Derived.Test.YtgckpmaajmlijaaR5
import Derived.Test.YtgckpmaajmlijaaR6
import Derived.Laws.EntriesVeiled
namespace Go.Proofs.Ytgckpmaajmlijaa
open Go.RowKit Ir Wy

theorem ofL_zero : Bg.ofL [0] = mk (fun _ => false) 0 := by
  funext y
  simp [Bg.ofL, Bg.ins, Bg.inS, mk]
set_option maxHeartbeats 1000000 in
set_option maxRecDepth 100000 in
theorem order_any (w : World) (lv : Value) (es : List En) (H0 : EndsV w lv es) (hin : EndsIn es) (h0 : 0 < es.length) (hn : es.length ≤ 1000) :
    Calls Try.prog 13 #[lv] w fun e w' => ∃ u, e = .returned u ∧ ArgsO w.heap.size w' u (ci (ordD (nxE es) es.length)) ∧ Below w.heap.size w w' := by
  obtain ⟨ao, c, rfl⟩ := H0.slice
  have hlen : Hid ((ci (rowD (nxE es) es.length)).length ≤ 1000) := by
    obtain ⟨h1, _⟩ := dn_len (hin.nx) (f := es.length) (b := 0) (s := ([], fun _ => false)) h0 rfl (by rw [left_none]; exact Nat.le_refl _)
    have hl := left_none es.length
    show (ci (rowD _ _)).length ≤ 1000
    rw [List.length_map]
    simp only [List.length_nil] at h1
    unfold rowD
    omega
  have hmf : ∀ (fn : Fn) (first cap : Array Value) (w : World), (Instr.makeFunc fn first cap).run Try.prog w = .ok (.func fn first cap) w := fun _ _ _ _ => rfl
  have hof : Hid (∀ W : World, Calls Try.prog 25 #[.slice (some ⟨W.heap.size, 0, none⟩) 1 1] (W.alloc (.cells #[.int .i64 0] 3)) fun e w' => ∃ u, e = .returned u ∧ Bg.SetV u (mk (fun _ => false) 0) ∧ W.grownBy w' none) := by
    intro W
    have hI : IntsV (W.alloc (.cells #[.int .i64 0] 3)) (.slice (some ⟨W.heap.size, 0, none⟩) 1 1) [0] := (args_one W W.heap.size (Nat.le_refl _) 0).v
    refine (Bg.of_any _ [0] _ hI (by simp)).mono ?_
    rintro e w' ⟨u, rfl, h1, h2⟩
    rw [ofL_zero] at h1
    exact ⟨u, rfl, h1, (Bg.gb_of (bel1' W (.cells #[.int .i64 0] 3))).trans h2⟩
  have hof1 := hof.out (w.alloc (.cells #[.slice ao es.length c] 26))
  simp only [World.size_alloc] at hof1
  have HOF := hide hof1
  have hp1 := heap_alloc_new w (.cells #[.slice ao es.length c] 26)
  have hB1 := bel1' w (.cells #[.slice ao es.length c] 26)
  have HP1 := hide hp1
  have HB1 := hide hB1
  clear hp1 hB1 hof hof1
  go_enter Try.func13, Try.ntmps13
  go_wp2_with fail
  refine HOF.out.mono ?_
  rintro r w2 ⟨u, rfl, ⟨cs, rfl, hcs⟩, hg2⟩
  have HG2 := hide hg2
  have HC := hide hcs
  clear hg2 HOF
  go_wp2_with (first | (refine Bg.wpList_var 35 3 rfl rfl rfl rfl (.tmp 7) rfl rfl Bg.z64 cs Bg.z27 (by simp) rfl (by rw [HC.out.1]; exact Bg.info27) (by rw [HC.out.1]; rfl) HC.out.cells ?_; intro s w3 h3))
  obtain ⟨hs2, hs3, hB3⟩ := h3.out
  have hbx1 := bel1' w3 (.cells #[.slice none 0 0] 40)
  have hbx2 := bel1' (w3.alloc (.cells #[.slice none 0 0] 40)) (.cells #[downV w.heap.size s (w3.heap.size + 1) w3.heap.size] 69)
  have hr4 := heap_alloc_new w3 (.cells #[.slice none 0 0] 40)
  have hd4 := heap_alloc_new (w3.alloc (.cells #[.slice none 0 0] 40)) (.cells #[downV w.heap.size s (w3.heap.size + 1) w3.heap.size] 69)
  rw [World.size_alloc] at hd4
  have hB2 : Below w.heap.size w w2 := HB1.out.grown HG2.out HB1.out.size (fun k e => by simp at e)
  have hl2 : w2.heap[w.heap.size]? = some (.cells #[.slice ao es.length c] 26 (0, 0)) := (HG2.out.block _ (heap_lt HP1.out) (by simp)).trans HP1.out
  have hB3' : Below w2.heap.size w2 w3 := hs2 ▸ hB3
  have hl3 : w3.heap[w.heap.size]? = some (.cells #[.slice ao es.length c] 26 (0, 0)) := (hB3'.block _ (heap_lt hl2)).trans hl2
  have hB4 := hbx1.trans (hbx2.mono hbx1.size)
  have hD : DS w (.slice ao es.length c) w.heap.size s (w3.heap.size + 1) w3.heap.size ((w3.alloc (.cells #[.slice none 0 0] 40)).alloc (.cells #[downV w.heap.size s (w3.heap.size + 1) w3.heap.size] 69)) (.slice none 0 0) (ci []) (mk (fun _ => false) 0) :=
    ⟨(hB4.block _ (heap_lt hl3)).trans hl3, hd4, (hbx2.block _ (heap_lt hr4)).trans hr4, ⟨cs, 35, (hB4.block _ (heap_lt hs3)).trans hs3, HC.out⟩, ArgsO.nil _ _, by simp [Value.ownBlock], hB2.trans ((hB3'.trans (hB4.mono hB3'.size)).mono hB2.size), by rw [hs2]; exact ⟨hB2.size, Nat.le_trans hB2.size hB3'.size⟩⟩
  have hcall := hide (down26 w ao c es H0 hin hn w.heap.size s (w3.heap.size + 1) w3.heap.size es.length 0 ([], fun _ => false) (.slice none 0 0) _ h0 rfl (by show left (fun _ => false) _ ≤ _; rw [left_none]; exact Nat.le_refl _) hD (by show 0 + left (fun _ => false) _ ≤ _; rw [left_none]; omega))
  unfold downV at hcall
  clear hs2 hs3 hB3 hbx1 hbx2 hr4 hd4 hB2 hl2 hB3' hl3 hB4 hD
  refine hcall.out.mono ?_
  rintro e w5 ⟨v', rfl, hD5, hW5⟩
  have HR : Hid (ci (dn (nxE es) es.length 0 ([], fun _ => false)).1 = ci (rowD (nxE es) es.length)) := hide rfl
  generalize ci (dn (nxE es) es.length 0 ([], fun _ => false)).1 = L at *
  have HR2 : Hid (L.reverse = ci (ordD (nxE es) es.length)) := hide (by rw [HR.out]; simp [ordD, ci])
  have hlL : L.length ≤ 1000 := by rw [HR.out]; exact hlen.out
  have HD5 := hide hD5
  have hrev := hide (reverse_any w.heap.size v' L w5 hD5.o (by omega))
  obtain ⟨aL, cL, rfl⟩ := hD5.o.slice
  have hcr : w5.cell? ⟨w3.heap.size, 0, none⟩ = some (.slice aL L.length cL) := by rw [cell_of_row _ _ _ _ _ _ hD5.r]; rfl
  clear hcall hD5 hW5 HR hlen
  go_wp2_with fail
  refine hrev.out.mono ?_
  rintro e w6 ⟨rfl, hO6, hg6⟩
  have hcr6 : w6.cell? ⟨w3.heap.size, 0, none⟩ = some (.slice aL L.length cL) := by
    rw [cell_of_row _ _ _ _ _ _ ((hg6.block _ (heap_lt HD5.out.r) (fun e => HD5.out.ne.2.2.2.2.2.2.2 e.symm)).trans HD5.out.r)]
    rfl
  have HO6 := hide hO6
  have HB6 := hide (HD5.out.B.grown hg6 HD5.out.B.size (fun k e => (HD5.out.o.lt k e).1))
  clear hcr hO6 hg6 hrev
  go_wp2_with fail
  go_ret
  exact ⟨_, rfl, by rw [← HR2.out]; exact HO6.out, HB6.out⟩
end Go.Proofs.Ytgckpmaajmlijaa
