/- ahead: from which blocks facts come. -/
import Derived.Test.YtblcbccchlljhaaWy
import Derived.Test.YtblcbccchlljhaaMade
namespace Go.Proofs.Ytblcbccchlljhaa
open Go.RowKit Ir Wy

/-- The function value that ahead answers. -/
def fromV (back : Bool) (pb : Nat) : Value := .func (.func (if back then 36 else 38)) #[] #[.pointer (some ⟨pb, 0, none⟩)]
/-- From which blocks facts come. -/
def frmE (back : Bool) (es : List En) (b : Nat) : List Nat := if back then nxE es b else ahd (nxE es) es.length b
theorem frmE_lt {back : Bool} {es : List En} (h : EndsIn es) {b : Nat} (hb : b < es.length) : ∀ a ∈ frmE back es b, a < es.length := by
  intro a ha
  unfold frmE at ha
  split at ha
  · exact h.nx b hb a ha
  · exact ((mem_ahd _ _ _ _).1 ha).1
theorem frmE_len {back : Bool} {es : List En} (hn : es.length ≤ 7) (b : Nat) : (frmE back es b).length ≤ 7 := by
  unfold frmE
  split
  · have := nx_len es b; omega
  · have := ahd_len (nxE es) es.length b; omega
set_option maxHeartbeats 1000000 in
set_option maxRecDepth 100000 in
theorem back36 (w : World) (pb : Nat) (ao : Option Addr) (c : Nat) (es : List En) (hin : EndsIn es) (hp : w.heap[pb]? = some (.cells #[.slice ao es.length c] 26 (0, 0))) (hE : EndsV w (.slice ao es.length c) es) (b : Nat) (hb : b < es.length) :
    Calls Try.prog 36 #[.int .i64 (b : Int), .pointer (some ⟨pb, 0, none⟩)] w fun e w' => ∃ u, e = .returned u ∧ ArgsO w.heap.size w' u (ci (nxE es b)) ∧ Below w.heap.size w w' := by
  have hb' : (b : Int) < (es.length : Int) := by omega
  obtain ⟨g, off, rfl, hc⟩ := hE.end b hb
  obtain ⟨c1, c2, c3, c4⟩ := hc
  have k0 : w.cell? ⟨pb, 0, none⟩ = some (.slice (some ⟨g, off, none⟩) es.length c) := (cell_of_row _ _ _ _ _ _ hp).trans rfl
  have hnd := hide (hin.ints b)
  clear hE hp
  generalize hee : es.getD b En.zero = e at *
  go_enter Try.func36, Try.ntmps36
  go_wp2_with fail
  refine (next16 e w).mono ?_
  rintro x w2 ⟨u, rfl, hu, hB2⟩
  rw [← hnd.out] at hu
  have HU := hide hu
  have HB := hide hB2
  obtain ⟨au, cu, rfl⟩ := hu.slice
  clear hu hB2 c1 c2 c3 c4 k0
  go_wp2_with fail
  go_ret
  have HU2 := HU.out
  rw [List.length_map] at HU2
  exact ⟨_, rfl, HU2, HB.out⟩
set_option maxHeartbeats 1000000 in
set_option maxRecDepth 100000 in
theorem fwd38 (w : World) (pb : Nat) (ao : Option Addr) (c : Nat) (es : List En) (hin : EndsIn es) (hl : es.length ≤ 100000) (hp : w.heap[pb]? = some (.cells #[.slice ao es.length c] 26 (0, 0))) (hE : EndsV w (.slice ao es.length c) es) (b : Nat) :
    Calls Try.prog 38 #[.int .i64 (b : Int), .pointer (some ⟨pb, 0, none⟩)] w fun e w' => ∃ u, e = .returned u ∧ ArgsO w.heap.size w' u (ci (ahd (nxE es) es.length b)) ∧ Below w.heap.size w w' := by
  have k0 : w.cell? ⟨pb, 0, none⟩ = some (.slice ao es.length c) := (cell_of_row _ _ _ _ _ _ hp).trans rfl
  have HE := hide hE
  have HI := hide hin
  clear hE hp hin
  go_enter Try.func38, Try.ntmps38
  go_wp2_with (go_at_call 39; refine (refAhead_any _ es b _ HE.out HI.out hl).mono ?_; rintro e w2 ⟨u, rfl, hu, hB2⟩; obtain ⟨au, cu, hau⟩ := hu.slice; subst hau; have HU := hide hu; have HB := hide hB2; clear hu hB2)
  go_ret
  have HU2 := HU.out
  rw [List.length_map] at HU2
  exact ⟨_, rfl, HU2, HB.out⟩
/-- What ahead's answer does, in whatever world leaves what was there. -/
theorem from_ok (w0 : World) (back : Bool) (pb : Nat) (ao : Option Addr) (c : Nat) (es : List En) (hin : EndsIn es) (hl : es.length ≤ 7) (hp : w0.heap[pb]? = some (.cells #[.slice ao es.length c] 26 (0, 0))) (hE : EndsV w0 (.slice ao es.length c) es) : FromOk w0 (fromV back pb) es.length (frmE back es) := by
  intro W hW b hb
  have hp' := (hW.block pb (Array.getElem?_eq_some_iff.1 hp).1).trans hp
  cases back
  · exact callV_func Try.func38 rfl rfl (fwd38 W pb ao c es hin (by omega) hp' (hE.below hW) b)
  · exact callV_func Try.func36 rfl rfl (back36 W pb ao c es hin hp' (hE.below hW) b hb)
set_option maxHeartbeats 1000000 in
set_option maxRecDepth 100000 in
theorem ahead_any (w : World) (ao : Option Addr) (n c : Nat) (back : Bool) : Calls Try.prog 10 #[.slice ao n c, .bool back] w fun e w' => e = .returned (fromV back w.heap.size) ∧ w'.heap[w.heap.size]? = some (.cells #[.slice ao n c] 26 (0, 0)) ∧ Below w.heap.size w w' := by
  have hmf : ∀ (fn : Fn) (first cap : Array Value) (w : World), (Instr.makeFunc fn first cap).run Try.prog w = .ok (.func fn first cap) w := fun _ _ _ _ => rfl
  have hn := hide (heap_alloc_new w (.cells #[.slice ao n c] 26))
  have hB := hide (bel1' w (.cells #[.slice ao n c] 26))
  cases back
  · go_enter Try.func10, Try.ntmps10
    go_wp2_with fail
    go_ret
    exact ⟨rfl, hn.out, hB.out⟩
  · go_enter Try.func10, Try.ntmps10
    go_wp2_with fail
    go_ret
    exact ⟨rfl, hn.out, hB.out⟩
theorem ahead_new (w : World) (ao : Option Addr) (n c : Nat) (back : Bool) : Calls Try.prog 10 #[.slice ao n c, .bool back] w fun e w' => ∃ pb fb, e = .returned (.func (.func fb) #[] #[.pointer (some ⟨pb, 0, none⟩)]) ∧ fromV back pb = .func (.func fb) #[] #[.pointer (some ⟨pb, 0, none⟩)] ∧ w'.heap[pb]? = some (.cells #[.slice ao n c] 26 (0, 0)) ∧ Below w.heap.size w w' := by
  refine (ahead_any w ao n c back).mono ?_
  rintro e w' ⟨rfl, h1, h2⟩
  exact ⟨_, _, rfl, rfl, h1, h2⟩
end Go.Proofs.Ytblcbccchlljhaa
