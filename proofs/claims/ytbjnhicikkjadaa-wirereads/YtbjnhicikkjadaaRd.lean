/- The reader's calls as takings; what answers the next field; an end. -/
import Derived.Test.YtbjnhicikkjadaaTk
import Derived.Test.YtbjnhicikkjadaaPi
namespace Go.Proofs.Ytbjnhicikkjadaa
open Go.RowKit Ir Wire

/-- What a reading leaves: the value u of a, the reader behind it; nothing else that was there has turned. -/
def RdPost {α : Type} (w : World) (p b : Nat) (P : List Int → Pr α) (xs : List Int) (code : Int) (V : α → Value → World → Prop) : Ending → World → Prop :=
  fun e w' => ∃ a u ys d, e = .returned u ∧ V a u w' ∧ Took P xs code a ys d ∧ Lb.RdrAt w' p b ys d ∧ w.grownBy w' (some p)
def IntIn (lim : Int) (a : Int) (u : Value) (_ : World) : Prop := u = .int .i64 a ∧ 0 ≤ a ∧ a < lim
theorem below_t (p b : Nat) (xs : List Int) (code : Int) (lim : Nat) (w : World) (h : Lb.RdrAt w p b xs code) (hl : 0 < lim) (hm : lim ≤ 100000) :
    Calls Try.prog 69 #[.pointer (some ⟨p, 0, none⟩), .int .i64 lim] w (RdPost w p b (belP lim) xs code (IntIn lim)) := by
  refine (Lb.below_any p b xs code lim w h (by omega)).mono ?_
  rintro e w' ⟨rfl, h1, h2⟩
  exact ⟨_, _, _, _, rfl, ⟨rfl, belA_in _ _ hl⟩, took_bel xs code lim hl, h1, h2⟩
theorem int_t (p b : Nat) (xs : List Int) (code : Int) (w : World) (h : Lb.RdrAt w p b xs code) :
    Calls Try.prog 92 #[.pointer (some ⟨p, 0, none⟩)] w (RdPost w p b (fun xs => (numP xs).bind fun n r => .inl (Leb.zag n, r)) xs code (fun a u _ => u = .int .i64 a)) := by
  refine (Lb.int_any p b xs code w h).mono ?_
  rintro e w' ⟨rfl, h1, h2⟩
  exact ⟨_, _, _, _, rfl, rfl, took_int xs code, h1, h2⟩
set_option maxRecDepth 100000 in
theorem field_t (p b q : Nat) (xs : List Int) (code : Int) (w : World) (h : Lb.RdrAt w p b xs code) (hq : w.heap[q]? = some (Obj.cells #[.pointer (some ⟨p, 0, none⟩)] 99 (0, 0))) :
    Calls Try.prog 68 #[.pointer (some ⟨q, 0, none⟩)] w (RdPost w p b (belP 4096) xs code (IntIn 4096)) := by
  have HC := hide (below_t p b xs code 4096 w h (by omega) (by omega))
  have c0 : w.cell? ⟨q, 0, none⟩ = some (.pointer (some ⟨p, 0, none⟩)) := by rw [cell_of_row _ _ _ _ _ _ hq]; rfl
  clear h
  go_enter Try.func68, Try.ntmps68
  go_wp2_with fail
  refine HC.out.mono ?_
  rintro e w1 ⟨a, u, ys, d, rfl, ⟨rfl, ha⟩, h1, h2, h3⟩
  clear HC
  have ha0 := ha.1
  have ha1 := ha.2
  go_wp2_with fail
  go_ret
  exact ⟨_, _, _, _, rfl, ⟨rfl, ha⟩, h1, h2, h3⟩
set_option maxRecDepth 100000 in
theorem fieldsOf_any (p : Nat) (w : World) :
    Calls Try.prog 43 #[.pointer (some ⟨p, 0, none⟩)] w fun e w' => e = .returned (.func (.func 68) #[] #[.pointer (some ⟨w.heap.size, 0, none⟩)]) ∧ w'.heap[w.heap.size]? = some (Obj.cells #[.pointer (some ⟨p, 0, none⟩)] 99 (0, 0)) ∧ w.heap.size < w'.heap.size ∧ Below w.heap.size w w' := by
  have hB := bel1' w (.cells #[.pointer (some ⟨p, 0, none⟩)] 99)
  have hn := heap_alloc_new w (.cells #[.pointer (some ⟨p, 0, none⟩)] 99)
  have hs : w.heap.size < (w.alloc (.cells #[.pointer (some ⟨p, 0, none⟩)] 99)).heap.size := by simp
  go_enter Try.func43, Try.ntmps43
  go_wp2_with fail
  go_ret
  exact ⟨rfl, hn, hs, hB⟩
end Go.Proofs.Ytbjnhicikkjadaa
