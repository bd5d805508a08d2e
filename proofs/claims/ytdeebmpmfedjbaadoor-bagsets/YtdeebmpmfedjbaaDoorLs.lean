/- Sets in boxes: loaded, laid anew. -/
import Derived.Test.YtdeebmpmfedjbaaDoorM4
import Derived.Test.YtdeebmpmfedjbaaDoorOt
import Derived.Test.YtdeebmpmfedjbaaDoorAw
namespace Go.Proofs.YtdeebmpmfedjbaaDoor
open Go Go.RowKit Bag
section
variable {ops : Array Oper} {Q : Exit → Act → World → Prop} {rest : List Oper} {a : Act} {o : Oper} {w : World}
theorem wpList_load_set (hgd : o.guard = none) (x : Operand) (ho : o.op = .load 27 x) (g : Nat) (hx : a.eval x = .pointer (some ⟨g, 0, none⟩)) (f : Nat → Bool) (h : SetAt w g f) (hK : ∀ cs, Hid (SetV (.agg cs) f) → wpList Tryd.prog ops Q rest (a.put o.dst (.agg cs)) w) : wpList Tryd.prog ops Q (o :: rest) a w := by
  obtain ⟨cs, t, hc, hC⟩ := h
  exact wpList_load_row hgd 27 x ho g hx t cs _ hc Tryd.underlying27 rfl (by rw [hC.1]; exact info27) (hK cs (hide ⟨cs, rfl, hC⟩))
theorem wpList_var_set {o2 : Oper} (d : Tmp) (hg1 : o.guard = none) (hg2 : o2.guard = none) (ho : o.op = .alloc 27) (hd : o.dst = some d) (y : Operand) (ho2 : o2.op = .store 27 (.tmp d) y) (hd2 : o2.dst = none) (hdl : d < a.tmps.size) (u : Value) (f : Nat → Bool) (hu : SetV u f) (hy : (a.put (some d) (.pointer (some ⟨w.heap.size, 0, none⟩))).eval y = u)
    (hK : ∀ (c : Nat) (w' : World), Hid (c = w.heap.size ∧ SetAt w' c f ∧ w.grownBy w' none) → wpList Tryd.prog ops Q rest (a.put (some d) (.pointer (some ⟨c, 0, none⟩))) w') : wpList Tryd.prog ops Q (o :: o2 :: rest) a w := by
  obtain ⟨cs, rfl, hC⟩ := hu
  refine wpList_var 27 d hg1 hg2 ho hd y ho2 hd2 z64 cs z27 hdl hy (by rw [hC.1]; exact info27) (by rw [hC.1]; rfl) hC.cells ?_
  intro c w' h
  exact hK c w' (hide ⟨h.out.1, ⟨cs, 27, h.out.2.1, hC⟩, gb_at h.out⟩)
end
theorem info33 (a b c d : Value) : (Tryd.prog.info? 33).map (·.size) = some (#[a, b, c, d] : Array Value).size := by kernel_rfl
end Go.Proofs.YtdeebmpmfedjbaaDoor
