/- A store in a region that draws its order. -/
import Derived.Test.YtepmbkiojpffpaaAny
namespace Go.Proofs.Ytepmbkiojpffpaa
open Go
variable {P : Program} {ops : Array Oper} {Q : Exit → Act → World → Prop} {md : Region.Mode} {a0 : Act} {G : Tmp → Value → World → Prop} {S : (Nat → Bool) → World → Prop} {j : Nat} {o : Oper}
/-- An operation that yields nothing; not guarded. -/
theorem asked_skip (hg : o.guard = none) (hd : o.dst = none)
    (h : ∀ l a w, Hand md ops a0 G S j o l a w → ∃ w', (execOp a.eval o).run P w = .ok .skip w' ∧ S (upd l j) w' ∧ ∀ d u, G d u w → G d u w') : Asked P md ops a0 Q G S j o := by
  intro l a w h1 h2 hcl h3 h4 h5
  refine ⟨fun _ K hK => ?_, fun hw => absurd (by unfold want; rw [hg]; trivial) hw⟩
  obtain ⟨w', e1, e3, e4⟩ := h l a w ⟨h1, h2, hcl, h3, h4, h5⟩
  unfold Oper.wp
  rw [e1]
  exact hK undef w' (fun d h' => by rw [hd] at h'; cases h') e3 (fun d u _ => e4 d u)
end Go.Proofs.Ytepmbkiojpffpaa
