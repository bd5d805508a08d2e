/- The document's Bytes: blocks behind bytes. -/
import Derived.Test.YtbjnhicikkjadaaRp
import Derived.Test.YtbjnhicikkjadaaRIns
import Derived.Test.YtbjnhicikkjadaaPb
import Derived.Deep.RegionHeld3
namespace Go.Proofs.Ytbjnhicikkjadaa
open Go.RowKit Ir Wire

/-- The bytes of the field that a letter names. -/
def fB (i : Ins) (c : Int) : List Int := if c = 79 then nb i.op else if c = 68 then nb i.d else if c = 65 then nb i.a else if c = 66 then nb i.b else if c = 78 then Leb.enc (Leb.zig i.n) else Leb.enc i.args.length ++ i.args.flatMap nb
def chars (s : ByteArray) : List Int := s.data.toList.map fun x => ((x.toNat : Nat) : Int)
theorem chars_len (s : ByteArray) : (chars s).length = s.size := by simp [chars]
theorem chars_at {s : ByteArray} {j : Nat} (h : j < s.size) : (chars s).getD j 0 = ((s[j].toNat : Nat) : Int) := by
  have hl : j < s.data.toList.length := by simpa using h
  unfold chars
  rw [List.getD_eq_getElem?_getD, List.getElem?_map, List.getElem?_eq_getElem hl]
  rfl
theorem nm_1 : chars (nm8 1) = [68, 78] := by decide +kernel
theorem nm_2 : chars (nm8 2) = [68, 65] := by decide +kernel
theorem nm_3 : chars (nm8 3) = [79, 68, 65, 66] := by decide +kernel
theorem nm_4 : chars (nm8 4) = [68, 65] := by decide +kernel
theorem nm_5 : chars (nm8 5) = [65, 66] := by decide +kernel
theorem nm_6 : chars (nm8 6) = [68, 78, 82] := by decide +kernel
theorem nm_7 : chars (nm8 7) = [68, 65] := by decide +kernel
theorem nm_8 : chars (nm8 8) = [68, 65] := by decide +kernel
theorem insB_fields {i : Ins} (h : 1 ≤ i.k ∧ i.k ≤ 8) : insB i = nb i.k ++ (chars (nm8 i.k)).flatMap (fB i) := by
  obtain ⟨k, op, d, a, b, n, args⟩ := i
  simp only at h
  have hc : k = 1 ∨ k = 2 ∨ k = 3 ∨ k = 4 ∨ k = 5 ∨ k = 6 ∨ k = 7 ∨ k = 8 := by omega
  rcases hc with rfl | rfl | rfl | rfl | rfl | rfl | rfl | rfl <;> simp [insB, nm_1, nm_2, nm_3, nm_4, nm_5, nm_6, nm_7, nm_8, fB]
theorem fB_len {i : Ins} (hw : WfI i) {c : Int} (hc : c ∈ chars (nm8 i.k)) : (fB i c).length ≤ 100 := by
  have h1 := insB_len hw
  rw [insB_fields hw.k, List.length_append] at h1
  have h2 : (fB i c).length ≤ ((chars (nm8 i.k)).flatMap (fB i)).length := by
    obtain ⟨s, t, e⟩ := List.append_of_mem hc
    rw [e]
    simp
    omega
  omega
theorem rput_any (w : World) (v u : Value) (xs : List Int) (i : Ins) (c : Int) (ho : Lb.Byt w v xs) (hu : IntsV w u i.args) (hw : WfI i) (hc : c ∈ chars (nm8 i.k)) (hl : xs.length ≤ 900000000) :
    Calls Try.prog 64 #[v, insV i u, .int .u8 c] w fun e w' => ∃ v', e = .returned v' ∧ Lb.Byt w' v' (xs ++ fB i c) ∧ Below w.heap.size w w' := by
  obtain ⟨k, op, d, a, b, n, args⟩ := i
  obtain ⟨hk, h1, h2, h3, h4, h5, h6⟩ := hw
  simp only at hk h1 h2 h3 h4 h5 h6 hu hc
  have O := fun (h : 0 ≤ op ∧ op < 256) => rputO w v u xs k op d a b n ho h (by omega)
  have D := fun (h : 0 ≤ d ∧ d < 4096) => rputD w v u xs k op d a b n ho h (by omega)
  have A := fun (h : 0 ≤ a ∧ a < 4096) => rputA w v u xs k op d a b n ho h (by omega)
  have B := fun (h : 0 ≤ b ∧ b < 4096) => rputB w v u xs k op d a b n ho h (by omega)
  have hc' : k = 1 ∨ k = 2 ∨ k = 3 ∨ k = 4 ∨ k = 5 ∨ k = 6 ∨ k = 7 ∨ k = 8 := by omega
  rcases hc' with rfl | rfl | rfl | rfl | rfl | rfl | rfl | rfl <;> simp [nm_1, nm_2, nm_3, nm_4, nm_5, nm_6, nm_7, nm_8] at hc h1 h2 h3 h4 h5 h6
  · rcases hc with rfl | rfl
    · exact D h2
    · exact rputN w v u xs _ op d a b n ho h5.1 h5.2 (by omega)
  · rcases hc with rfl | rfl
    · exact D h2
    · exact A h3
  · rcases hc with rfl | rfl | rfl | rfl
    · exact O h1
    · exact D h2
    · exact A h3
    · exact B h4
  · rcases hc with rfl | rfl
    · exact D h2
    · exact A h3
  · rcases hc with rfl | rfl
    · exact A h3
    · exact B h4
  · rcases hc with rfl | rfl | rfl
    · exact D h2
    · exact rputN w v u xs _ op d a b n ho h5.1 h5.2 (by omega)
    · exact rputR w v u xs args _ op d a b n ho hu h6.1 h6.2 hl
  · rcases hc with rfl | rfl
    · exact D h2
    · exact A h3
  · rcases hc with rfl | rfl
    · exact D h2
    · exact A h3
end Go.Proofs.Ytbjnhicikkjadaa
