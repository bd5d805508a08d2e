/- The document's Ins: an instruction's fault, over registers and slots. -/
import Derived.Test.YtbjnhicikkjadaaRefIns
import Derived.Test.YtbjnhicikkjadaaIr
namespace Go.Proofs.Ytbjnhicikkjadaa
open Go.RowKit Ir

def nm8 (k : Int) : ByteArray := if k = 7 ∨ k = 8 then ⟨#[68, 65]⟩ else nameOf k
theorem nm8_small (k : Int) : (nm8 k).size ≤ 10 := by
  unfold nm8
  split
  · decide
  · exact name_small k
set_option maxRecDepth 100000 in
theorem names_7 (w : World) : Calls Try.prog 63 #[.int .u8 7] w fun e w' => e = .returned (.string (nm8 7)) ∧ Below w.heap.size w w' := by
  have hB := bel1' w (.cells #[.string ⟨#[]⟩, .string ⟨#[68, 78]⟩, .string ⟨#[68, 65]⟩, .string ⟨#[79, 68, 65, 66]⟩, .string ⟨#[68, 65]⟩, .string ⟨#[65, 66]⟩, .string ⟨#[68, 78, 82]⟩, .string ⟨#[68, 65]⟩, .string ⟨#[68, 65]⟩] 9)
  have hE : Hid (nm8 7 = ⟨#[68, 65]⟩) := by show _ = _; simp [nm8]
  go_enter Try.func63, Try.ntmps63
  go_wp2_with fail
  go_ret
  exact ⟨by rw [hE.out]; rfl, hB⟩
set_option maxRecDepth 100000 in
theorem names_8 (w : World) : Calls Try.prog 63 #[.int .u8 8] w fun e w' => e = .returned (.string (nm8 8)) ∧ Below w.heap.size w w' := by
  have hB := bel1' w (.cells #[.string ⟨#[]⟩, .string ⟨#[68, 78]⟩, .string ⟨#[68, 65]⟩, .string ⟨#[79, 68, 65, 66]⟩, .string ⟨#[68, 65]⟩, .string ⟨#[65, 66]⟩, .string ⟨#[68, 78, 82]⟩, .string ⟨#[68, 65]⟩, .string ⟨#[68, 65]⟩] 9)
  have hE : Hid (nm8 8 = ⟨#[68, 65]⟩) := by show _ = _; simp [nm8]
  go_enter Try.func63, Try.ntmps63
  go_wp2_with fail
  go_ret
  exact ⟨by rw [hE.out]; rfl, hB⟩
theorem names8_any (k : Int) (h1 : 1 ≤ k) (h8 : k ≤ 8) (w : World) : Calls Try.prog 63 #[.int .u8 k] w fun e w' => e = .returned (.string (nm8 k)) ∧ Below w.heap.size w w' := by
  by_cases k7 : k = 7
  · subst k7
    exact names_7 w
  by_cases k8 : k = 8
  · subst k8
    exact names_8 w
  have : nm8 k = nameOf k := if_neg (by omega)
  rw [this]
  exact names_any k h1 (by omega) w
def formed8 (i : Ins) : Bool := if i.k = 7 ∨ i.k = 8 then (i.op == 0 && len0 i.args && (i.b == 0) && (i.n == 0)) else formed i
theorem formed_zr8 (i : Ins) : (((decide (i.k < 1) || decide (8 < i.k)) || !(zrTo i (nm8 i.k) 6)) || ((i.k == 3) && (decide (i.op < 1) || decide (7 < i.op)))) = !(formed8 i) := by
  by_cases h78 : i.k = 7 ∨ i.k = 8
  · have e : nm8 i.k = ⟨#[68, 65]⟩ := if_pos h78
    have f : formed8 i = (i.op == 0 && len0 i.args && (i.b == 0) && (i.n == 0)) := if_pos h78
    rw [e, f]
    have c1 : decide (i.k < 1) = false := by simp; omega
    have c2 : decide (8 < i.k) = false := by simp; omega
    have c3 : (i.k == 3) = false := by simp; omega
    rw [c1, c2, c3]
    obtain ⟨k, op, d, a, b, n, args⟩ := i
    have hzr : zrTo ⟨k, op, d, a, b, n, args⟩ ⟨#[68, 65]⟩ 6 = ((op == 0 || hasTo ⟨#[68, 65]⟩ 79 (ByteArray.size ⟨#[68, 65]⟩)) && ((d == 0 || hasTo ⟨#[68, 65]⟩ 68 (ByteArray.size ⟨#[68, 65]⟩)) && ((a == 0 || hasTo ⟨#[68, 65]⟩ 65 (ByteArray.size ⟨#[68, 65]⟩)) && ((b == 0 || hasTo ⟨#[68, 65]⟩ 66 (ByteArray.size ⟨#[68, 65]⟩)) && ((n == 0 || hasTo ⟨#[68, 65]⟩ 78 (ByteArray.size ⟨#[68, 65]⟩)) && ((len0 args || hasTo ⟨#[68, 65]⟩ 82 (ByteArray.size ⟨#[68, 65]⟩)))))))) := by
      simp only [zrTo, List.range, List.range.loop, List.all_cons, List.all_nil, okAt, Bool.and_true]
    rw [hzr]
    have h79 : hasTo ⟨#[68, 65]⟩ 79 (ByteArray.size ⟨#[68, 65]⟩) = false := by decide
    have h68 : hasTo ⟨#[68, 65]⟩ 68 (ByteArray.size ⟨#[68, 65]⟩) = true := by decide
    have h65 : hasTo ⟨#[68, 65]⟩ 65 (ByteArray.size ⟨#[68, 65]⟩) = true := by decide
    have h66 : hasTo ⟨#[68, 65]⟩ 66 (ByteArray.size ⟨#[68, 65]⟩) = false := by decide
    have h78' : hasTo ⟨#[68, 65]⟩ 78 (ByteArray.size ⟨#[68, 65]⟩) = false := by decide
    have h82 : hasTo ⟨#[68, 65]⟩ 82 (ByteArray.size ⟨#[68, 65]⟩) = false := by decide
    rw [h79, h68, h65, h66, h78', h82]
    cases (op == 0) <;> cases (a == 0) <;> cases (b == 0) <;> cases (d == 0) <;> cases (n == 0) <;> cases len0 args <;> rfl
  · have e : nm8 i.k = nameOf i.k := if_neg h78
    have f : formed8 i = formed i := if_neg h78
    have c : decide (8 < i.k) = decide (6 < i.k) := by
      rw [Bool.eq_iff_iff]
      simp
      omega
    rw [e, f, c]
    exact formed_zr i
/-- Is the slot of a spill or a fill none? -/
def badS (i : Ins) (s : Int) : Bool := (decide (i.k = 7) && !(inr i.d s)) || (decide (i.k = 8) && !(inr i.a s))
/-- The fault as the document lays it. -/
theorem mF_ref (i : Ins) (r s : Int) : mF i r s = if formed8 i = false then 20 else if 3 < i.args.length then 25 else if (named i).all (inr · r) then (if badS i s then 24 else 0) else 23 := by
  by_cases k7 : i.k = 7
  · have f : formed8 i = (i.op == 0 && len0 i.args && (i.b == 0) && (i.n == 0)) := if_pos (.inl k7)
    have hn : named i = [i.a] := by simp [named, uses, gives, k7]
    have hb : badS i s = !(inr i.d s) := by simp [badS, k7]
    rw [f, hn, hb, len0_eq]
    unfold mF slF
    rw [if_pos k7]
    by_cases h1 : i.op = 0 <;> by_cases h2 : i.b = 0 <;> by_cases h3 : i.n = 0 <;> by_cases h4 : i.args.length = 0 <;> cases h5 : inr i.a r <;> cases h6 : inr i.d s <;> simp [h1, h2, h3, h4, h5]
  · by_cases k8 : i.k = 8
    · have f : formed8 i = (i.op == 0 && len0 i.args && (i.b == 0) && (i.n == 0)) := if_pos (.inr k8)
      have hn : named i = [i.d] := by simp [named, uses, gives, k8]
      have hb : badS i s = !(inr i.a s) := by simp [badS, k8]
      rw [f, hn, hb, len0_eq]
      unfold mF slF
      rw [if_neg k7, if_pos k8]
      by_cases h1 : i.op = 0 <;> by_cases h2 : i.b = 0 <;> by_cases h3 : i.n = 0 <;> by_cases h4 : i.args.length = 0 <;> cases h5 : inr i.d r <;> cases h6 : inr i.a s <;> simp [h1, h2, h3, h4, h5]
    · have f : formed8 i = formed i := if_neg (by omega)
      have hb : badS i s = false := by simp [badS, k7, k8]
      rw [f, hb]
      unfold mF inF
      rw [if_neg k7, if_neg k8]
      cases h1 : formed i <;> by_cases h2 : 3 < i.args.length <;> cases h3 : (named i).all (inr · r) <;> simp [ofR, h2]

/-- What is known of each temporary of the document's first test. -/
def Gri8 (g : Nat) (c1 c2 c3 c4 c5 z : Bool) (i : Ins) (u : Value) : Tmp → Value → World → Prop
  | 12, xx, _ => xx = .pointer (some ⟨g, 0, none⟩)
  | 13, xx, _ => xx = .int .u8 i.k
  | 14, xx, _ => xx = .bool (c1)
  | 15, xx, _ => xx = .bool (c1)
  | 16, xx, _ => xx = if (!(c1)) = true then .pointer (some ⟨g, 0, none⟩) else undef
  | 17, xx, _ => xx = if (!(c1)) = true then .int .u8 i.k else undef
  | 18, xx, _ => xx = if (!(c1)) = true then .int .u8 8 else undef
  | 19, xx, _ => xx = if (!(c1)) = true then .bool (c2) else undef
  | 20, xx, _ => xx = .bool (c1 || c2)
  | 21, xx, _ => xx = .bool (c1 || c2)
  | 22, xx, _ => xx = if (!(c1 || c2)) = true then insV i u else undef
  | 23, xx, _ => xx = if (!(c1 || c2)) = true then .pointer (some ⟨g, 0, none⟩) else undef
  | 24, xx, _ => xx = if (!(c1 || c2)) = true then .int .u8 i.k else undef
  | 25, xx, _ => xx = if (!(c1 || c2)) = true then .string (nm8 i.k) else undef
  | 26, xx, _ => xx = if (!(c1 || c2)) = true then .bool (z) else undef
  | 27, xx, _ => xx = if (!(c1 || c2)) = true then .bool (!z) else undef
  | 28, xx, _ => xx = .bool ((c1 || c2) || !z)
  | 29, xx, _ => xx = .bool ((c1 || c2) || !z)
  | 30, xx, _ => xx = if (!((c1 || c2) || !z)) = true then .pointer (some ⟨g, 0, none⟩) else undef
  | 31, xx, _ => xx = if (!((c1 || c2) || !z)) = true then .int .u8 i.k else undef
  | 32, xx, _ => xx = if (!((c1 || c2) || !z)) = true then .bool (c3) else undef
  | 33, xx, _ => xx = if (!((c1 || c2) || !z)) = true then .bool (c3) else undef
  | 34, xx, _ => xx = if ((!((c1 || c2) || !z)) && (c3)) = true then .pointer (some ⟨g, 1, none⟩) else undef
  | 35, xx, _ => xx = if ((!((c1 || c2) || !z)) && (c3)) = true then .int .u8 i.op else undef
  | 36, xx, _ => xx = if ((!((c1 || c2) || !z)) && (c3)) = true then .bool (c4) else undef
  | 37, xx, _ => xx = if ((!((c1 || c2) || !z)) && (c3)) = true then .bool (c4) else undef
  | 38, xx, _ => xx = if (((!((c1 || c2) || !z)) && (c3)) && (!(c4))) = true then .pointer (some ⟨g, 1, none⟩) else undef
  | 39, xx, _ => xx = if (((!((c1 || c2) || !z)) && (c3)) && (!(c4))) = true then .int .u8 i.op else undef
  | 40, xx, _ => xx = if (((!((c1 || c2) || !z)) && (c3)) && (!(c4))) = true then .bool (c5) else undef
  | 41, xx, _ => xx = if ((!((c1 || c2) || !z)) && (c3)) = true then .bool (c4 || c5) else undef
  | 42, xx, _ => xx = if (!((c1 || c2) || !z)) = true then .bool (c3 && (c4 || c5)) else undef
  | 43, xx, _ => xx = .bool (((c1 || c2) || !z) || (c3 && (c4 || c5)))
  | _, _, _ => True

set_option maxHeartbeats 4000000 in
set_option maxRecDepth 100000 in
theorem rIns_any (i : Ins) (u : Value) (v s0 : Int) (w : World) (hu : IntsV w u i.args) (hs0 : 0 ≤ s0) : Calls Try.prog 61 #[insV i u, .int .i64 v, .int .i64 s0] w fun e w' => e = .returned (.int .i64 (mF i v s0)) ∧ Below w.heap.size w w' := by
  obtain ⟨ua, ca, rfl⟩ := hu.slice
  have hB0 := bel1 w (.cells #[.int .u8 i.k, .int .u8 i.op, .int .i64 i.d, .int .i64 i.a, .int .i64 i.b, .int .i64 i.n, .slice ua i.args.length ca] 86)
  have hi0 := hide (boxI (Below.refl _ (w.alloc (.cells #[.int .u8 i.k, .int .u8 i.op, .int .i64 i.d, .int .i64 i.a, .int .i64 i.b, .int .i64 i.n, .slice ua i.args.length ca] 86))))
  have HU := hide (hu.below hB0)
  have HF := hide (formed_zr8 i)
  unfold insV
  clear hu
  go_enter Try.func61, Try.ntmps61
  go_wp2_with fail
  generalize (w.alloc (.cells #[.int .u8 i.k, .int .u8 i.op, .int .i64 i.d, .int .i64 i.a, .int .i64 i.b, .int .i64 i.n, .slice ua i.args.length ca] 86)) = w0 at *
  have hk16 : (!(decide (i.k < 1) || decide (8 < i.k))) = true → 1 ≤ i.k ∧ i.k ≤ 8 := by
    intro h
    simp at h
    omega
  have HF' := HF.out
  generalize h1 : decide (i.k < 1) = c1 at hk16 HF'
  generalize h2 : decide (8 < i.k) = c2 at hk16 HF'
  generalize h3 : (i.k == 3) = c3 at HF'
  generalize h4 : decide (i.op < 1) = c4 at HF'
  generalize h5 : decide (7 < i.op) = c5 at HF'
  generalize hz : zrTo i (nm8 i.k) 6 = z at HF'
  have hi := hi0.out
  have hu := HU.out
  generalize h0u : Value.slice ua i.args.length ca = u at hi hu
  have hgsz := hB0
  generalize hgz : w.heap.size = g at hi ⊢
  refine wp_region_each (by kernel_rfl) (fun d y _ => Gri8 g c1 c2 c3 c4 c5 z i u d y w0) (fun _ W => Below w0.heap.size w0 W) (by kernel_rfl) (Below.refl _ _).drew ?_ ?_
  · refine And.intro ?_ (And.intro ?_ (And.intro ?_ (And.intro ?_ (And.intro ?_ (And.intro ?_ (And.intro ?_ (And.intro ?_ (And.intro ?_ (And.intro ?_ (And.intro ?_ (And.intro ?_ (And.intro ?_ (And.intro ?_ (And.intro ?_ (And.intro ?_ (And.intro ?_ (And.intro ?_ (And.intro ?_ (And.intro ?_ (And.intro ?_ (And.intro ?_ (And.intro ?_ (And.intro ?_ (And.intro ?_ (And.intro ?_ (And.intro ?_ (And.intro ?_ (And.intro ?_ (And.intro ?_ (And.intro ?_ (And.intro ?_ trivial)))))))))))))))))))))))))))))))
    · refine asked_pure rfl rfl (fun _ _ h => h) (fun _ _ _ => rfl) (fun l a W H => ?_)
      have e3 : a.eval (.tmp 3) = .pointer (some ⟨g, 0, none⟩) := H.base 3 rfl
      (simp only [execOp]; try simp only [Option.map]); (try simp only [List.map_toArray, List.map_cons, List.map_nil]); (simp only [e3]; go_simp)
    · refine asked_pure rfl rfl (fun _ _ h => h) (fun _ _ _ => rfl) (fun l a W H => ?_)
      have e12 : a.eval (.tmp 12) = .pointer (some ⟨g, 0, none⟩) := H.facts 12 rfl
      have hcc := cell_below H.s hi.c0
      (simp only [execOp]; try simp only [Option.map]); (try simp only [List.map_toArray, List.map_cons, List.map_nil]); (simp only [e12]; go_simp)
    · refine asked_pure rfl rfl (fun _ _ h => h) (fun _ _ _ => rfl) (fun l a W H => ?_)
      have e13 : a.eval (.tmp 13) = .int .u8 i.k := H.facts 13 rfl
      rw [← h1]
      (simp only [execOp]; try simp only [Option.map]); (try simp only [List.map_toArray, List.map_cons, List.map_nil]); (simp only [e13]; go_simp)
    · refine asked_pure rfl rfl (fun _ _ h => h) (fun _ _ _ => rfl) (fun l a W H => ?_)
      have e14 : a.eval (.tmp 14) = .bool (c1) := H.facts 14 rfl
      exact run_move rfl e14
    · refine asked_guard (c := (!(c1))) (v := .pointer (some ⟨g, 0, none⟩)) rfl rfl rfl rfl (fun _ _ h => h) ?_ (fun _ _ _ => rfl) ?_
      · intro l u W _ hu
        have hu : u = .bool (c1) := hu
        exact want_f hu
      intro hc l a W H
      have e3 : a.eval (.tmp 3) = .pointer (some ⟨g, 0, none⟩) := H.base 3 rfl
      (simp only [execOp]; try simp only [Option.map]); (try simp only [List.map_toArray, List.map_cons, List.map_nil]); (simp only [e3]; go_simp)
    · refine asked_guard (c := (!(c1))) (v := .int .u8 i.k) rfl rfl rfl rfl (fun _ _ h => h) ?_ (fun _ _ _ => rfl) ?_
      · intro l u W _ hu
        have hu : u = .bool (c1) := hu
        exact want_f hu
      intro hc l a W H
      have e16 : a.eval (.tmp 16) = .pointer (some ⟨g, 0, none⟩) := by
        have e : a.eval (.tmp 16) = if (!(c1)) = true then .pointer (some ⟨g, 0, none⟩) else undef := H.facts 16 rfl
        rw [if_pos hc] at e
        exact e
      have hcc := cell_below H.s hi.c0
      (simp only [execOp]; try simp only [Option.map]); (try simp only [List.map_toArray, List.map_cons, List.map_nil]); (simp only [e16]; go_simp)
    · refine asked_guard (c := (!(c1))) (v := .int .u8 8) rfl rfl rfl rfl (fun _ _ h => h) ?_ (fun _ _ _ => rfl) ?_
      · intro l u W _ hu
        have hu : u = .bool (c1) := hu
        exact want_f hu
      intro hc l a W H
      have e7 : a.eval (.tmp 7) = .int .u8 8 := H.base 7 rfl
      exact run_move rfl e7
    · refine asked_guard (c := (!(c1))) (v := .bool (c2)) rfl rfl rfl rfl (fun _ _ h => h) ?_ (fun _ _ _ => rfl) ?_
      · intro l u W _ hu
        have hu : u = .bool (c1) := hu
        exact want_f hu
      intro hc l a W H
      have e17 : a.eval (.tmp 17) = .int .u8 i.k := by
        have e : a.eval (.tmp 17) = if (!(c1)) = true then .int .u8 i.k else undef := H.facts 17 rfl
        rw [if_pos hc] at e
        exact e
      have e18 : a.eval (.tmp 18) = .int .u8 8 := by
        have e : a.eval (.tmp 18) = if (!(c1)) = true then .int .u8 8 else undef := H.facts 18 rfl
        rw [if_pos hc] at e
        exact e
      rw [← h2]
      (simp only [execOp]; try simp only [Option.map]); (try simp only [List.map_toArray, List.map_cons, List.map_nil]); (simp only [e17, e18]; go_simp)
    · refine asked_pure rfl rfl (fun _ _ h => h) (fun _ _ _ => rfl) (fun l a W H => ?_)
      have e15 : a.eval (.tmp 15) = .bool (c1) := H.facts 15 rfl
      exact run_pick_or rfl e15 (fun hb => by
        have hc : (!(c1)) = true := by simp_all
        have e19 : a.eval (.tmp 19) = .bool (c2) := by
          have e : a.eval (.tmp 19) = if (!(c1)) = true then .bool (c2) else undef := H.facts 19 rfl
          rw [if_pos hc] at e
          exact e
        exact e19)
    · refine asked_pure rfl rfl (fun _ _ h => h) (fun _ _ _ => rfl) (fun l a W H => ?_)
      have e20 : a.eval (.tmp 20) = .bool (c1 || c2) := H.facts 20 rfl
      exact run_move rfl e20
    · refine asked_guard (c := (!(c1 || c2))) (v := insV i u) rfl rfl rfl rfl (fun _ _ h => h) ?_ (fun _ _ _ => rfl) ?_
      · intro l u W _ hu
        have hu : u = .bool (c1 || c2) := hu
        exact want_f hu
      intro hc l a W H
      have e3 : a.eval (.tmp 3) = .pointer (some ⟨g, 0, none⟩) := H.base 3 rfl
      exact run_load46 rfl e3 (hi.below H.s)
    · refine asked_guard (c := (!(c1 || c2))) (v := .pointer (some ⟨g, 0, none⟩)) rfl rfl rfl rfl (fun _ _ h => h) ?_ (fun _ _ _ => rfl) ?_
      · intro l u W _ hu
        have hu : u = .bool (c1 || c2) := hu
        exact want_f hu
      intro hc l a W H
      have e3 : a.eval (.tmp 3) = .pointer (some ⟨g, 0, none⟩) := H.base 3 rfl
      (simp only [execOp]; try simp only [Option.map]); (try simp only [List.map_toArray, List.map_cons, List.map_nil]); (simp only [e3]; go_simp)
    · refine asked_guard (c := (!(c1 || c2))) (v := .int .u8 i.k) rfl rfl rfl rfl (fun _ _ h => h) ?_ (fun _ _ _ => rfl) ?_
      · intro l u W _ hu
        have hu : u = .bool (c1 || c2) := hu
        exact want_f hu
      intro hc l a W H
      have e23 : a.eval (.tmp 23) = .pointer (some ⟨g, 0, none⟩) := by
        have e : a.eval (.tmp 23) = if (!(c1 || c2)) = true then .pointer (some ⟨g, 0, none⟩) else undef := H.facts 23 rfl
        rw [if_pos hc] at e
        exact e
      have hcc := cell_below H.s hi.c0
      (simp only [execOp]; try simp only [Option.map]); (try simp only [List.map_toArray, List.map_cons, List.map_nil]); (simp only [e23]; go_simp)
    · refine asked_gcall (c := (!(c1 || c2))) rfl rfl rfl Try.func63 (by kernel_rfl) (by kernel_rfl) rfl rfl ?_ ?_ ?_
      · intro l u W _ hu
        have hu : u = .bool (c1 || c2) := hu
        exact want_f hu
      · intro hc l W hS
        first | exact absurd hc (by decide) | exact ⟨(if_neg (by rw [hc]; simp)).symm, hS⟩
      intro hc l a W H
      have e24 : a.eval (.tmp 24) = .int .u8 i.k := by
        have e : a.eval (.tmp 24) = if (!(c1 || c2)) = true then .int .u8 i.k else undef := H.facts 24 rfl
        rw [if_pos hc] at e
        exact e
      have ea : (#[.tmp 24] : Array Operand).map a.eval = #[.int .u8 i.k] := by
        simp only [List.map_toArray, List.map_cons, List.map_nil, e24]
      rw [ea]
      refine (names8_any i.k (hk16 hc).1 (hk16 hc).2 W).mono ?_
      rintro y w' ⟨rfl, hB⟩
      exact ⟨_, rfl, (if_pos hc).symm, bel_of H.s hB, fun _ _ _ h => h⟩
    · refine asked_gcall (c := (!(c1 || c2))) rfl rfl rfl Try.func85 (by kernel_rfl) (by kernel_rfl) rfl rfl ?_ ?_ ?_
      · intro l u W _ hu
        have hu : u = .bool (c1 || c2) := hu
        exact want_f hu
      · intro hc l W hS
        first | exact absurd hc (by decide) | exact ⟨(if_neg (by rw [hc]; simp)).symm, hS⟩
      intro hc l a W H
      have e22 : a.eval (.tmp 22) = insV i u := by
        have e : a.eval (.tmp 22) = if (!(c1 || c2)) = true then insV i u else undef := H.facts 22 rfl
        rw [if_pos hc] at e
        exact e
      have e25 : a.eval (.tmp 25) = .string (nm8 i.k) := by
        have e : a.eval (.tmp 25) = if (!(c1 || c2)) = true then .string (nm8 i.k) else undef := H.facts 25 rfl
        rw [if_pos hc] at e
        exact e
      have ea : (#[.tmp 22, .tmp 25] : Array Operand).map a.eval = #[insV i u, .string (nm8 i.k)] := by
        simp only [List.map_toArray, List.map_cons, List.map_nil, e22, e25]
      rw [ea]
      refine (zero_any i u (nm8 i.k) W (hu.below H.s) (nm8_small i.k)).mono ?_
      rintro y w' ⟨rfl, hB⟩
      exact ⟨_, rfl, by rw [hz]; exact (if_pos hc).symm, bel_of H.s hB, fun _ _ _ h => h⟩
    · refine asked_guard (c := (!(c1 || c2))) (v := .bool (!z)) rfl rfl rfl rfl (fun _ _ h => h) ?_ (fun _ _ _ => rfl) ?_
      · intro l u W _ hu
        have hu : u = .bool (c1 || c2) := hu
        exact want_f hu
      intro hc l a W H
      have e26 : a.eval (.tmp 26) = .bool (z) := by
        have e : a.eval (.tmp 26) = if (!(c1 || c2)) = true then .bool (z) else undef := H.facts 26 rfl
        rw [if_pos hc] at e
        exact e
      exact run_not rfl e26
    · refine asked_pure rfl rfl (fun _ _ h => h) (fun _ _ _ => rfl) (fun l a W H => ?_)
      have e21 : a.eval (.tmp 21) = .bool (c1 || c2) := H.facts 21 rfl
      exact run_pick_or rfl e21 (fun hb => by
        have hc : (!(c1 || c2)) = true := by simp_all
        have e27 : a.eval (.tmp 27) = .bool (!z) := by
          have e : a.eval (.tmp 27) = if (!(c1 || c2)) = true then .bool (!z) else undef := H.facts 27 rfl
          rw [if_pos hc] at e
          exact e
        exact e27)
    · refine asked_pure rfl rfl (fun _ _ h => h) (fun _ _ _ => rfl) (fun l a W H => ?_)
      have e28 : a.eval (.tmp 28) = .bool ((c1 || c2) || !z) := H.facts 28 rfl
      exact run_move rfl e28
    · refine asked_guard (c := (!((c1 || c2) || !z))) (v := .pointer (some ⟨g, 0, none⟩)) rfl rfl rfl rfl (fun _ _ h => h) ?_ (fun _ _ _ => rfl) ?_
      · intro l u W _ hu
        have hu : u = .bool ((c1 || c2) || !z) := hu
        exact want_f hu
      intro hc l a W H
      have e3 : a.eval (.tmp 3) = .pointer (some ⟨g, 0, none⟩) := H.base 3 rfl
      (simp only [execOp]; try simp only [Option.map]); (try simp only [List.map_toArray, List.map_cons, List.map_nil]); (simp only [e3]; go_simp)
    · refine asked_guard (c := (!((c1 || c2) || !z))) (v := .int .u8 i.k) rfl rfl rfl rfl (fun _ _ h => h) ?_ (fun _ _ _ => rfl) ?_
      · intro l u W _ hu
        have hu : u = .bool ((c1 || c2) || !z) := hu
        exact want_f hu
      intro hc l a W H
      have e30 : a.eval (.tmp 30) = .pointer (some ⟨g, 0, none⟩) := by
        have e : a.eval (.tmp 30) = if (!((c1 || c2) || !z)) = true then .pointer (some ⟨g, 0, none⟩) else undef := H.facts 30 rfl
        rw [if_pos hc] at e
        exact e
      have hcc := cell_below H.s hi.c0
      (simp only [execOp]; try simp only [Option.map]); (try simp only [List.map_toArray, List.map_cons, List.map_nil]); (simp only [e30]; go_simp)
    · refine asked_guard (c := (!((c1 || c2) || !z))) (v := .bool (c3)) rfl rfl rfl rfl (fun _ _ h => h) ?_ (fun _ _ _ => rfl) ?_
      · intro l u W _ hu
        have hu : u = .bool ((c1 || c2) || !z) := hu
        exact want_f hu
      intro hc l a W H
      have e31 : a.eval (.tmp 31) = .int .u8 i.k := by
        have e : a.eval (.tmp 31) = if (!((c1 || c2) || !z)) = true then .int .u8 i.k else undef := H.facts 31 rfl
        rw [if_pos hc] at e
        exact e
      rw [← h3]
      (simp only [execOp]; try simp only [Option.map]); (try simp only [List.map_toArray, List.map_cons, List.map_nil]); (simp only [e31]; go_simp)
    · refine asked_guard (c := (!((c1 || c2) || !z))) (v := .bool (c3)) rfl rfl rfl rfl (fun _ _ h => h) ?_ (fun _ _ _ => rfl) ?_
      · intro l u W _ hu
        have hu : u = .bool ((c1 || c2) || !z) := hu
        exact want_f hu
      intro hc l a W H
      have e32 : a.eval (.tmp 32) = .bool (c3) := by
        have e : a.eval (.tmp 32) = if (!((c1 || c2) || !z)) = true then .bool (c3) else undef := H.facts 32 rfl
        rw [if_pos hc] at e
        exact e
      exact run_move rfl e32
    · refine asked_guard (c := ((!((c1 || c2) || !z)) && (c3))) (v := .pointer (some ⟨g, 1, none⟩)) rfl rfl rfl rfl (fun _ _ h => h) ?_ (fun _ _ _ => rfl) ?_
      · intro l u W _ hu
        have hu : u = if (!((c1 || c2) || !z)) = true then .bool (c3) else undef := hu
        exact want_nt hu
      intro hc l a W H
      have e3 : a.eval (.tmp 3) = .pointer (some ⟨g, 0, none⟩) := H.base 3 rfl
      (simp only [execOp]; try simp only [Option.map]); (try simp only [List.map_toArray, List.map_cons, List.map_nil]); (simp only [e3]; go_simp)
    · refine asked_guard (c := ((!((c1 || c2) || !z)) && (c3))) (v := .int .u8 i.op) rfl rfl rfl rfl (fun _ _ h => h) ?_ (fun _ _ _ => rfl) ?_
      · intro l u W _ hu
        have hu : u = if (!((c1 || c2) || !z)) = true then .bool (c3) else undef := hu
        exact want_nt hu
      intro hc l a W H
      have e34 : a.eval (.tmp 34) = .pointer (some ⟨g, 1, none⟩) := by
        have e : a.eval (.tmp 34) = if ((!((c1 || c2) || !z)) && (c3)) = true then .pointer (some ⟨g, 1, none⟩) else undef := H.facts 34 rfl
        rw [if_pos hc] at e
        exact e
      have hcc : W.cell? ⟨g, 1, none⟩ = some (.int .u8 i.op) := cell_below H.s hi.c1
      (simp only [execOp]; try simp only [Option.map]); (try simp only [List.map_toArray, List.map_cons, List.map_nil]); (simp only [e34]; go_simp)
    · refine asked_guard (c := ((!((c1 || c2) || !z)) && (c3))) (v := .bool (c4)) rfl rfl rfl rfl (fun _ _ h => h) ?_ (fun _ _ _ => rfl) ?_
      · intro l u W _ hu
        have hu : u = if (!((c1 || c2) || !z)) = true then .bool (c3) else undef := hu
        exact want_nt hu
      intro hc l a W H
      have e35 : a.eval (.tmp 35) = .int .u8 i.op := by
        have e : a.eval (.tmp 35) = if ((!((c1 || c2) || !z)) && (c3)) = true then .int .u8 i.op else undef := H.facts 35 rfl
        rw [if_pos hc] at e
        exact e
      rw [← h4]
      (simp only [execOp]; try simp only [Option.map]); (try simp only [List.map_toArray, List.map_cons, List.map_nil]); (simp only [e35]; go_simp)
    · refine asked_guard (c := ((!((c1 || c2) || !z)) && (c3))) (v := .bool (c4)) rfl rfl rfl rfl (fun _ _ h => h) ?_ (fun _ _ _ => rfl) ?_
      · intro l u W _ hu
        have hu : u = if (!((c1 || c2) || !z)) = true then .bool (c3) else undef := hu
        exact want_nt hu
      intro hc l a W H
      have e36 : a.eval (.tmp 36) = .bool (c4) := by
        have e : a.eval (.tmp 36) = if ((!((c1 || c2) || !z)) && (c3)) = true then .bool (c4) else undef := H.facts 36 rfl
        rw [if_pos hc] at e
        exact e
      exact run_move rfl e36
    · refine asked_guard (c := (((!((c1 || c2) || !z)) && (c3)) && (!(c4)))) (v := .pointer (some ⟨g, 1, none⟩)) rfl rfl rfl rfl (fun _ _ h => h) ?_ (fun _ _ _ => rfl) ?_
      · intro l u W _ hu
        have hu : u = if ((!((c1 || c2) || !z)) && (c3)) = true then .bool (c4) else undef := hu
        exact want_nf hu
      intro hc l a W H
      have e3 : a.eval (.tmp 3) = .pointer (some ⟨g, 0, none⟩) := H.base 3 rfl
      (simp only [execOp]; try simp only [Option.map]); (try simp only [List.map_toArray, List.map_cons, List.map_nil]); (simp only [e3]; go_simp)
    · refine asked_guard (c := (((!((c1 || c2) || !z)) && (c3)) && (!(c4)))) (v := .int .u8 i.op) rfl rfl rfl rfl (fun _ _ h => h) ?_ (fun _ _ _ => rfl) ?_
      · intro l u W _ hu
        have hu : u = if ((!((c1 || c2) || !z)) && (c3)) = true then .bool (c4) else undef := hu
        exact want_nf hu
      intro hc l a W H
      have e38 : a.eval (.tmp 38) = .pointer (some ⟨g, 1, none⟩) := by
        have e : a.eval (.tmp 38) = if (((!((c1 || c2) || !z)) && (c3)) && (!(c4))) = true then .pointer (some ⟨g, 1, none⟩) else undef := H.facts 38 rfl
        rw [if_pos hc] at e
        exact e
      have hcc : W.cell? ⟨g, 1, none⟩ = some (.int .u8 i.op) := cell_below H.s hi.c1
      (simp only [execOp]; try simp only [Option.map]); (try simp only [List.map_toArray, List.map_cons, List.map_nil]); (simp only [e38]; go_simp)
    · refine asked_guard (c := (((!((c1 || c2) || !z)) && (c3)) && (!(c4)))) (v := .bool (c5)) rfl rfl rfl rfl (fun _ _ h => h) ?_ (fun _ _ _ => rfl) ?_
      · intro l u W _ hu
        have hu : u = if ((!((c1 || c2) || !z)) && (c3)) = true then .bool (c4) else undef := hu
        exact want_nf hu
      intro hc l a W H
      have e39 : a.eval (.tmp 39) = .int .u8 i.op := by
        have e : a.eval (.tmp 39) = if (((!((c1 || c2) || !z)) && (c3)) && (!(c4))) = true then .int .u8 i.op else undef := H.facts 39 rfl
        rw [if_pos hc] at e
        exact e
      rw [← h5]
      (simp only [execOp]; try simp only [Option.map]); (try simp only [List.map_toArray, List.map_cons, List.map_nil]); (simp only [e39]; go_simp)
    · refine asked_guard (c := ((!((c1 || c2) || !z)) && (c3))) (v := .bool (c4 || c5)) rfl rfl rfl rfl (fun _ _ h => h) ?_ (fun _ _ _ => rfl) ?_
      · intro l u W _ hu
        have hu : u = if (!((c1 || c2) || !z)) = true then .bool (c3) else undef := hu
        exact want_nt hu
      intro hc l a W H
      have e37 : a.eval (.tmp 37) = .bool (c4) := by
        have e : a.eval (.tmp 37) = if ((!((c1 || c2) || !z)) && (c3)) = true then .bool (c4) else undef := H.facts 37 rfl
        rw [if_pos hc] at e
        exact e
      exact run_pick_or rfl e37 (fun hb => by
        have hc : (((!((c1 || c2) || !z)) && (c3)) && (!(c4))) = true := by simp_all
        have e40 : a.eval (.tmp 40) = .bool (c5) := by
          have e : a.eval (.tmp 40) = if (((!((c1 || c2) || !z)) && (c3)) && (!(c4))) = true then .bool (c5) else undef := H.facts 40 rfl
          rw [if_pos hc] at e
          exact e
        exact e40)
    · refine asked_guard (c := (!((c1 || c2) || !z))) (v := .bool (c3 && (c4 || c5))) rfl rfl rfl rfl (fun _ _ h => h) ?_ (fun _ _ _ => rfl) ?_
      · intro l u W _ hu
        have hu : u = .bool ((c1 || c2) || !z) := hu
        exact want_f hu
      intro hc l a W H
      have e33 : a.eval (.tmp 33) = .bool (c3) := by
        have e : a.eval (.tmp 33) = if (!((c1 || c2) || !z)) = true then .bool (c3) else undef := H.facts 33 rfl
        rw [if_pos hc] at e
        exact e
      exact run_pick_and rfl e33 (fun hb => by
        have hc : ((!((c1 || c2) || !z)) && (c3)) = true := by simp_all
        have e41 : a.eval (.tmp 41) = .bool (c4 || c5) := by
          have e : a.eval (.tmp 41) = if ((!((c1 || c2) || !z)) && (c3)) = true then .bool (c4 || c5) else undef := H.facts 41 rfl
          rw [if_pos hc] at e
          exact e
        exact e41)
    · refine asked_pure rfl rfl (fun _ _ h => h) (fun _ _ _ => rfl) (fun l a W H => ?_)
      have e29 : a.eval (.tmp 29) = .bool ((c1 || c2) || !z) := H.facts 29 rfl
      exact run_pick_or rfl e29 (fun hb => by
        have hc : (!((c1 || c2) || !z)) = true := by simp_all
        have e42 : a.eval (.tmp 42) = .bool (c3 && (c4 || c5)) := by
          have e : a.eval (.tmp 42) = if (!((c1 || c2) || !z)) = true then .bool (c3 && (c4 || c5)) else undef := H.facts 42 rfl
          rw [if_pos hc] at e
          exact e
        exact e42)
  · intro l s W _ hS hs
    have h43 : s 43 = .bool (((c1 || c2) || !z) || (c3 && (c4 || c5))) := hs 43 rfl
    rw [HF'] at h43
    have I1 := hide (hi.below hS)
    have U1 := hide (hu.below hS)
    have hBw1 := hide (bel_of hB0 hS)
    subst h0u
    rw [← hgz] at I1
    clear hs hS hk16 h1 h2 h3 h4 h5 hz HF' HF hi hu hi0 HU hgsz hB0
    subst hgz
    obtain ⟨c0, cc1, cc2, cc3, cc4, cc5, cc6⟩ := I1.out.zero
    cases hf : formed8 i with
    | false =>
      have he : Hid (mF i v s0 = 20) := by show _ = _; rw [mF_ref, if_pos hf]
      rw [hf] at h43
      simp [overlay, dstsOf, h43]
      go_wp2
      go_ret
      exact ⟨by rw [he.out]; rfl, hBw1.out⟩
    | true =>
      rw [hf] at h43
      simp [overlay, dstsOf, h43]
      clear h43
      by_cases h3 : 3 < i.args.length
      · have he : Hid (mF i v s0 = 25) := by show _ = _; rw [mF_ref, if_neg (by simp [hf]), if_pos h3]
        have h3' : (3 : Int) < (i.args.length : Int) := by omega
        go_wp2_with fail
        go_ret
        exact ⟨by rw [he.out]; rfl, hBw1.out⟩
      · have he : Hid (mF i v s0 = if (named i).all (inr · v) then (if badS i s0 then 24 else 0) else 23) := by show _ = _; rw [mF_ref, if_neg (by simp [hf]), if_neg h3]
        have h3' : (i.args.length : Int) ≤ 3 := by omega
        have hlen := uses_len (i := i) (by omega)
        have hgl : w.heap.size < W.heap.size := World.block_lt_of_cell? W _ c0
        have hO1 := args_empty W W.heap.size (Nat.le_refl _)
        have hBe := bel1 W (.cells #[] 3)
        have hUs := hide (refUses_any i _ _ (U1.out.below hBe))
        obtain ⟨k0, k1, k2, k3, k4, k5, k6⟩ := (I1.out.below hBe).zero
        unfold insV at hUs
        have HO1 := hide hO1
        clear hf h3 hO1
        go_wp2_with fail
        refine hUs.out.mono ?_
        rintro y w2 ⟨u2, rfl, hV, hB2⟩
        have hO2 := owns_below HO1.out hB2
        have hBx := bel_of hBe hB2
        obtain ⟨d0, d1, d2, d3, d4, d5, d6⟩ := (I1.out.below hBx).zero
        have hsz2 : W.heap.size ≤ w2.heap.size := hBx.size
        obtain ⟨au2, cu2, rfl⟩ := hV.slice
        clear hUs HO1 hB2 U1 c0 cc1 cc2 cc3 cc4 cc5 cc6 hBe k0 k1 k2 k3 k4 k5 k6
        go_wp2_with (at_builtin; go_must (refine wpList_append_ints _ rfl (.tmp 48) (.tmp 50) rfl W.heap.size _ _ rfl hO2 _ _ rfl hV (by simp; omega) hsz2 ?_))
        intro v3 w3 hO3 hg3
        have hO3 : ArgsO W.heap.size w3 v3 (uses i) := hO3
        have hB3 := hBx.grown hg3 hsz2 (fun k hk => (hO2.lt k hk).1)
        have hGv := hide (refGives_any i.k w3)
        obtain ⟨k0, k1, k2, k3, k4, k5, k6⟩ := (I1.out.below hB3).zero
        have HO3 := hide hO3
        have HB3 := hide hB3
        obtain ⟨a3, cp3, hv3⟩ := hO3.v.slice
        subst hv3
        clear hO3 hB3 hBx hO2 hV hg3 d0 d1 d2 d3 d4 d5 d6 hsz2
        go_wp2_with fail
        refine hGv.out.mono ?_
        rintro y w4 ⟨rfl, rfl⟩
        cases hg : gives i.k with
        | true =>
          have hLn : named i = uses i ++ [i.d] := by simp [named, hg]
          have hBd := bel1 w4 (.cells #[.int .i64 i.d] 3)
          have hOd := owns_below HO3.out hBd
          have hVd := ints1 w4 i.d
          have hszd : W.heap.size ≤ (w4.alloc (.cells #[.int .i64 i.d] 3)).heap.size := Nat.le_trans HB3.out.size hBd.size
          have HBd := hide (HB3.out.trans (hBd.mono HB3.out.size))
          have HLn := hide hLn
          clear hGv hBd hLn hg
          go_wp2_with (at_builtin; go_must (refine wpList_append_ints _ rfl (.tmp 55) (.tmp 58) rfl W.heap.size _ _ rfl hOd _ _ rfl hVd (by simp; omega) hszd ?_))
          intro v5 w5 hO5 hg5
          have hB5 := HBd.out.grown hg5 hszd (fun k hk => (hOd.lt k hk).1)
          have hO5 : ArgsO W.heap.size w5 v5 (uses i ++ [i.d]) := hO5
          rw [← HLn.out] at hO5
          obtain ⟨k0, k1, k2, k3, k4, k5, k6⟩ := (I1.out.below hB5).zero
          have hv5 := hide hO5.v
          have hW5 := hide (bel_of hBw1.out hB5)
          have hLl : (named i).length ≤ 4 := by rw [HLn.out, List.length_append]; simp; omega
          obtain ⟨a5, cp5, hv5e⟩ := hO5.v.slice
          subst hv5e
          clear hO5 hg5 hOd hVd hszd HBd HLn HO3 HB3 hB5 I1 hBw1
          generalize named i = L at *
          go_wp2_with fail
          go_loop [9] (fun iv => ∃ j : Nat, j ≤ L.length ∧ iv = .int .i64 j ∧ Hid (L.all (inr · v) = (L.drop j).all (inr · v))) (fun iv => L.length - (intOf iv).toNat)
          case atStart => exact ⟨0, by omega, rfl, rfl⟩
          case round =>
            obtain ⟨j, hj, rfl, hall⟩ := hrel
            by_cases hlt : j < L.length
            · obtain ⟨bb, off, rfl, hcx⟩ := hv5.out.at j hlt
              have hdr := hide (drop_getD hlt)
              generalize L.getD j 0 = x at *
              have hlt' : (j : Int) < (L.length : Int) := by omega
              by_cases x0 : x < 0
              · have hall2 : Hid (L.all (inr · v) = false) := by
                  show _ = _
                  rw [hall.out, hdr.out, List.all_cons]
                  have : inr x v = false := by simp [inr]; omega
                  rw [this, Bool.false_and]
                clear hall hdr
                go_wp2_with fail
                go_ret
                exact ⟨by rw [he.out, hall2.out]; rfl, hW5.out⟩
              · by_cases x1 : x < v
                · have hall2 : Hid (L.all (inr · v) = (L.drop (j + 1)).all (inr · v)) := by
                    show _ = _
                    rw [hall.out, hdr.out, List.all_cons]
                    have : inr x v = true := by simp [inr]; omega
                    rw [this, Bool.true_and]
                  have x0' : 0 ≤ x := by omega
                  clear hall hdr
                  go_wp2_with fail
                  go_round
                  case rel => exact ⟨j + 1, by omega, by go_num, hall2⟩
                  case measure => simp [intOf]; omega
                · have hall2 : Hid (L.all (inr · v) = false) := by
                    show _ = _
                    rw [hall.out, hdr.out, List.all_cons]
                    have : inr x v = false := by simp [inr]; omega
                    rw [this, Bool.false_and]
                  have x0' : 0 ≤ x := by omega
                  have x1' : v ≤ x := by omega
                  clear hall hdr
                  go_wp2_with fail
                  go_ret
                  exact ⟨by rw [he.out, hall2.out]; rfl, hW5.out⟩
            · obtain rfl : j = L.length := by omega
              have hall2 : Hid (L.all (inr · v) = true) := by
                show _ = _
                rw [hall.out]
                simp
              clear hall
              by_cases hk7 : i.k = 7
              · have b7 : (i.k == 7) = true := by simp [hk7]
                have b8 : (i.k == 8) = false := by simp [hk7]
                by_cases d0 : i.d < 0
                · have hsl : Hid (badS i s0 = true) := by show _ = _; simp [badS, inr, hk7]; omega
                  clear hk7
                  go_wp2_with fail
                  go_ret
                  exact ⟨by rw [he.out, hall2.out, hsl.out]; rfl, hW5.out⟩
                · have d0' : 0 ≤ i.d := by omega
                  by_cases d1 : i.d < s0
                  · have hsl : Hid (badS i s0 = false) := by show _ = _; simp [badS, inr, hk7]; omega
                    clear hk7
                    go_wp2_with fail
                    go_ret
                    exact ⟨by rw [he.out, hall2.out, hsl.out]; rfl, hW5.out⟩
                  · have hsl : Hid (badS i s0 = true) := by show _ = _; simp [badS, inr, hk7]; omega
                    have d1' : s0 ≤ i.d := by omega
                    clear hk7
                    go_wp2_with fail
                    go_ret
                    exact ⟨by rw [he.out, hall2.out, hsl.out]; rfl, hW5.out⟩
              · have b7 : (i.k == 7) = false := by simp [hk7]
                by_cases hk8 : i.k = 8
                · have b8 : (i.k == 8) = true := by simp [hk8]
                  by_cases d0 : i.a < 0
                  · have hsl : Hid (badS i s0 = true) := by show _ = _; simp [badS, inr, hk8]; omega
                    clear hk7 hk8
                    go_wp2_with fail
                    go_ret
                    exact ⟨by rw [he.out, hall2.out, hsl.out]; rfl, hW5.out⟩
                  · have d0' : 0 ≤ i.a := by omega
                    by_cases d1 : i.a < s0
                    · have hsl : Hid (badS i s0 = false) := by show _ = _; simp [badS, inr, hk8]; omega
                      clear hk7 hk8
                      go_wp2_with fail
                      go_ret
                      exact ⟨by rw [he.out, hall2.out, hsl.out]; rfl, hW5.out⟩
                    · have hsl : Hid (badS i s0 = true) := by show _ = _; simp [badS, inr, hk8]; omega
                      have d1' : s0 ≤ i.a := by omega
                      clear hk7 hk8
                      go_wp2_with fail
                      go_ret
                      exact ⟨by rw [he.out, hall2.out, hsl.out]; rfl, hW5.out⟩
                · have b8 : (i.k == 8) = false := by simp [hk8]
                  have hsl : Hid (badS i s0 = false) := by show _ = _; simp [badS, hk7, hk8]
                  clear hk7 hk8
                  go_wp2_with fail
                  go_ret
                  exact ⟨by rw [he.out, hall2.out, hsl.out]; rfl, hW5.out⟩
        | false =>
          have hLn : named i = uses i := by simp [named, hg]
          rw [← hLn] at HO3
          have hv5 := hide HO3.out.v
          have hW5 := hide (bel_of hBw1.out HB3.out)
          have hLl : (named i).length ≤ 4 := by rw [hLn]; omega
          have hln2 : (uses i).length = (named i).length := by rw [hLn]
          rw [hln2]
          clear hGv hLn hg hln2 HO3 HB3 I1 hBw1 hlen
          generalize named i = L at *
          go_wp2_with fail
          go_loop [9] (fun iv => ∃ j : Nat, j ≤ L.length ∧ iv = .int .i64 j ∧ Hid (L.all (inr · v) = (L.drop j).all (inr · v))) (fun iv => L.length - (intOf iv).toNat)
          case atStart => exact ⟨0, by omega, rfl, rfl⟩
          case round =>
            obtain ⟨j, hj, rfl, hall⟩ := hrel
            by_cases hlt : j < L.length
            · obtain ⟨bb, off, rfl, hcx⟩ := hv5.out.at j hlt
              have hdr := hide (drop_getD hlt)
              generalize L.getD j 0 = x at *
              have hlt' : (j : Int) < (L.length : Int) := by omega
              by_cases x0 : x < 0
              · have hall2 : Hid (L.all (inr · v) = false) := by
                  show _ = _
                  rw [hall.out, hdr.out, List.all_cons]
                  have : inr x v = false := by simp [inr]; omega
                  rw [this, Bool.false_and]
                clear hall hdr
                go_wp2_with fail
                go_ret
                exact ⟨by rw [he.out, hall2.out]; rfl, hW5.out⟩
              · by_cases x1 : x < v
                · have hall2 : Hid (L.all (inr · v) = (L.drop (j + 1)).all (inr · v)) := by
                    show _ = _
                    rw [hall.out, hdr.out, List.all_cons]
                    have : inr x v = true := by simp [inr]; omega
                    rw [this, Bool.true_and]
                  have x0' : 0 ≤ x := by omega
                  clear hall hdr
                  go_wp2_with fail
                  go_round
                  case rel => exact ⟨j + 1, by omega, by go_num, hall2⟩
                  case measure => simp [intOf]; omega
                · have hall2 : Hid (L.all (inr · v) = false) := by
                    show _ = _
                    rw [hall.out, hdr.out, List.all_cons]
                    have : inr x v = false := by simp [inr]; omega
                    rw [this, Bool.false_and]
                  have x0' : 0 ≤ x := by omega
                  have x1' : v ≤ x := by omega
                  clear hall hdr
                  go_wp2_with fail
                  go_ret
                  exact ⟨by rw [he.out, hall2.out]; rfl, hW5.out⟩
            · obtain rfl : j = L.length := by omega
              have hall2 : Hid (L.all (inr · v) = true) := by
                show _ = _
                rw [hall.out]
                simp
              clear hall
              by_cases hk7 : i.k = 7
              · have b7 : (i.k == 7) = true := by simp [hk7]
                have b8 : (i.k == 8) = false := by simp [hk7]
                by_cases d0 : i.d < 0
                · have hsl : Hid (badS i s0 = true) := by show _ = _; simp [badS, inr, hk7]; omega
                  clear hk7
                  go_wp2_with fail
                  go_ret
                  exact ⟨by rw [he.out, hall2.out, hsl.out]; rfl, hW5.out⟩
                · have d0' : 0 ≤ i.d := by omega
                  by_cases d1 : i.d < s0
                  · have hsl : Hid (badS i s0 = false) := by show _ = _; simp [badS, inr, hk7]; omega
                    clear hk7
                    go_wp2_with fail
                    go_ret
                    exact ⟨by rw [he.out, hall2.out, hsl.out]; rfl, hW5.out⟩
                  · have hsl : Hid (badS i s0 = true) := by show _ = _; simp [badS, inr, hk7]; omega
                    have d1' : s0 ≤ i.d := by omega
                    clear hk7
                    go_wp2_with fail
                    go_ret
                    exact ⟨by rw [he.out, hall2.out, hsl.out]; rfl, hW5.out⟩
              · have b7 : (i.k == 7) = false := by simp [hk7]
                by_cases hk8 : i.k = 8
                · have b8 : (i.k == 8) = true := by simp [hk8]
                  by_cases d0 : i.a < 0
                  · have hsl : Hid (badS i s0 = true) := by show _ = _; simp [badS, inr, hk8]; omega
                    clear hk7 hk8
                    go_wp2_with fail
                    go_ret
                    exact ⟨by rw [he.out, hall2.out, hsl.out]; rfl, hW5.out⟩
                  · have d0' : 0 ≤ i.a := by omega
                    by_cases d1 : i.a < s0
                    · have hsl : Hid (badS i s0 = false) := by show _ = _; simp [badS, inr, hk8]; omega
                      clear hk7 hk8
                      go_wp2_with fail
                      go_ret
                      exact ⟨by rw [he.out, hall2.out, hsl.out]; rfl, hW5.out⟩
                    · have hsl : Hid (badS i s0 = true) := by show _ = _; simp [badS, inr, hk8]; omega
                      have d1' : s0 ≤ i.a := by omega
                      clear hk7 hk8
                      go_wp2_with fail
                      go_ret
                      exact ⟨by rw [he.out, hall2.out, hsl.out]; rfl, hW5.out⟩
                · have b8 : (i.k == 8) = false := by simp [hk8]
                  have hsl : Hid (badS i s0 = false) := by show _ = _; simp [badS, hk7, hk8]
                  clear hk7 hk8
                  go_wp2_with fail
                  go_ret
                  exact ⟨by rw [he.out, hall2.out, hsl.out]; rfl, hW5.out⟩
end Go.Proofs.Ytbjnhicikkjadaa
