/- What stands while the document's Blocks reads an instruction; 'i.Args = append(i.Args, r.Below(4096))'. -/
import Derived.Test.YtbjnhicikkjadaaBc
import Derived.Test.YtbjnhicikkjadaaTb
import Derived.Test.YtbjnhicikkjadaaMk6
namespace Go.Proofs.Ytbjnhicikkjadaa
open Go Go.RowKit Ir Wire

theorem refBelow_t (p b : Nat) (xs : List Int) (code : Int) (lim : Nat) (w : World) (h : Lb.RdrAt w p b xs code) (hl : 0 < lim) (hm : lim ≤ 100000) :
    Calls Try.prog 46 #[.pointer (some ⟨p, 0, none⟩), .int .i64 lim] w (RdPost w p b (belP lim) xs code (IntIn lim)) := by
  refine (Lb.refBelow_any p b xs code lim w h (by omega)).mono ?_
  rintro e w' ⟨rfl, h1, h2⟩
  exact ⟨_, _, _, _, rfl, ⟨rfl, belA_in _ _ hl⟩, took_bel xs code lim hl, h1, h2⟩
theorem byt_block {w : World} {v : Value} {xs : List Int} (h : Lb.Byt w v xs) (hw : 0 < w.heap.size) : ∃ b, b < w.heap.size ∧ Lb.BytAt b w v xs := by
  obtain ⟨b, hb⟩ := h
  by_cases h0 : 0 < xs.length
  · exact ⟨b, hb.lt h0, hb⟩
  · obtain ⟨h1, ao, cap, h2, h3, h4, h5, _⟩ := hb
    exact ⟨0, hw, h1, ao, cap, h2, h3, h4, h5, fun h => absurd h h0⟩
theorem rdr_box {w : World} {v : Value} {xs : List Int} {b : Nat} (h : Lb.BytAt b w v xs) (hb : b < w.heap.size) (c : Int) : Lb.RdrAt (w.alloc (.cells #[v, .int .i64 c] 107)) w.heap.size b xs c := by
  have hr := heap_alloc_new w (.cells #[v, .int .i64 c] 107)
  refine ⟨v, by rw [cell_of_row _ _ _ _ _ _ hr]; rfl, by rw [cell_of_row _ _ _ _ _ _ hr]; rfl, frozen_of_row _ _ _ _ _ hr, frozen_of_row _ _ _ _ _ hr, ?_, by omega⟩
  obtain ⟨h1, ao, cap, h2, h3, h4, h5, h6⟩ := h
  refine ⟨h1, ao, cap, h2, h3, h4, h5, fun h => ?_⟩
  obtain ⟨off, e, hc⟩ := h6 h
  exact ⟨off, e, fun j hj => cell_below (bel1' w _) (hc j hj)⟩
/-- The reader stands at ys, with the fault c; nothing but it and what is new has turned since W0. -/
structure St8 (W0 : World) (p b : Nat) (w : World) (ys : List Int) (c : Int) : Prop where
  rdr : Lb.RdrAt w p b ys c
  grown : W0.grownBy w (some p)
  pb : p < W0.heap.size ∧ b < W0.heap.size
theorem St8.sz {W0 w : World} {p b : Nat} {ys : List Int} {c : Int} (h : St8 W0 p b w ys c) : W0.heap.size ≤ w.heap.size := h.grown.size
theorem St8.call {W0 w w' : World} {p b : Nat} {ys zs : List Int} {c d : Int} (h : St8 W0 p b w ys c) (hR : Lb.RdrAt w' p b zs d) (hg : w.grownBy w' (some p)) : St8 W0 p b w' zs d :=
  ⟨hR, Lb.grownBy_trans h.grown hg, h.pb⟩
theorem St8.new {W0 w w' : World} {p b : Nat} {r : Option Nat} {ys : List Int} {c : Int} (h : St8 W0 p b w ys c) (hg : w.grownBy w' r) (hr : ∀ k, r = some k → W0.heap.size ≤ k) : St8 W0 p b w' ys c :=
  ⟨rdr_kept h.rdr hg (fun e => by have := hr p e; have := h.pb.1; omega) (fun e => by have := hr b e; have := h.pb.2; omega), grown_new h.grown hg hr, h.pb⟩
theorem St8.set {W0 w : World} {p b g k : Nat} {v : Value} {ys : List Int} {c : Int} (h : St8 W0 p b w ys c) (hg : W0.heap.size ≤ g) : St8 W0 p b (w.setCell ⟨g, k, none⟩ v) ys c :=
  h.new (Lb.grownBy_setCell w g k v) (fun k hk => by simp at hk; omega)
theorem St8.alloc {W0 w : World} {p b : Nat} {ys : List Int} {c : Int} (h : St8 W0 p b w ys c) (o : Obj) : St8 W0 p b (w.alloc o) ys c :=
  h.call (h.rdr.below (bel1' w o)) (Lb.grownBy_below (bel1' w o) (some p))
/-- Its box, too: what of the instruction was read. -/
structure InsB (W0 : World) (p b g : Nat) (w : World) (i : Ins) (ys : List Int) (c : Int) : Prop where
  st : St8 W0 p b w ys c
  box : ∃ u, w.heap[g]? = some (Obj.cells (rowI i u) 86 (0, 0)) ∧ ArgsO W0.heap.size w u i.args
  gb : W0.heap.size ≤ g
theorem InsB.call {W0 w w' : World} {p b g : Nat} {i : Ins} {ys zs : List Int} {c d : Int} (h : InsB W0 p b g w i ys c) (hR : Lb.RdrAt w' p b zs d) (hg : w.grownBy w' (some p)) : InsB W0 p b g w' i zs d := by
  obtain ⟨u, h1, h2⟩ := h.box
  exact ⟨h.st.call hR hg, ⟨u, grown_row hg h1 (by have := h.gb; have := h.st.pb; omega), h2.kept hg h.st.pb.1⟩, h.gb⟩
theorem InsB.set {W0 w : World} {p b g k : Nat} {i i' : Ins} {ys : List Int} {c : Int} {v : Value} (h : InsB W0 p b g w i ys c) (he : ∀ u, (rowI i u).setIfInBounds k v = rowI i' u) (ha : i'.args = i.args) : InsB W0 p b g (w.setCell ⟨g, k, none⟩ v) i' ys c := by
  obtain ⟨u, h1, h2⟩ := h.box
  refine ⟨h.st.set h.gb, ⟨u, ?_, ?_⟩, h.gb⟩
  · rw [heap_setCell_same w g k _ _ v h1, he]
  · rw [ha]
    exact ArgsO.keeps h2 (Keeps.set h1 rfl _)
/-- What is known of each temporary. -/
def G24 (B p g : Nat) (x : Int) (ua : Value) (us : List Int) : Tmp → Value → World → Prop
  | 91, xx, _ => xx = .pointer (some ⟨g, 6, none⟩)
  | 92, xx, _ => xx = ua
  | 93, xx, _ => xx = .pointer (some ⟨p, 0, none⟩)
  | 94, xx, _ => xx = .int .i64 x
  | 95, xx, ww => (∃ h, xx = .slice (some ⟨h, 0, none⟩) 1 1 ∧ ww.heap[h]? = some (Obj.cells #[.int .i64 x] 3 (0, 0)) ∧ ua.ownBlock ≠ some h)
  | 96, xx, ww => ArgsO B ww xx (us ++ [x])
  | 97, xx, _ => xx = .pointer (some ⟨g, 6, none⟩)
  | _, _, _ => True
structure S24 (W0 : World) (p b g : Nat) (i : Ins) (ua : Value) (xs : List Int) (c : Int) (ys : List Int) (d x : Int) (l : Nat → Bool) (W : World) : Prop where
  st : St8 W0 p b W (if l 3 = true then ys else xs) (if l 3 = true then d else c)
  own : ∀ k, ua.ownBlock = some k → k < W.heap.size
  args : l 5 = false → ArgsO W0.heap.size W ua i.args
  row : l 7 = false → W.heap[g]? = some (Obj.cells (rowI i ua) 86 (0, 0))
  done : l 7 = true → ∃ u, W.heap[g]? = some (Obj.cells (rowI ⟨i.k, i.op, i.d, i.a, i.b, i.n, i.args ++ [x]⟩ u) 86 (0, 0)) ∧ ArgsO W0.heap.size W u (i.args ++ [x])
  gb : W0.heap.size ≤ g
section
variable {W0 W W' : World} {p b g : Nat} {i : Ins} {ua : Value} {xs ys us : List Int} {c d x : Int} {l : Nat → Bool}
theorem G24_keeps {B : Nat} {t : Tmp} {y : Value} {T : TypeId → Bool} (h : G24 B p g x ua us t y W) (hk : Keeps T W W') (hT : T 3 = true := by rfl) : G24 B p g x ua us t y W' := by
  unfold G24 at h ⊢
  split
  all_goals
    first
      | exact h
      | exact owns_keeps h hk hT
      | (obtain ⟨k, e1, e2, e3⟩ := h; exact ⟨k, e1, hk _ _ _ _ hT e2, e3⟩)
      | trivial
theorem G24_app {B : Nat} {t : Tmp} {y : Value} (h : G24 B p g x ua us t y W) (ht : some t ≠ some 96) (hg : W.grownBy W' ua.ownBlock) : G24 B p g x ua us t y W' := by
  unfold G24 at h ⊢
  split
  all_goals
    first
      | exact h
      | exact absurd rfl ht
      | (obtain ⟨k, e1, e2, e3⟩ := h; exact ⟨k, e1, by rw [hg.block k (Array.getElem?_eq_some_iff.1 e2).1 (fun e => e3 e.symm)]; exact e2, e3⟩)
      | trivial
theorem G24_grown {B : Nat} {t : Tmp} {y : Value} (h : G24 B p g x ua us t y W) (hg : W.grownBy W' (some p)) (hpB : p < B) (hne : ∀ k, W.heap[k]? = some (Obj.cells #[.int .i64 x] 3 (0, 0)) → k ≠ p) : G24 B p g x ua us t y W' := by
  unfold G24 at h ⊢
  split
  all_goals
    first
      | exact h
      | exact ArgsO.kept h hg hpB
      | (obtain ⟨k, e1, e2, e3⟩ := h; exact ⟨k, e1, grown_row hg e2 (hne k e2), e3⟩)
      | trivial
theorem S24.skip (h : S24 W0 p b g i ua xs c ys d x l W) {j : Nat} (h3 : j ≠ 3) (h5 : j ≠ 5) (h7 : j ≠ 7) : S24 W0 p b g i ua xs c ys d x (upd l j) W := by
  have u3 : upd l j 3 = l 3 := if_neg (fun e => h3 e.symm)
  have u5 : upd l j 5 = l 5 := if_neg (fun e => h5 e.symm)
  have u7 : upd l j 7 = l 7 := if_neg (fun e => h7 e.symm)
  exact ⟨by rw [u3]; exact h.st, h.own, by rw [u5]; exact h.args, by rw [u7]; exact h.row, by rw [u7]; exact h.done, h.gb⟩
theorem S24.rd0 (h : S24 W0 p b g i ua xs c ys d x l W) (hl : l 3 = false) : Lb.RdrAt W p b xs c := by
  have := h.st.rdr
  rwa [hl, if_neg (by simp), if_neg (by simp)] at this
theorem S24.call (h : S24 W0 p b g i ua xs c ys d x l W) (hR : Lb.RdrAt W' p b ys d) (hg : W.grownBy W' (some p)) : S24 W0 p b g i ua xs c ys d x (upd l 3) W' := by
  have hgp : g ≠ p := by have := h.gb; have := h.st.pb; omega
  refine ⟨?_, fun k hk => Nat.lt_of_lt_of_le (h.own k hk) hg.size, fun h5 => (h.args h5).kept hg h.st.pb.1, fun h7 => grown_row hg (h.row h7) hgp, fun h7 => ?_, h.gb⟩
  · have e : upd l 3 3 = true := by simp [upd]
    rw [e]
    exact h.st.call hR hg
  · obtain ⟨u, e1, e2⟩ := h.done h7
    exact ⟨u, grown_row hg e1 hgp, e2.kept hg h.st.pb.1⟩
theorem S24.alloc (h : S24 W0 p b g i ua xs c ys d x l W) (o : Obj) : S24 W0 p b g i ua xs c ys d x (upd l 4) (W.alloc o) := by
  have hB := bel1' W o
  have hk : Keeps (fun _ => true) W (W.alloc o) := Keeps.below hB
  refine ⟨h.st.alloc o, fun k hk' => Nat.lt_of_lt_of_le (h.own k hk') hB.size, fun h5 => owns_keeps (h.args h5) hk rfl, fun h7 => hk _ _ _ _ rfl (h.row h7), fun h7 => ?_, h.gb⟩
  obtain ⟨u, e1, e2⟩ := h.done h7
  exact ⟨u, hk _ _ _ _ rfl e1, owns_keeps e2 hk rfl⟩
theorem S24.app (h : S24 W0 p b g i ua xs c ys d x l W) (hO : ArgsO W0.heap.size W ua i.args) (hg : W.grownBy W' ua.ownBlock) (hl7 : l 7 = false) : S24 W0 p b g i ua xs c ys d x (upd l 5) W' := by
  have hk : Keeps (fun t => t != 3) W W' := Keeps.grown hO rfl hg
  refine ⟨h.st.new hg (fun k e => (hO.lt k e).1), fun k hk' => Nat.lt_of_lt_of_le (h.own k hk') hg.size, fun h5 => ?_, fun h7 => hk _ _ _ _ rfl (h.row h7), fun h7 => ?_, h.gb⟩
  · simp [upd] at h5
  · have h7' : l 7 = true := h7
    rw [hl7] at h7'
    cases h7'
theorem S24.store (h : S24 W0 p b g i ua xs c ys d x l W) {u : Value} (hr : W.heap[g]? = some (Obj.cells (rowI i ua) 86 (0, 0))) (hO : ArgsO W0.heap.size W u (i.args ++ [x])) : S24 W0 p b g i ua xs c ys d x (upd l 7) (W.setCell ⟨g, 6, none⟩ u) := by
  have hg := Lb.grownBy_setCell W g 6 u
  have hk : Keeps (fun t => t != 86) W (W.setCell ⟨g, 6, none⟩ u) := Keeps.set hr rfl u
  refine ⟨h.st.set h.gb, fun k hk' => Nat.lt_of_lt_of_le (h.own k hk') hg.size, fun h5 => owns_keeps (h.args h5) hk rfl, fun h7 => by simp [upd] at h7, fun _ => ⟨u, ?_, owns_keeps hO hk rfl⟩, h.gb⟩
  rw [heap_setCell_same W g 6 _ _ u hr]
  rfl
end
set_option maxHeartbeats 2000000 in
set_option maxRecDepth 100000 in
theorem r24_ok {Q : Exit → Act → World → Prop} {a0 : Act} {W0 wa : World} {p b g : Nat} {i : Ins} {xs : List Int} {c : Int} (hz : a0.tmps.size = 183) (b0 : a0.eval (.tmp 0) = .pointer (some ⟨p, 0, none⟩)) (b11 : a0.eval (.tmp 11) = .pointer (some ⟨g, 0, none⟩))
    (hI : InsB W0 p b g wa i xs c) (hl : i.args.length ≤ 1000)
    (hend : ∀ (s : Tmp → Value) (W : World) (x : Int) (ys : List Int) (d : Int), Took (belP 4096) xs c x ys d → InsB W0 p b g W ⟨i.k, i.op, i.d, i.a, i.b, i.n, i.args ++ [x]⟩ ys d → Q .normal (overlay a0 (dstsOf ops24) s) W) : (Code.region 24 ops24 true).wp Try.prog Q a0 wa := by
  have HC := hide (fun W (h : Lb.RdrAt W p b xs c) => Lb.refBelow_any p b xs c 4096 W h (by omega))
  have HT : Hid (Took (belP 4096) xs c (Leb.belA (Leb.numA xs c) 4096) (Leb.numL xs c) (Leb.belC (Leb.numA xs c) (Leb.numC xs c) 4096)) := hide (took_bel xs c 4096 (by omega))
  obtain ⟨x, hx⟩ : ∃ x, x = Leb.belA (Leb.numA xs c) 4096 := ⟨_, rfl⟩
  obtain ⟨ys, hys⟩ : ∃ ys, ys = Leb.numL xs c := ⟨_, rfl⟩
  obtain ⟨d, hd⟩ : ∃ d, d = Leb.belC (Leb.numA xs c) (Leb.numC xs c) 4096 := ⟨_, rfl⟩
  rw [← hx, ← hys, ← hd] at HC HT
  clear hx hys hd
  obtain ⟨ua, hr, hO⟩ := hI.box
  have hown : ∀ k, ua.ownBlock = some k → k < wa.heap.size := fun k e => (hO.lt k e).2
  have hua : ∃ aa an ac, ua = .slice aa an ac := owns_slice hO
  have hst := hI.st
  have hgb := hI.gb
  clear hI
  refine wp_region_each (by kernel_rfl) (fun t y W => G24 W0.heap.size p g x ua i.args t y W) (fun l W => S24 W0 p b g i ua xs c ys d x l W) (by rw [hz]; kernel_rfl) ⟨hst.call (hst.rdr.below (Below.refl _ _).drew) (Lb.grownBy_below (Below.refl _ _).drew (some p)), hown, fun _ => hO, fun _ => hr, fun h => by simp at h, hgb⟩ ?_ ?_
  · refine And.intro ?_ (And.intro ?_ (And.intro ?_ (And.intro ?_ (And.intro ?_ (And.intro ?_ (And.intro ?_ (And.intro ?_ trivial)))))))
    · refine asked_pure rfl rfl (fun _ _ h => h.skip (by decide) (by decide) (by decide)) (fun _ _ _ => rfl) (fun l a W H => ?_)
      have e11 : a.eval (.tmp 11) = .pointer (some ⟨g, 0, none⟩) := (H.base 11 rfl).trans b11
      (simp only [execOp]; try simp only [Option.map]); (try simp only [List.map_toArray, List.map_cons, List.map_nil]); (simp only [e11]; go_simp)
    · refine asked_any rfl (fun l a W H => ?_)
      have e91 : a.eval (.tmp 91) = .pointer (some ⟨g, 6, none⟩) := H.facts 91 rfl
      have hl7 : l 7 = false := by
        cases h7 : l 7 with
        | false => rfl
        | true =>
          have h1 := H.closed 5 1 (by rfl) (H.closed 7 5 (by rfl) h7)
          rw [H.new] at h1
          cases h1
      have hc : W.cell? ⟨g, 6, none⟩ = some ua := by rw [cell_of_row _ _ _ _ _ _ (H.s.row hl7)]; rfl
      refine ⟨ua, W, ?_, fun d hd => by cases hd; exact rfl, H.s.skip (by decide) (by decide) (by decide), fun _ _ _ h => h⟩
      obtain ⟨aa, an, ac, rfl⟩ := hua
      (simp only [execOp]; try simp only [Option.map]); (try simp only [List.map_toArray, List.map_cons, List.map_nil]); (simp only [e91]; go_simp)
    · refine asked_pure rfl rfl (fun _ _ h => h.skip (by decide) (by decide) (by decide)) (fun _ _ _ => rfl) (fun l a W H => ?_)
      have e0 : a.eval (.tmp 0) = .pointer (some ⟨p, 0, none⟩) := (H.base 0 rfl).trans b0
      exact run_move rfl e0
    · refine asked_call rfl Try.func46 (by kernel_rfl) (by kernel_rfl) rfl rfl (fun l a W H => ?_)
      have e93 : a.eval (.tmp 93) = .pointer (some ⟨p, 0, none⟩) := H.facts 93 rfl
      have ec : a.eval (.const (.int .i64 4096)) = .int .i64 4096 := rfl
      have ea : (#[.tmp 93, .const (.int .i64 4096)] : Array Operand).map a.eval = #[.pointer (some ⟨p, 0, none⟩), .int .i64 4096] := by
        simp only [List.map_toArray, List.map_cons, List.map_nil, e93, ec]
      rw [ea]
      have hR0 := H.s.rd0 H.new
      refine (HC.out W hR0).mono ?_
      rintro e w' ⟨rfl, hR, hg⟩
      refine ⟨_, rfl, rfl, H.s.call hR hg, fun _ _ _ h => G24_grown h hg H.s.st.pb.1 (fun k hk e => ?_)⟩
      subst e
      obtain ⟨_, _, h2, _⟩ := hR0
      rw [cell_of_row _ _ _ _ _ _ hk] at h2
      simp at h2
    · refine asked_any rfl (fun l a W H => ?_)
      have e94 : a.eval (.tmp 94) = .int .i64 x := H.facts 94 rfl
      have hB := bel1' W (.cells #[.int .i64 x] 3)
      refine ⟨.slice (some ⟨W.heap.size, 0, none⟩) 1 1, W.alloc (.cells #[.int .i64 x] 3), ?_, fun d hd => by cases hd; exact ⟨_, rfl, heap_alloc_new W _, fun e => by have := H.s.own _ e; omega⟩, H.s.alloc _, fun _ _ _ h => G24_keeps (T := T3) h (Keeps.below hB)⟩
      (simp only [execOp]; try simp only [Option.map]); (try simp only [List.map_toArray, List.map_cons, List.map_nil]); (simp only [e94]; go_simp)
    · refine asked_any rfl (fun l a W H => ?_)
      have e92 : a.eval (.tmp 92) = ua := H.facts 92 rfl
      obtain ⟨h, e95, hh, hne⟩ : ∃ h, a.eval (.tmp 95) = .slice (some ⟨h, 0, none⟩) 1 1 ∧ W.heap[h]? = some (Obj.cells #[.int .i64 x] 3 (0, 0)) ∧ ua.ownBlock ≠ some h := H.facts 95 rfl
      have hl7 : l 7 = false := by
        cases h7 : l 7 with
        | false => rfl
        | true =>
          have h1 := H.closed 7 5 (by rfl) h7
          rw [H.new] at h1
          cases h1
      have hO : ArgsO W0.heap.size W ua i.args := H.s.args H.new
      have hc : W.cell? ⟨h, 0, none⟩ = some (.int .i64 x) := by rw [cell_of_row _ _ _ _ _ _ hh]; rfl
      refine app1_ok rfl e92 e95 hO hc (by omega) H.s.st.sz fun v' w' e2 e3 => ?_
      exact ⟨fun d hd => by cases hd; exact e2, H.s.app hO e3 hl7, fun _ _ hd h => G24_app h hd e3⟩
    · refine asked_pure rfl rfl (fun _ _ h => h.skip (by decide) (by decide) (by decide)) (fun _ _ _ => rfl) (fun l a W H => ?_)
      have e11 : a.eval (.tmp 11) = .pointer (some ⟨g, 0, none⟩) := (H.base 11 rfl).trans b11
      (simp only [execOp]; try simp only [Option.map]); (try simp only [List.map_toArray, List.map_cons, List.map_nil]); (simp only [e11]; go_simp)
    · refine asked_skip rfl rfl (fun l a W H => ?_)
      have e97 : a.eval (.tmp 97) = .pointer (some ⟨g, 6, none⟩) := H.facts 97 rfl
      have hO : ArgsO W0.heap.size W (a.eval (.tmp 96)) (i.args ++ [x]) := H.facts 96 rfl
      generalize e96 : a.eval (.tmp 96) = y at hO
      obtain ⟨ya, yn, yc, rfl⟩ := owns_slice hO
      have hr := H.s.row H.new
      have hc : W.cell? ⟨g, 6, none⟩ = some ua := by rw [cell_of_row _ _ _ _ _ _ hr]; rfl
      have hf : W.frozen? ⟨g, 6, none⟩ = false := frozen_of_row _ _ _ _ _ hr
      refine ⟨W.setCell ⟨g, 6, none⟩ (.slice ya yn yc), ?_, H.s.store hr hO, fun _ _ h => G24_keeps (T := T3) h (Keeps.set hr rfl _)⟩
      (simp only [execOp]; try simp only [Option.map]); (try simp only [List.map_toArray, List.map_cons, List.map_nil]); (simp only [e96, e97]; go_simp)
  · intro l s W hall hS _
    obtain ⟨u, q1, q2⟩ := hS.done (hall 7 (by decide))
    have q3 := hS.st
    rw [hall 3 (by decide), if_pos rfl, if_pos rfl] at q3
    exact hend s W x ys d HT.out ⟨q3, ⟨u, q1, q2⟩, hS.gb⟩
end Go.Proofs.Ytbjnhicikkjadaa
namespace Go.Proofs.Ytbjnhicikkjadaa
open Go Go.RowKit Ir Wire

theorem drop_at {st : ByteArray} {j : Nat} (h : j < st.size) : (chars st).drop j = (chars st).getD j 0 :: (chars st).drop (j + 1) := by
  have h' : j < (chars st).length := by rw [chars_len]; exact h
  rw [List.drop_eq_getElem_cons h']
  simp [List.getElem?_eq_getElem h']
theorem num_t (p b : Nat) (xs : List Int) (code : Int) (w : World) (h : Lb.RdrAt w p b xs code) :
    Calls Try.prog 77 #[.pointer (some ⟨p, 0, none⟩)] w fun e w' => ∃ n : Nat, e = .returned (.int .u64 n) ∧ Leb.Fits n ∧ Took zagP xs code (Leb.zag n) (Leb.numL xs code) (Leb.numC xs code) ∧ Lb.RdrAt w' p b (Leb.numL xs code) (Leb.numC xs code) ∧ w.grownBy w' (some p) := by
  refine (Lb.refNum_any p b xs code w h).mono ?_
  rintro e w' ⟨rfl, h1, h2⟩
  exact ⟨_, rfl, (by obtain ⟨_, _, _, _, _, h5, _⟩ := h; exact Leb.numA_fits code h5.1), took_int xs code, h1, h2⟩
set_option maxHeartbeats 4000000 in
set_option maxRecDepth 100000 in
theorem lets_ok {Q : Exit → Act → World → Prop} {a : Act} {W0 w : World} {p b g : Nat} {k0 : Int} {st : ByteArray} {ys : List Int} {c : Int} {v1 v5 v6 v7 v8 v9 v10 : Value} (hA : ActB (.pointer (some ⟨p, 0, none⟩)) v1 v5 v6 v7 v8 v9 v10 (.pointer (some ⟨g, 0, none⟩)) (.string st) a) (hI : InsB W0 p b g w (ins0 k0) ys c) (hst : st.size ≤ 10)
    (hK : ∀ (a' : Act) (w' : World) (i : Ins) (zs : List Int) (d : Int), ActB (.pointer (some ⟨p, 0, none⟩)) v1 v5 v6 v7 v8 v9 v10 (.pointer (some ⟨g, 0, none⟩)) (.string st) a' → InsB W0 p b g w' i zs d → Took (letP (chars st) (ins0 k0)) ys c i zs d → Q .normal a' w') : letsC.wp Try.prog Q a w := by
  obtain ⟨ρ, rfl⟩ := hA.lit
  have HK := hide hK
  have HI := hide hI
  clear hA hK hI
  unfold letsC
  go_wp2_with fail
  go_loopw [13, 14, 15, 98, 104, 109, 114, 119] (fun jv _ _ _ _ _ _ _ wr => ∃ (j : Nat) (i : Ins) (zs : List Int) (d : Int), j ≤ st.size ∧ jv = .int .i64 j ∧ InsB W0 p b g wr i zs d ∧ i.args.length ≤ 4 * j ∧ Hid (∀ i2 zs2 d2, Took (letP ((chars st).drop j) i) zs d i2 zs2 d2 → Took (letP (chars st) (ins0 k0)) ys c i2 zs2 d2)) (fun jv _ _ _ _ _ _ _ _ => st.size - (intOf jv).toNat)
  case atStart => exact ⟨0, _, ys, c, by omega, rfl, HI.out, by simp [ins0], fun _ _ _ h => h⟩
  case round =>
    rename World => wr
    obtain ⟨j, i, zs, d, hj, rfl, hI, hal, hC⟩ := hrel
    by_cases hlt : j < st.size
    · have hq0 : (0 : Int) ≤ (j : Int) := by omega
      have hq1 : (j : Int) < (st.size : Int) := by omega
      have hat := hide (chars_at hlt)
      by_cases h79 : (st[j].toNat : Int) = 79
      · have hb79 : ((st[j].toNat : Int) == 79) = true := by simp [h79]
        have HC := hide (refBelow_t p b zs d 256 wr hI.st.rdr (by omega) (by omega))
        go_wp2_with fail
        refine HC.out.mono ?_
        rintro e w1 ⟨x, u, ys1, d1, rfl, ⟨rfl, hx0, hx1⟩, hT, hR1, hg1⟩
        have hI1 := hI.call hR1 hg1
        obtain ⟨uu, hrow, _⟩ := hI1.box
        have hfz : w1.frozen? ⟨g, 1, none⟩ = false := frozen_of_row _ _ _ _ _ hrow
        obtain ⟨c0, c1, c2, c3, c4, c5, c6⟩ := box7 hrow
        have hI2 := hide (InsB.set (k := 1) (i' := ⟨i.k, x, i.d, i.a, i.b, i.n, i.args⟩) (v := .int .u8 x) hI1 (fun _ => rfl) rfl)
        have hT2 := hide (took_O hT : Took (fldP 79 i) zs d _ ys1 d1)
        have hat := hide (hat.out.trans h79)
        have hC2 := hide (fun i2 zs2 d2 hh => hC.out i2 zs2 d2 (by rw [drop_at hlt, hat.out]; exact Took.bind hT2.out hh))
        clear HC hI hR1 hg1 hI1 hrow hT hC hat hT2
        go_wp2_with fail
        go_roundw
        case rel => exact ⟨j + 1, _, ys1, d1, by omega, by go_num, hI2.out, by simp only; omega, hC2⟩
        case measure => simp [intOf]; omega
      have hb79 : ((st[j].toNat : Int) == 79) = false := by simp [h79]
      by_cases h68 : (st[j].toNat : Int) = 68
      · have hb68 : ((st[j].toNat : Int) == 68) = true := by simp [h68]
        have HC := hide (refBelow_t p b zs d 4096 wr hI.st.rdr (by omega) (by omega))
        go_wp2_with fail
        refine HC.out.mono ?_
        rintro e w1 ⟨x, u, ys1, d1, rfl, ⟨rfl, hx0, hx1⟩, hT, hR1, hg1⟩
        have hI1 := hI.call hR1 hg1
        obtain ⟨uu, hrow, _⟩ := hI1.box
        have hfz : w1.frozen? ⟨g, 2, none⟩ = false := frozen_of_row _ _ _ _ _ hrow
        obtain ⟨c0, c1, c2, c3, c4, c5, c6⟩ := box7 hrow
        have hI2 := hide (InsB.set (k := 2) (i' := ⟨i.k, i.op, x, i.a, i.b, i.n, i.args⟩) (v := .int .i64 x) hI1 (fun _ => rfl) rfl)
        have hT2 := hide (took_D hT : Took (fldP 68 i) zs d _ ys1 d1)
        have hat := hide (hat.out.trans h68)
        have hC2 := hide (fun i2 zs2 d2 hh => hC.out i2 zs2 d2 (by rw [drop_at hlt, hat.out]; exact Took.bind hT2.out hh))
        clear HC hI hR1 hg1 hI1 hrow hT hC hat hT2
        go_wp2_with fail
        go_roundw
        case rel => exact ⟨j + 1, _, ys1, d1, by omega, by go_num, hI2.out, by simp only; omega, hC2⟩
        case measure => simp [intOf]; omega
      have hb68 : ((st[j].toNat : Int) == 68) = false := by simp [h68]
      by_cases h65 : (st[j].toNat : Int) = 65
      · have hb65 : ((st[j].toNat : Int) == 65) = true := by simp [h65]
        have HC := hide (refBelow_t p b zs d 4096 wr hI.st.rdr (by omega) (by omega))
        go_wp2_with fail
        refine HC.out.mono ?_
        rintro e w1 ⟨x, u, ys1, d1, rfl, ⟨rfl, hx0, hx1⟩, hT, hR1, hg1⟩
        have hI1 := hI.call hR1 hg1
        obtain ⟨uu, hrow, _⟩ := hI1.box
        have hfz : w1.frozen? ⟨g, 3, none⟩ = false := frozen_of_row _ _ _ _ _ hrow
        obtain ⟨c0, c1, c2, c3, c4, c5, c6⟩ := box7 hrow
        have hI2 := hide (InsB.set (k := 3) (i' := ⟨i.k, i.op, i.d, x, i.b, i.n, i.args⟩) (v := .int .i64 x) hI1 (fun _ => rfl) rfl)
        have hT2 := hide (took_A hT : Took (fldP 65 i) zs d _ ys1 d1)
        have hat := hide (hat.out.trans h65)
        have hC2 := hide (fun i2 zs2 d2 hh => hC.out i2 zs2 d2 (by rw [drop_at hlt, hat.out]; exact Took.bind hT2.out hh))
        clear HC hI hR1 hg1 hI1 hrow hT hC hat hT2
        go_wp2_with fail
        go_roundw
        case rel => exact ⟨j + 1, _, ys1, d1, by omega, by go_num, hI2.out, by simp only; omega, hC2⟩
        case measure => simp [intOf]; omega
      have hb65 : ((st[j].toNat : Int) == 65) = false := by simp [h65]
      by_cases h66 : (st[j].toNat : Int) = 66
      · have hb66 : ((st[j].toNat : Int) == 66) = true := by simp [h66]
        have HC := hide (refBelow_t p b zs d 4096 wr hI.st.rdr (by omega) (by omega))
        go_wp2_with fail
        refine HC.out.mono ?_
        rintro e w1 ⟨x, u, ys1, d1, rfl, ⟨rfl, hx0, hx1⟩, hT, hR1, hg1⟩
        have hI1 := hI.call hR1 hg1
        obtain ⟨uu, hrow, _⟩ := hI1.box
        have hfz : w1.frozen? ⟨g, 4, none⟩ = false := frozen_of_row _ _ _ _ _ hrow
        obtain ⟨c0, c1, c2, c3, c4, c5, c6⟩ := box7 hrow
        have hI2 := hide (InsB.set (k := 4) (i' := ⟨i.k, i.op, i.d, i.a, x, i.n, i.args⟩) (v := .int .i64 x) hI1 (fun _ => rfl) rfl)
        have hT2 := hide (took_B hT : Took (fldP 66 i) zs d _ ys1 d1)
        have hat := hide (hat.out.trans h66)
        have hC2 := hide (fun i2 zs2 d2 hh => hC.out i2 zs2 d2 (by rw [drop_at hlt, hat.out]; exact Took.bind hT2.out hh))
        clear HC hI hR1 hg1 hI1 hrow hT hC hat hT2
        go_wp2_with fail
        go_roundw
        case rel => exact ⟨j + 1, _, ys1, d1, by omega, by go_num, hI2.out, by simp only; omega, hC2⟩
        case measure => simp [intOf]; omega
      have hb66 : ((st[j].toNat : Int) == 66) = false := by simp [h66]
      by_cases h78 : (st[j].toNat : Int) = 78
      · have hb78 : ((st[j].toNat : Int) == 78) = true := by simp [h78]
        have HC := hide (num_t p b zs d wr hI.st.rdr)
        go_wp2_with fail
        refine HC.out.mono ?_
        rintro e w1 ⟨n, rfl, hf, hT, hR1, hg1⟩
        have hI1 := hI.call hR1 hg1
        have HZ := hide (Lb.refZag_any n w1 hf)
        obtain ⟨uu, hrow, _⟩ := hI1.box
        have hfz : w1.frozen? ⟨g, 5, none⟩ = false := frozen_of_row _ _ _ _ _ hrow
        obtain ⟨c0, c1, c2, c3, c4, c5, c6⟩ := box7 hrow
        have hI2 := hide (InsB.set (k := 5) (i' := ⟨i.k, i.op, i.d, i.a, i.b, Leb.zag n, i.args⟩) (v := .int .i64 (Leb.zag n)) hI1 (fun _ => rfl) rfl)
        have hT2 := hide (took_N hT : Took (fldP 78 i) zs d _ _ _)
        have hat := hide (hat.out.trans h78)
        have hC2 := hide (fun i2 zs2 d2 hh => hC.out i2 zs2 d2 (by rw [drop_at hlt, hat.out]; exact Took.bind hT2.out hh))
        clear HC hI hR1 hg1 hI1 hrow hT hC hat hT2
        go_wp2_with fail
        refine HZ.out.mono ?_
        rintro e w2 ⟨rfl, rfl⟩
        clear HZ
        generalize Leb.zag n = z at *
        go_wp2_with fail
        go_roundw
        case rel => exact ⟨j + 1, _, _, _, by omega, by go_num, hI2.out, by simp only; omega, hC2⟩
        case measure => simp [intOf]; omega
      have hb78 : ((st[j].toNat : Int) == 78) = false := by simp [h78]
      have HC := hide (refBelow_t p b zs d 4 wr hI.st.rdr (by omega) (by omega))
      go_wp2_with fail
      refine HC.out.mono ?_
      rintro e w1 ⟨n, u, ys1, d1, rfl, ⟨rfl, hn0, hn1⟩, hT, hR1, hg1⟩
      obtain ⟨n, rfl⟩ := Int.eq_ofNat_of_zero_le hn0
      have hI1 := hide (hI.call hR1 hg1)
      have HN : Hid (n < 4) := by show _ < _; omega
      have HT := hide hT
      clear hn0 hn1 hT hR1 hg1 hI HC
      go_wp2_with fail
      go_loopw [15] (fun kv wi => ∃ (k : Nat) (us : List Int) (zs1 : List Int) (e1 : Int), k ≤ n ∧ us.length = k ∧ kv = .int .i64 k ∧ InsB W0 p b g wi ⟨i.k, i.op, i.d, i.a, i.b, i.n, i.args ++ us⟩ zs1 e1 ∧ Hid (∀ l' zs' d', Took (repP (belP 4096) (n - k)) zs1 e1 l' zs' d' → Took (listP (belP 4096) 3) zs d (us ++ l') zs' d')) (fun kv _ => n - (intOf kv).toNat)
      case atStart => exact ⟨0, [], ys1, d1, Nat.zero_le _, rfl, rfl, by simpa using hI1.out, fun l' zs' d' hh => Took.bind HT.out (by simpa using hh)⟩
      case round =>
        rename World => wi
        obtain ⟨k, us, zs1, e1, hk, hul, rfl, hIi, hCi⟩ := hrel
        by_cases hkl : k < n
        · have hkl' : (k : Int) < (n : Int) := by omega
          have hk3 : (k : Int) ≤ 3 := by have := HN.out; omega
          have HIi := hide hIi
          have hal2 : (i.args ++ us).length ≤ 1000 := by rw [List.length_append]; have := HN.out; omega
          clear hIi
          go_wp2_with fail
          refine r24_ok (by rfl) rfl rfl HIi.out hal2 ?_
          intro s W x ys2 d2 hTx hI2
          have hC2 : Hid (∀ l' zs' d', Took (repP (belP 4096) (n - (k + 1))) ys2 d2 l' zs' d' → Took (listP (belP 4096) 3) zs d ((us ++ [x]) ++ l') zs' d') := by
            intro l' zs' d' hh
            have := hCi.out (x :: l') zs' d' (by
              rw [show n - k = (n - (k + 1)) + 1 by omega]
              exact Took.cons hTx hh)
            simpa using this
          have hI3 : Hid (InsB W0 p b g W ⟨i.k, i.op, i.d, i.a, i.b, i.n, i.args ++ (us ++ [x])⟩ ys2 d2) := hide (by simpa using hI2)
          clear hI2 hTx HIi hCi hal2
          simp [overlay, dstsOf, ops24]
          go_wp2_with fail
          go_roundw
          case rel => exact ⟨k + 1, us ++ [x], ys2, d2, by omega, by simp [hul], by go_num, hI3.out, hC2⟩
          case measure => simp [intOf]; omega
        · have hkl' : ¬ (k : Int) < (n : Int) := by omega
          have hTl : Took (listP (belP 4096) 3) zs d us zs1 e1 := by have := hCi.out [] zs1 e1 (by rw [show n - k = 0 by omega]; exact Took.pure _ _ _); simpa using this
          have hT2 := hide (took_R (i := i) ⟨h79, h68, h65, h66, h78⟩ hTl)
          have hC2 := hide (fun i2 zs2 d2 hh => hC.out i2 zs2 d2 (by rw [drop_at hlt, hat.out]; exact Took.bind hT2.out hh))
          have HIi := hide hIi
          have hal2 : Hid ((i.args ++ us).length ≤ 4 * (j + 1)) := by show _ ≤ _; rw [List.length_append]; have := HN.out; omega
          clear hIi hCi hTl hT2 hC hat
          go_wp2_with fail
          go_roundw
          case rel => exact ⟨j + 1, _, zs1, e1, by omega, by go_num, HIi.out, hal2.out, hC2⟩
          case measure => simp [intOf]; omega
    · obtain rfl : j = st.size := by omega
      have hq1 : ¬ (st.size : Int) < (st.size : Int) := by omega
      have hT := hide (hC.out i zs d (by rw [List.drop_of_length_le (by rw [chars_len]; omega)]; exact Took.pure _ _ _))
      have HIi := hide hI
      clear hI hC
      go_wp2_with fail
      exact HK.out _ _ i zs d ⟨rfl, rfl, rfl, rfl, rfl, rfl, rfl, rfl, rfl, rfl, rfl, rfl⟩ HIi.out hT.out
end Go.Proofs.Ytbjnhicikkjadaa
