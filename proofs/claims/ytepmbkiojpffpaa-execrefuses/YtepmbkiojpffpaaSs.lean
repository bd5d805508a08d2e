/- A run's step: an instruction is done. -/
import Derived.Test.YtepmbkiojpffpaaSc
namespace Go.Proofs.Ytepmbkiojpffpaa
open Go.RowKit Ir

def StepPost (B g gp : Nat) (r : Int) (w : World) (x : Rs St) (e : Ending) (w' : World) : Prop := (∃ v, e = .returned v) ∧ Came B g gp r w' x ∧ Mv B gp w w'
set_option maxHeartbeats 1000000 in
set_option maxRecDepth 100000 in
theorem step_1 (B g gp : Nat) (r : Int) (w : World) (s : St) (cv av : Value) (i : Ins) (u : Value) (h : RunAt B g gp r w 0 0 s cv av) (hk : i.k = 1) (hi : OkI r s.p.length i) :
    Calls Try.prog 42 #[.pointer (some ⟨g, 0, none⟩), insV i u] w (StepPost B g gp r w (act r i s)) := by
  obtain ⟨k, op, d, a, b, nn, args⟩ := i
  simp only at hk
  subst hk
  obtain ⟨dn, hd, hd2⟩ := nat_of (hi.d (by simp) (by simp))
  simp only at hd
  subst hd
  have hBx := bel1' w (bxI ⟨1, op, dn, a, b, nn, args⟩ u)
  have hR1 := h.of hBx
  have hM1 : Mv B gp w _ := Mv.of hBx h.size.1
  have hbox : (w.alloc (bxI ⟨1, op, dn, a, b, nn, args⟩ u)).heap[w.heap.size]? = some (Obj.cells (rowI ⟨1, op, dn, a, b, nn, args⟩ u) 65 (0, 0)) := heap_alloc_new w _
  obtain ⟨b0, b1, b2, b3, b4, b5, b6⟩ := rowI_cells hbox
  simp only [bxI, Nat.zero_add] at b0 b1 b2 b3 b4 b5 b6 hR1 hM1 hbox
  have HR := hide hR1
  have HM := hide hM1
  have HB := hide (And.intro hbox (And.intro b2 (And.intro b3 (And.intro b4 b5))))
  have c69 := hR1.c69
  unfold insV
  simp only
  have p0 := hR1.pc hd2
  have f0 := hR1.pf dn
  have hdl : (dn : Int) < (s.p.length : Int) := by omega
  obtain ⟨hR3, hM3⟩ := hR1.place dn nn
  have HR3 := hide hR3
  have HM3 := hide (hM1.trans hM3)
  have hE : Hid (act r ⟨1, op, dn, a, b, nn, args⟩ s = .inl { s with p := s.p.set dn nn }) := by show _ = _; simp [act, pst]
  clear h hR1 hM1 hBx hi b1 b3 b4 b6 hR3 hM3 HR HM HB hbox
  go_enter Try.func42, Try.ntmps42
  go_wp2_with fail
  go_end0
  exact ⟨⟨_, rfl⟩, by rw [hE.out]; exact ⟨_, _, HR3.out⟩, HM3.out⟩
set_option maxHeartbeats 1000000 in
set_option maxRecDepth 100000 in
theorem step_2 (B g gp : Nat) (r : Int) (w : World) (s : St) (cv av : Value) (i : Ins) (u : Value) (h : RunAt B g gp r w 0 0 s cv av) (hk : i.k = 2) (hi : OkI r s.p.length i) :
    Calls Try.prog 42 #[.pointer (some ⟨g, 0, none⟩), insV i u] w (StepPost B g gp r w (act r i s)) := by
  obtain ⟨k, op, d, a, b, nn, args⟩ := i
  simp only at hk
  subst hk
  obtain ⟨dn, hd, hd2⟩ := nat_of (hi.d (by simp) (by simp))
  obtain ⟨an, ha, ha2⟩ := nat_of (hi.a (by simp) (by simp) (by simp))
  simp only at hd ha
  subst hd
  subst ha
  have hBx := bel1' w (bxI ⟨2, op, dn, an, b, nn, args⟩ u)
  have hR1 := h.of hBx
  have hM1 : Mv B gp w _ := Mv.of hBx h.size.1
  have hbox : (w.alloc (bxI ⟨2, op, dn, an, b, nn, args⟩ u)).heap[w.heap.size]? = some (Obj.cells (rowI ⟨2, op, dn, an, b, nn, args⟩ u) 65 (0, 0)) := heap_alloc_new w _
  obtain ⟨b0, b1, b2, b3, b4, b5, b6⟩ := rowI_cells hbox
  simp only [bxI, Nat.zero_add] at b0 b1 b2 b3 b4 b5 b6 hR1 hM1 hbox
  have HR := hide hR1
  have HM := hide hM1
  have HB := hide (And.intro hbox (And.intro b2 (And.intro b3 (And.intro b4 b5))))
  have c69 := hR1.c69
  unfold insV
  simp only
  clear h hR1 hM1 hBx hi b1 b2 b3 b4 b5 b6 hbox
  go_enter Try.func42, Try.ntmps42
  go_wp2_with fail
  clear b0 c69
  generalize w.alloc (.cells #[.int .u8 2, .int .u8 op, .int .i64 (dn : Nat), .int .i64 (an : Nat), .int .i64 b, .int .i64 nn, u] 65) = W1 at *
  generalize w.heap.size = gb at *
  have hdr : Below W1.heap.size W1 W1.drew := (Below.refl _ _).drew
  have hdl : (dn : Int) < (s.p.length : Int) := by omega
  have hal : (an : Int) < (s.p.length : Int) := by omega
  obtain ⟨x, hx⟩ : ∃ x, pg s.p (an : Int) = x := ⟨_, rfl⟩
  obtain ⟨hR3, hM3⟩ := (HR.out.of hdr).place dn x
  have hE : Hid (act r ⟨2, op, dn, an, b, nn, args⟩ s = .inl { s with p := s.p.set dn x }) := by show _ = _; simp [act, pst, hx]
  have HM3 := hide ((HM.out.trans (Mv.of hdr HR.out.size.1)).trans hM3)
  refine st2_ok (gp := gp) (n := s.p.length) rfl rfl rfl HB.out.2.1 HB.out.2.2.1 (HR.out.pp ha2 hx) (HR.out.pc hd2) (HR.out.pf dn) hdl hal ?_
  intro q
  simp [overlay, dstsOf, ops_st2_ok]
  have HR3 := hide hR3
  clear hR3 hM3 HR HM HB hdr
  go_wp2_with fail
  go_end0
  exact ⟨⟨_, rfl⟩, by rw [hE.out]; exact ⟨_, _, HR3.out⟩, HM3.out⟩
set_option maxHeartbeats 1000000 in
set_option maxRecDepth 100000 in
theorem step_3 (B g gp : Nat) (r : Int) (w : World) (s : St) (cv av : Value) (i : Ins) (u : Value) (h : RunAt B g gp r w 0 0 s cv av) (hk : i.k = 3) (hi : OkI r s.p.length i) :
    Calls Try.prog 42 #[.pointer (some ⟨g, 0, none⟩), insV i u] w (StepPost B g gp r w (act r i s)) := by
  obtain ⟨k, op, d, a, b, nn, args⟩ := i
  simp only at hk
  subst hk
  have hBx := bel1' w (bxI ⟨3, op, d, a, b, nn, args⟩ u)
  have hR1 := h.of hBx
  have hM1 : Mv B gp w _ := Mv.of hBx h.size.1
  have hbox : (w.alloc (bxI ⟨3, op, d, a, b, nn, args⟩ u)).heap[w.heap.size]? = some (Obj.cells (rowI ⟨3, op, d, a, b, nn, args⟩ u) 65 (0, 0)) := heap_alloc_new w _
  obtain ⟨b0, b1, b2, b3, b4, b5, b6⟩ := rowI_cells hbox
  simp only [bxI, Nat.zero_add] at b0 b1 b2 b3 b4 b5 b6 hR1 hM1 hbox
  have HR := hide hR1
  have HM := hide hM1
  have HB := hide (And.intro hbox (And.intro b2 (And.intro b3 (And.intro b4 b5))))
  have c69 := hR1.c69
  unfold insV
  simp only
  have hi' : OkI r s.p.length ⟨3, op, d, a, b, nn, args⟩ := hi
  have hC := hide (bin_any B g gp r _ s cv av ⟨3, op, d, a, b, nn, args⟩ u hR1 rfl hi')
  unfold insV at hC
  simp only at hC
  clear h hR1 hM1 hBx hi hi' HB hbox
  go_enter Try.func42, Try.ntmps42
  go_wp2_with fail
  refine hC.out.mono ?_
  rintro e w' ⟨⟨v, rfl⟩, hcame, hmv⟩
  have HM2 := hide (HM.out.trans hmv)
  have HC2 := hide hcame
  clear hC HM hmv hcame HR c69
  go_wp2_with fail
  go_end0
  exact ⟨⟨_, rfl⟩, HC2.out, HM2.out⟩
set_option maxHeartbeats 1000000 in
set_option maxRecDepth 100000 in
theorem step_4 (B g gp : Nat) (r : Int) (w : World) (s : St) (cv av : Value) (i : Ins) (u : Value) (h : RunAt B g gp r w 0 0 s cv av) (hk : i.k = 4) (hi : OkI r s.p.length i) :
    Calls Try.prog 42 #[.pointer (some ⟨g, 0, none⟩), insV i u] w (StepPost B g gp r w (act r i s)) := by
  obtain ⟨k, op, d, a, b, nn, args⟩ := i
  simp only at hk
  subst hk
  obtain ⟨dn, hd, hd2⟩ := nat_of (hi.d (by simp) (by simp))
  obtain ⟨an, ha, ha2⟩ := nat_of (hi.a (by simp) (by simp) (by simp))
  simp only at hd ha
  subst hd
  subst ha
  have hBx := bel1' w (bxI ⟨4, op, dn, an, b, nn, args⟩ u)
  have hR1 := h.of hBx
  have hM1 : Mv B gp w _ := Mv.of hBx h.size.1
  have hbox : (w.alloc (bxI ⟨4, op, dn, an, b, nn, args⟩ u)).heap[w.heap.size]? = some (Obj.cells (rowI ⟨4, op, dn, an, b, nn, args⟩ u) 65 (0, 0)) := heap_alloc_new w _
  obtain ⟨b0, b1, b2, b3, b4, b5, b6⟩ := rowI_cells hbox
  simp only [bxI, Nat.zero_add] at b0 b1 b2 b3 b4 b5 b6 hR1 hM1 hbox
  have HR := hide hR1
  have HM := hide hM1
  have HB := hide (And.intro hbox (And.intro b2 (And.intro b3 (And.intro b4 b5))))
  have c69 := hR1.c69
  unfold insV
  simp only
  clear h hR1 hM1 hBx hi b1 b2 b3 b4 b5 b6 hbox
  go_enter Try.func42, Try.ntmps42
  go_wp2_with fail
  clear b0 c69
  generalize w.alloc (.cells #[.int .u8 4, .int .u8 op, .int .i64 (dn : Nat), .int .i64 (an : Nat), .int .i64 b, .int .i64 nn, u] 65) = W1 at *
  generalize w.heap.size = gb at *
  have hdr : Below W1.heap.size W1 W1.drew := (Below.refl _ _).drew
  have hdl : (dn : Int) < (s.p.length : Int) := by omega
  have hal : (an : Int) < (s.p.length : Int) := by omega
  obtain ⟨x, hx⟩ : ∃ x, pg s.p (an : Int) = x := ⟨_, rfl⟩
  obtain ⟨z, hz⟩ : ∃ z, s.mem.getD (wd x) 0 = z := ⟨_, rfl⟩
  have hcm := HR.out.cm (wd_lt x)
  rw [hz] at hcm
  obtain ⟨hR3, hM3⟩ := (HR.out.of hdr).place dn z
  have hE : Hid (act r ⟨4, op, dn, an, b, nn, args⟩ s = .inl { s with p := s.p.set dn z }) := by show _ = _; rw [← hz, ← hx]; simp [act, pst]
  have HM3 := hide ((HM.out.trans (Mv.of hdr HR.out.size.1)).trans hM3)
  refine st4_ok (g := g) (gp := gp) (n := s.p.length) rfl rfl rfl rfl HB.out.2.1 HB.out.2.2.1 (HR.out.pp ha2 hx) (HR.out.pc hd2) hcm (HR.out.pf dn) hdl hal ?_
  intro q
  simp [overlay, dstsOf, ops_st4_ok]
  have HR3 := hide hR3
  clear hR3 hM3 HR HM HB hdr
  go_wp2_with fail
  go_end0
  exact ⟨⟨_, rfl⟩, by rw [hE.out]; exact ⟨_, _, HR3.out⟩, HM3.out⟩
set_option maxHeartbeats 1000000 in
set_option maxRecDepth 100000 in
theorem step_5 (B g gp : Nat) (r : Int) (w : World) (s : St) (cv av : Value) (i : Ins) (u : Value) (h : RunAt B g gp r w 0 0 s cv av) (hk : i.k = 5) (hi : OkI r s.p.length i) :
    Calls Try.prog 42 #[.pointer (some ⟨g, 0, none⟩), insV i u] w (StepPost B g gp r w (act r i s)) := by
  obtain ⟨k, op, d, a, b, nn, args⟩ := i
  simp only at hk
  subst hk
  obtain ⟨an, ha, ha2⟩ := nat_of (hi.a (by simp) (by simp) (by simp))
  obtain ⟨bn, hb, hb2⟩ := nat_of (hi.b (by simp))
  simp only at ha hb
  subst ha
  subst hb
  have hBx := bel1' w (bxI ⟨5, op, d, an, bn, nn, args⟩ u)
  have hR1 := h.of hBx
  have hM1 : Mv B gp w _ := Mv.of hBx h.size.1
  have hbox : (w.alloc (bxI ⟨5, op, d, an, bn, nn, args⟩ u)).heap[w.heap.size]? = some (Obj.cells (rowI ⟨5, op, d, an, bn, nn, args⟩ u) 65 (0, 0)) := heap_alloc_new w _
  obtain ⟨b0, b1, b2, b3, b4, b5, b6⟩ := rowI_cells hbox
  simp only [bxI, Nat.zero_add] at b0 b1 b2 b3 b4 b5 b6 hR1 hM1 hbox
  have HR := hide hR1
  have HM := hide hM1
  have HB := hide (And.intro hbox (And.intro b2 (And.intro b3 (And.intro b4 b5))))
  have c69 := hR1.c69
  unfold insV
  simp only
  clear h hR1 hM1 hBx hi b1 b2 b3 b4 b5 b6 hbox
  go_enter Try.func42, Try.ntmps42
  go_wp2_with fail
  clear b0 c69
  generalize w.alloc (.cells #[.int .u8 5, .int .u8 op, .int .i64 d, .int .i64 (an : Nat), .int .i64 (bn : Nat), .int .i64 nn, u] 65) = W1 at *
  generalize w.heap.size = gb at *
  have hdr : Below W1.heap.size W1 W1.drew := (Below.refl _ _).drew
  have hal : (an : Int) < (s.p.length : Int) := by omega
  have hbl : (bn : Int) < (s.p.length : Int) := by omega
  obtain ⟨x, hx⟩ : ∃ x, pg s.p (an : Int) = x := ⟨_, rfl⟩
  obtain ⟨z, hz⟩ : ∃ z, pg s.p (bn : Int) = z := ⟨_, rfl⟩
  have hcm := HR.out.cm (wd_lt x)
  have hRd := HR.out.of hdr
  obtain ⟨hR3, hM3⟩ := hRd.put (j := 3 + wd x) (u := .int .i64 z) (how' := 0) (val' := 0) (mem' := s.mem.set (wd x) z) (left' := s.left) hRd.calls hRd.ans (by simpa using hRd.mem) (rowL_set_mem hRd.mem (wd_lt x) z)
  have hE : Hid (act r ⟨5, op, d, an, bn, nn, args⟩ s = .inl { s with mem := s.mem.set (wd x) z }) := by show _ = _; rw [← hz, ← hx]; simp [act]
  have HM3 := hide ((HM.out.trans (Mv.of hdr HR.out.size.1)).trans hM3)
  clear hRd
  refine st5_ok (g := g) (gp := gp) (n := s.p.length) rfl rfl rfl rfl HB.out.2.2.1 HB.out.2.2.2.1 (HR.out.pp ha2 hx) (HR.out.pp hb2 hz) hcm (HR.out.fr _) hal hbl ?_
  intro q
  simp [overlay, dstsOf, ops_st5_ok]
  have HR3 := hide hR3
  clear hR3 hM3 HR HM HB hdr
  go_wp2_with fail
  go_end0
  exact ⟨⟨_, rfl⟩, by rw [hE.out]; exact ⟨_, _, HR3.out⟩, HM3.out⟩
set_option maxHeartbeats 1000000 in
set_option maxRecDepth 100000 in
theorem step_6 (B g gp : Nat) (r : Int) (w : World) (s : St) (cv av : Value) (i : Ins) (u : Value) (h : RunAt B g gp r w 0 0 s cv av) (hk : i.k = 6) (hi : OkI r s.p.length i) (hu : IntsV w u i.args) (hcl : s.calls.length ≤ 1048576) :
    Calls Try.prog 42 #[.pointer (some ⟨g, 0, none⟩), insV i u] w (StepPost B g gp r w (act r i s)) := by
  obtain ⟨k, op, d, a, b, nn, args⟩ := i
  simp only at hk hu
  subst hk
  obtain ⟨dn, hd, hd2⟩ := nat_of (hi.d (by simp) (by simp))
  obtain ⟨hargs1, hargs2⟩ := hi.args rfl
  simp only at hd hargs1 hargs2
  subst hd
  have hBx := bel1' w (bxI ⟨6, op, dn, a, b, nn, args⟩ u)
  have hR1 := h.of hBx
  have hM1 : Mv B gp w _ := Mv.of hBx h.size.1
  have hbox : (w.alloc (bxI ⟨6, op, dn, a, b, nn, args⟩ u)).heap[w.heap.size]? = some (Obj.cells (rowI ⟨6, op, dn, a, b, nn, args⟩ u) 65 (0, 0)) := heap_alloc_new w _
  have hu1 := hu.below hBx
  obtain ⟨b0, b1, b2, b3, b4, b5, b6⟩ := rowI_cells hbox
  simp only [bxI, Nat.zero_add] at b0 b1 b2 b3 b4 b5 b6 hR1 hM1 hbox hu1
  have HR := hide hR1
  have HM := hide hM1
  have HB := hide (And.intro hbox (And.intro b2 (And.intro b3 (And.intro b4 b5))))
  have c69 := hR1.c69
  unfold insV
  simp only
  clear h hR1 hM1 hBx hi b1 b2 b3 b4 b5 b6 hbox
  go_enter Try.func42, Try.ntmps42
  go_wp2_with fail
  clear b0 c69
  generalize w.alloc (.cells #[.int .u8 6, .int .u8 op, .int .i64 (dn : Nat), .int .i64 a, .int .i64 b, .int .i64 nn, u] 65) = W1 at *
  generalize w.heap.size = gb at *
  have hdr : Below W1.heap.size W1 W1.drew := (Below.refl _ _).drew
  obtain ⟨x, hx⟩ : ∃ x, s.ans.headD 0 = x := ⟨_, rfl⟩
  have hE : Hid (act r ⟨6, op, dn, a, b, nn, args⟩ s = .inl { calledS s ⟨6, op, dn, a, b, nn, args⟩ with p := s.p.set dn x }) := by show _ = _; rw [← hx]; simp [act, pst, calledS]
  refine st6_ok (g := g) (gp := gp) (gb := gb) (n := s.p.length) rfl rfl rfl rfl HR.out HB.out.1 hu1 hargs1 hargs2 hcl rfl hd2 rfl hx ?_
  rintro q W0 ⟨⟨cv', av', hR2⟩, hM2⟩
  simp [overlay, dstsOf, ops_st6_ok]
  obtain ⟨hR3, hM3⟩ := hR2.place dn x
  have HM3 := hide (((HM.out.trans (Mv.of hdr HR.out.size.1)).trans hM2).trans hM3)
  clear hR2 hM2
  have HR3 := hide hR3
  clear hR3 hM3 HR HM HB hdr
  go_wp2_with fail
  go_end0
  exact ⟨⟨_, rfl⟩, by rw [hE.out]; exact ⟨_, _, HR3.out⟩, HM3.out⟩
set_option maxHeartbeats 1000000 in
set_option maxRecDepth 100000 in
theorem step_7 (B g gp : Nat) (r : Int) (w : World) (s : St) (cv av : Value) (i : Ins) (u : Value) (h : RunAt B g gp r w 0 0 s cv av) (hk : i.k = 7) (hi : OkI r s.p.length i) (hr0 : 0 ≤ r) :
    Calls Try.prog 42 #[.pointer (some ⟨g, 0, none⟩), insV i u] w (StepPost B g gp r w (act r i s)) := by
  obtain ⟨k, op, d, a, b, nn, args⟩ := i
  simp only at hk
  subst hk
  obtain ⟨an, ha, ha2⟩ := nat_of (hi.a (by simp) (by simp) (by simp))
  obtain ⟨q1, q2, q3⟩ := hi.d7 rfl
  obtain ⟨dn, hd⟩ : ∃ dn : Nat, d = (dn : Int) := ⟨d.toNat, by simp only at q1; omega⟩
  obtain ⟨en, he⟩ : ∃ en : Nat, r + d = (en : Int) := ⟨(r + d).toNat, by simp only at q1; omega⟩
  simp only at ha hd q1 q2 q3
  subst ha
  subst hd
  have he2 : en < s.p.length := by omega
  have hBx := bel1' w (bxI ⟨7, op, dn, an, b, nn, args⟩ u)
  have hR1 := h.of hBx
  have hM1 : Mv B gp w _ := Mv.of hBx h.size.1
  have hbox : (w.alloc (bxI ⟨7, op, dn, an, b, nn, args⟩ u)).heap[w.heap.size]? = some (Obj.cells (rowI ⟨7, op, dn, an, b, nn, args⟩ u) 65 (0, 0)) := heap_alloc_new w _
  obtain ⟨b0, b1, b2, b3, b4, b5, b6⟩ := rowI_cells hbox
  simp only [bxI, Nat.zero_add] at b0 b1 b2 b3 b4 b5 b6 hR1 hM1 hbox
  have HR := hide hR1
  have HM := hide hM1
  have HB := hide (And.intro hbox (And.intro b2 (And.intro b3 (And.intro b4 b5))))
  have c69 := hR1.c69
  unfold insV
  simp only
  clear h hR1 hM1 hBx hi b1 b2 b3 b4 b5 b6 hbox
  go_enter Try.func42, Try.ntmps42
  go_wp2_with fail
  clear b0 c69
  generalize w.alloc (.cells #[.int .u8 7, .int .u8 op, .int .i64 (dn : Nat), .int .i64 (an : Nat), .int .i64 b, .int .i64 nn, u] 65) = W1 at *
  generalize w.heap.size = gb at *
  have hdr : Below W1.heap.size W1 W1.drew := (Below.refl _ _).drew
  have hel : (en : Int) < (s.p.length : Int) := by omega
  have hal : (an : Int) < (s.p.length : Int) := by omega
  have hpl : (s.p.length : Int) ≤ 1000000 := by have := HR.out.small; omega
  obtain ⟨x, hx⟩ : ∃ x, pg s.p (an : Int) = x := ⟨_, rfl⟩
  obtain ⟨hR3, hM3⟩ := (HR.out.of hdr).place en x
  have hE : Hid (act r ⟨7, op, dn, an, b, nn, args⟩ s = .inl { s with p := s.p.set en x }) := by show _ = _; simp [act, pst, hx, he]
  have HM3 := hide ((HM.out.trans (Mv.of hdr HR.out.size.1)).trans hM3)
  refine st7_ok (g := g) (gp := gp) (n := s.p.length) rfl rfl rfl rfl HR.out.c68 HB.out.2.1 HB.out.2.2.1 (HR.out.pp ha2 hx) (HR.out.pc he2) (HR.out.pf en) he hel hal hpl ?_
  intro q
  simp [overlay, dstsOf, ops_st7_ok]
  have HR3 := hide hR3
  clear hR3 hM3 HR HM HB hdr
  go_wp2_with fail
  go_end0
  exact ⟨⟨_, rfl⟩, by rw [hE.out]; exact ⟨_, _, HR3.out⟩, HM3.out⟩
set_option maxHeartbeats 1000000 in
set_option maxRecDepth 100000 in
theorem step_8 (B g gp : Nat) (r : Int) (w : World) (s : St) (cv av : Value) (i : Ins) (u : Value) (h : RunAt B g gp r w 0 0 s cv av) (hk : i.k = 8) (hi : OkI r s.p.length i) (hr0 : 0 ≤ r) :
    Calls Try.prog 42 #[.pointer (some ⟨g, 0, none⟩), insV i u] w (StepPost B g gp r w (act r i s)) := by
  obtain ⟨k, op, d, a, b, nn, args⟩ := i
  simp only at hk
  subst hk
  obtain ⟨dn, hd, hd2⟩ := nat_of (hi.d (by simp) (by simp))
  obtain ⟨q1, q2, q3⟩ := hi.a8 rfl
  obtain ⟨an, ha⟩ : ∃ an : Nat, a = (an : Int) := ⟨a.toNat, by simp only at q1; omega⟩
  obtain ⟨en, he⟩ : ∃ en : Nat, r + a = (en : Int) := ⟨(r + a).toNat, by simp only at q1; omega⟩
  simp only at hd ha q1 q2 q3
  subst hd
  subst ha
  have he2 : en < s.p.length := by omega
  have hBx := bel1' w (bxI ⟨8, op, dn, an, b, nn, args⟩ u)
  have hR1 := h.of hBx
  have hM1 : Mv B gp w _ := Mv.of hBx h.size.1
  have hbox : (w.alloc (bxI ⟨8, op, dn, an, b, nn, args⟩ u)).heap[w.heap.size]? = some (Obj.cells (rowI ⟨8, op, dn, an, b, nn, args⟩ u) 65 (0, 0)) := heap_alloc_new w _
  obtain ⟨b0, b1, b2, b3, b4, b5, b6⟩ := rowI_cells hbox
  simp only [bxI, Nat.zero_add] at b0 b1 b2 b3 b4 b5 b6 hR1 hM1 hbox
  have HR := hide hR1
  have HM := hide hM1
  have HB := hide (And.intro hbox (And.intro b2 (And.intro b3 (And.intro b4 b5))))
  have c69 := hR1.c69
  unfold insV
  simp only
  clear h hR1 hM1 hBx hi b1 b2 b3 b4 b5 b6 hbox
  go_enter Try.func42, Try.ntmps42
  go_wp2_with fail
  clear b0 c69
  generalize w.alloc (.cells #[.int .u8 8, .int .u8 op, .int .i64 (dn : Nat), .int .i64 (an : Nat), .int .i64 b, .int .i64 nn, u] 65) = W1 at *
  generalize w.heap.size = gb at *
  have hdr : Below W1.heap.size W1 W1.drew := (Below.refl _ _).drew
  have hdl : (dn : Int) < (s.p.length : Int) := by omega
  have hel : (en : Int) < (s.p.length : Int) := by omega
  have hpl : (s.p.length : Int) ≤ 1000000 := by have := HR.out.small; omega
  obtain ⟨x, hx⟩ : ∃ x, pg s.p (en : Int) = x := ⟨_, rfl⟩
  obtain ⟨hR3, hM3⟩ := (HR.out.of hdr).place dn x
  have hE : Hid (act r ⟨8, op, dn, an, b, nn, args⟩ s = .inl { s with p := s.p.set dn x }) := by show _ = _; simp [act, pst, hx, he]
  have HM3 := hide ((HM.out.trans (Mv.of hdr HR.out.size.1)).trans hM3)
  refine st8_ok (g := g) (gp := gp) (n := s.p.length) rfl rfl rfl rfl HR.out.c68 HB.out.2.1 HB.out.2.2.1 (HR.out.pp he2 hx) (HR.out.pc hd2) (HR.out.pf dn) he hdl hel hpl ?_
  intro q
  simp [overlay, dstsOf, ops_st8_ok]
  have HR3 := hide hR3
  clear hR3 hM3 HR HM HB hdr
  go_wp2_with fail
  go_end0
  exact ⟨⟨_, rfl⟩, by rw [hE.out]; exact ⟨_, _, HR3.out⟩, HM3.out⟩
/-- An instruction that was paid for is done. -/
theorem step_any (B g gp : Nat) (r : Int) (w : World) (s : St) (cv av : Value) (i : Ins) (u : Value) (h : RunAt B g gp r w 0 0 s cv av) (hi : OkI r s.p.length i) (hu : IntsV w u i.args) (hcl : s.calls.length ≤ 1048576) (hr0 : 0 ≤ r) :
    Calls Try.prog 42 #[.pointer (some ⟨g, 0, none⟩), insV i u] w (StepPost B g gp r w (act r i s)) := by
  have hk := hi.k
  have : i.k = 1 ∨ i.k = 2 ∨ i.k = 3 ∨ i.k = 4 ∨ i.k = 5 ∨ i.k = 6 ∨ i.k = 7 ∨ i.k = 8 := by omega
  rcases this with hk | hk | hk | hk | hk | hk | hk | hk
  · exact step_1 B g gp r w s cv av i u h hk hi
  · exact step_2 B g gp r w s cv av i u h hk hi
  · exact step_3 B g gp r w s cv av i u h hk hi
  · exact step_4 B g gp r w s cv av i u h hk hi
  · exact step_5 B g gp r w s cv av i u h hk hi
  · exact step_6 B g gp r w s cv av i u h hk hi hu hcl
  · exact step_7 B g gp r w s cv av i u h hk hi hr0
  · exact step_8 B g gp r w s cv av i u h hk hi hr0
end Go.Proofs.Ytepmbkiojpffpaa
