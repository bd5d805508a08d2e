/- RunRenamed: one instruction is renamed. -/
import Derived.Test.YtljnngblhfhhaabRw1
namespace Go.Proofs.Ytljnngblhfhhaab
open Go Go.RowKit Ir

theorem upI_at (D : Nat → Nat → Ins) (kk jj : Nat) (i : Ins) : upI D kk jj i kk jj = i := if_pos ⟨rfl, rfl⟩
theorem upI_up (D : Nat → Nat → Ins) (kk jj : Nat) (i j : Ins) : upI (upI D kk jj i) kk jj j = upI D kk jj j := by
  funext k l
  unfold upI
  split <;> rfl
theorem Cur.up {W0 w : World} {lo hi gb kk jj f0 : Nat} {qs : List Ap.PB} {D : Nat → Nat → Ins} {E : Nat → En} {i i' : Ins} {x : Value} (h : Ap.Cur W0 lo qs gb (upI D kk jj i) E w) (hA : Ap.Apt lo hi qs gb) (hk : kk < qs.length) (hj : jj < Ap.nI qs kk) (hf : f0 < 7) (h0 : ∀ u, Ap.icell i' u f0 = x) (h1 : ∀ u f, f < 7 → f ≠ f0 → Ap.icell i' u f = Ap.icell i u f) (ha : i'.args = i.args) : Ap.Cur W0 lo qs gb (upI D kk jj i') E (w.setCell ⟨Ap.ob (Ap.rv qs kk), jj * 7 + f0, none⟩ x) := by
  have := h.setI hA hk hj hf h0 (by rw [upI_at]; exact h1) (by rw [upI_at]; exact ha)
  have e : (fun k j => if k = kk ∧ j = jj then i' else upI D kk jj i k j) = upI D kk jj i' := upI_up D kk jj i i'
  rw [e] at this
  exact this
theorem Cur.cells {W0 w : World} {lo gb kk jj : Nat} {qs : List Ap.PB} {D : Nat → Nat → Ins} {E : Nat → En} {i : Ins} (h : Ap.Cur W0 lo qs gb (upI D kk jj i) E w) (hk : kk < qs.length) (hj : jj < Ap.nI qs kk) :
    w.cell? ⟨Ap.ob (Ap.rv qs kk), jj * 7, none⟩ = some (.int .u8 i.k) ∧ w.cell? ⟨Ap.ob (Ap.rv qs kk), jj * 7 + 2, none⟩ = some (.int .i64 i.d) ∧ w.cell? ⟨Ap.ob (Ap.rv qs kk), jj * 7 + 3, none⟩ = some (.int .i64 i.a) ∧ w.cell? ⟨Ap.ob (Ap.rv qs kk), jj * 7 + 4, none⟩ = some (.int .i64 i.b) := by
  have h1 := h.ins kk hk jj hj
  rw [upI_at] at h1
  exact ⟨h1 0 (by omega), h1 2 (by omega), h1 3 (by omega), h1 4 (by omega)⟩
set_option maxHeartbeats 2000000 in
set_option maxRecDepth 100000 in
theorem ins_1 {Q : Exit → Act → World → Prop} {a : Act} {W0 w : World} {lo hi gb gu gv kk jj : Nat} {qs : List Ap.PB} {U V : Int} {D : Nat → Nat → Ins} {E : Nat → En} {v5 v9 v10 v18 v55 v56 : Value} (hA : ActR v5 v9 v10 (clos gu gv) (.pointer (some ⟨gb, kk * 5, none⟩)) v18 v55 v56 (.int .i64 (Ap.nI qs kk : Nat)) (.int .i64 (jj : Nat)) a) (hC : Ap.Cur W0 lo qs gb D E w) (hP : Ap.Apt lo hi qs gb) (hX : Boxes W0 qs gb gu gv U V) (hf : ∀ b o, Ap.Zone qs gb b → W0.frozen? ⟨b, o, none⟩ = false) (hk : kk < qs.length) (hj : jj < Ap.nI qs kk) (hnk : Ap.nI qs kk ≤ 1000) (hrv : ∃ cap, Ap.rv qs kk = .slice (some ⟨Ap.ob (Ap.rv qs kk), 0, none⟩) (Ap.nI qs kk) cap)
    (hav : ∃ ao cap, Ap.av qs kk jj = .slice ao (D kk jj).args.length cap ∧ (0 < (D kk jj).args.length → ao = some ⟨Ap.ob (Ap.av qs kk jj), 0, none⟩)) (hl3 : (D kk jj).args.length ≤ 3) (hkind : (D kk jj).k = 1)
    (hend : ∀ (a' : Act) (w' : World) (v18' : Value), ActR v5 v9 v10 (clos gu gv) (.pointer (some ⟨gb, kk * 5, none⟩)) v18' v55 v56 (.int .i64 (Ap.nI qs kk : Nat)) (.int .i64 (jj + 1 : Nat)) a' → Ap.Cur W0 lo qs gb (upI D kk jj (renI U V (D kk jj))) E w' → Q .normal a' w') : insB.wp Try.prog Q a w := by
  obtain ⟨ρ, rfl⟩ := hA.lit
  obtain ⟨cap, hrv⟩ := hrv
  obtain ⟨i, hi⟩ : ∃ i, D kk jj = i := ⟨_, rfl⟩
  have hC0 : Ap.Cur W0 lo qs gb (upI D kk jj i) E w := hC.congr (fun k' _ j' _ => by unfold upI; split; (rename_i e; rw [e.1, e.2, hi]); rfl) (fun _ _ => rfl)
  rw [hi] at hav hl3 hkind hend
  obtain ⟨kd, op, d, x, b, nn, args⟩ := i
  simp only at hav hl3 hkind
  subst hkind
  have hcb := hC0.blk kk hk 0 (by omega)
  have eb : Ap.ecell (E kk) (Ap.rv qs kk) 0 = Ap.rv qs kk := rfl
  rw [eb, hrv, Nat.add_zero] at hcb
  have hfg : ∀ o, W0.frozen? ⟨Ap.ob (Ap.rv qs kk), o, none⟩ = false := fun o => hf _ o (.inr (.inl ⟨kk, hk, by omega, rfl⟩))
  obtain ⟨k0, kd0, ka0, kb0⟩ := Cur.cells hC0 hk hj
  obtain ⟨u0, w0⟩ := hX.cells hC0
  have HC0 := hide hC0
  have hC1 : Ap.Cur W0 lo qs gb (upI D kk jj ⟨1, op, (swp U V d), x, b, nn, args⟩) E (w.setCell ⟨Ap.ob (Ap.rv qs kk), jj * 7 + 2, none⟩ (.int .i64 (swp U V d))) := Cur.up HC0.out hP hk hj (by omega) (fun _ => rfl) (fun u f hf hne => by
    match f, hf, hne with
    | 0, _, _ => rfl
    | 1, _, _ => rfl
    | 3, _, _ => rfl
    | 4, _, _ => rfl
    | 5, _, _ => rfl
    | 6, _, _ => rfl
    | 2, _, h => exact absurd rfl h) rfl
  obtain ⟨k1, kd1, ka1, kb1⟩ := Cur.cells hC1 hk hj
  obtain ⟨u1, w1⟩ := hX.cells hC1
  have f1 : w.frozen? ⟨Ap.ob (Ap.rv qs kk), jj * 7 + 2, none⟩ = false := (HC0.out.fro _).trans (hfg _)
  have HC1 := hide hC1
  have HK1 := hide (as_any gu gv U V d w u0 w0)
  have HIC := hide hi
  have HEND := hide hend
  have HAV := hide hav
  have hjl : (jj : Int) < (Ap.nI qs kk : Int) := by omega
  have hjb : (jj : Int) ≤ 1000 := by omega
  obtain ⟨g, hg⟩ : ∃ g, Ap.ob (Ap.rv qs kk) = g := ⟨_, rfl⟩
  have HG := hide hg
  have HRV := hide hrv
  obtain ⟨nk, hnn⟩ : ∃ nk, Ap.nI qs kk = nk := ⟨_, rfl⟩
  have HNN := hide hnn
  rw [hnn] at hjl hnk hcb
  rw [hg] at hcb k0 kd0 ka0 kb0
  simp only [hg] at k1 kd1 ka1 kb1 f1 u1 w1
  rw [hnn]
  simp only [clos]
  clear hC hC0 hC1 hA hi hrv hav hend hg hnn hfg eb
  unfold insB
  go_wp2_with fail
  refine HK1.out.mono ?_
  rintro e w' ⟨rfl, rfl⟩
  go_wp2_with fail
  clear HK1 f1
  have hD := upI_at D kk jj ⟨1, op, (swp U V d), x, b, nn, args⟩
  refine args_ok (U := U) (V := V) (kk := kk) (jj := jj) (D := upI D kk jj ⟨1, op, (swp U V d), x, b, nn, args⟩) (E := E) ⟨rfl, rfl, rfl, rfl, rfl, rfl, by rw [HG.out]; rfl, rfl, rfl, rfl, rfl, rfl⟩ (by have h := HC1.out; simp only [HG.out] at h; exact h) hP hX hf hk hj (by rw [hD]; exact HAV.out) (by rw [hD]; exact hl3) ?_
  intro a' w' hA' hC'
  rw [upI_up, hD] at hC'
  obtain ⟨ρ2, rfl⟩ := hA'.lit
  simp only [clos]
  have HCF := hide hC'
  clear hC' hA'
  go_wp2_with fail
  refine HEND.out _ _ _ ⟨rfl, rfl, rfl, rfl, rfl, rfl, rfl, rfl, rfl, by rw [HNN.out]; rfl, ?_, rfl⟩ HCF.out
  show Value.int IntKind.i64 _ = Value.int IntKind.i64 _
  congr 1
  rw [IntKind.wrap_i64]
  omega
set_option maxHeartbeats 2000000 in
set_option maxRecDepth 100000 in
theorem ins_2 {Q : Exit → Act → World → Prop} {a : Act} {W0 w : World} {lo hi gb gu gv kk jj : Nat} {qs : List Ap.PB} {U V : Int} {D : Nat → Nat → Ins} {E : Nat → En} {v5 v9 v10 v18 v55 v56 : Value} (hA : ActR v5 v9 v10 (clos gu gv) (.pointer (some ⟨gb, kk * 5, none⟩)) v18 v55 v56 (.int .i64 (Ap.nI qs kk : Nat)) (.int .i64 (jj : Nat)) a) (hC : Ap.Cur W0 lo qs gb D E w) (hP : Ap.Apt lo hi qs gb) (hX : Boxes W0 qs gb gu gv U V) (hf : ∀ b o, Ap.Zone qs gb b → W0.frozen? ⟨b, o, none⟩ = false) (hk : kk < qs.length) (hj : jj < Ap.nI qs kk) (hnk : Ap.nI qs kk ≤ 1000) (hrv : ∃ cap, Ap.rv qs kk = .slice (some ⟨Ap.ob (Ap.rv qs kk), 0, none⟩) (Ap.nI qs kk) cap)
    (hav : ∃ ao cap, Ap.av qs kk jj = .slice ao (D kk jj).args.length cap ∧ (0 < (D kk jj).args.length → ao = some ⟨Ap.ob (Ap.av qs kk jj), 0, none⟩)) (hl3 : (D kk jj).args.length ≤ 3) (hkind : (D kk jj).k = 2)
    (hend : ∀ (a' : Act) (w' : World) (v18' : Value), ActR v5 v9 v10 (clos gu gv) (.pointer (some ⟨gb, kk * 5, none⟩)) v18' v55 v56 (.int .i64 (Ap.nI qs kk : Nat)) (.int .i64 (jj + 1 : Nat)) a' → Ap.Cur W0 lo qs gb (upI D kk jj (renI U V (D kk jj))) E w' → Q .normal a' w') : insB.wp Try.prog Q a w := by
  obtain ⟨ρ, rfl⟩ := hA.lit
  obtain ⟨cap, hrv⟩ := hrv
  obtain ⟨i, hi⟩ : ∃ i, D kk jj = i := ⟨_, rfl⟩
  have hC0 : Ap.Cur W0 lo qs gb (upI D kk jj i) E w := hC.congr (fun k' _ j' _ => by unfold upI; split; (rename_i e; rw [e.1, e.2, hi]); rfl) (fun _ _ => rfl)
  rw [hi] at hav hl3 hkind hend
  obtain ⟨kd, op, d, x, b, nn, args⟩ := i
  simp only at hav hl3 hkind
  subst hkind
  have hcb := hC0.blk kk hk 0 (by omega)
  have eb : Ap.ecell (E kk) (Ap.rv qs kk) 0 = Ap.rv qs kk := rfl
  rw [eb, hrv, Nat.add_zero] at hcb
  have hfg : ∀ o, W0.frozen? ⟨Ap.ob (Ap.rv qs kk), o, none⟩ = false := fun o => hf _ o (.inr (.inl ⟨kk, hk, by omega, rfl⟩))
  obtain ⟨k0, kd0, ka0, kb0⟩ := Cur.cells hC0 hk hj
  obtain ⟨u0, w0⟩ := hX.cells hC0
  have HC0 := hide hC0
  have hC1 : Ap.Cur W0 lo qs gb (upI D kk jj ⟨2, op, (swp U V d), x, b, nn, args⟩) E (w.setCell ⟨Ap.ob (Ap.rv qs kk), jj * 7 + 2, none⟩ (.int .i64 (swp U V d))) := Cur.up HC0.out hP hk hj (by omega) (fun _ => rfl) (fun u f hf hne => by
    match f, hf, hne with
    | 0, _, _ => rfl
    | 1, _, _ => rfl
    | 3, _, _ => rfl
    | 4, _, _ => rfl
    | 5, _, _ => rfl
    | 6, _, _ => rfl
    | 2, _, h => exact absurd rfl h) rfl
  obtain ⟨k1, kd1, ka1, kb1⟩ := Cur.cells hC1 hk hj
  obtain ⟨u1, w1⟩ := hX.cells hC1
  have f1 : w.frozen? ⟨Ap.ob (Ap.rv qs kk), jj * 7 + 2, none⟩ = false := (HC0.out.fro _).trans (hfg _)
  have HC1 := hide hC1
  have HK1 := hide (as_any gu gv U V d w u0 w0)
  have hC2 : Ap.Cur W0 lo qs gb (upI D kk jj ⟨2, op, (swp U V d), (swp U V x), b, nn, args⟩) E ((w.setCell ⟨Ap.ob (Ap.rv qs kk), jj * 7 + 2, none⟩ (.int .i64 (swp U V d))).setCell ⟨Ap.ob (Ap.rv qs kk), jj * 7 + 3, none⟩ (.int .i64 (swp U V x))) := Cur.up HC1.out hP hk hj (by omega) (fun _ => rfl) (fun u f hf hne => by
    match f, hf, hne with
    | 0, _, _ => rfl
    | 1, _, _ => rfl
    | 2, _, _ => rfl
    | 4, _, _ => rfl
    | 5, _, _ => rfl
    | 6, _, _ => rfl
    | 3, _, h => exact absurd rfl h) rfl
  obtain ⟨k2, kd2, ka2, kb2⟩ := Cur.cells hC2 hk hj
  obtain ⟨u2, w2⟩ := hX.cells hC2
  have f2 : (w.setCell ⟨Ap.ob (Ap.rv qs kk), jj * 7 + 2, none⟩ (.int .i64 (swp U V d))).frozen? ⟨Ap.ob (Ap.rv qs kk), jj * 7 + 3, none⟩ = false := (HC1.out.fro _).trans (hfg _)
  have HC2 := hide hC2
  have HK2 := hide (as_any gu gv U V x (w.setCell ⟨Ap.ob (Ap.rv qs kk), jj * 7 + 2, none⟩ (.int .i64 (swp U V d))) u1 w1)
  have HIC := hide hi
  have HEND := hide hend
  have HAV := hide hav
  have hjl : (jj : Int) < (Ap.nI qs kk : Int) := by omega
  have hjb : (jj : Int) ≤ 1000 := by omega
  obtain ⟨g, hg⟩ : ∃ g, Ap.ob (Ap.rv qs kk) = g := ⟨_, rfl⟩
  have HG := hide hg
  have HRV := hide hrv
  obtain ⟨nk, hnn⟩ : ∃ nk, Ap.nI qs kk = nk := ⟨_, rfl⟩
  have HNN := hide hnn
  rw [hnn] at hjl hnk hcb
  rw [hg] at hcb k0 kd0 ka0 kb0
  simp only [hg] at k1 kd1 ka1 kb1 f1 u1 w1 k2 kd2 ka2 kb2 f2 u2 w2
  simp only [hg] at HK2
  rw [hnn]
  simp only [clos]
  clear hC hC0 hC1 hC2 hA hi hrv hav hend hg hnn hfg eb
  unfold insB
  go_wp2_with fail
  refine HK1.out.mono ?_
  rintro e w' ⟨rfl, rfl⟩
  go_wp2_with fail
  refine HK2.out.mono ?_
  rintro e w' ⟨rfl, rfl⟩
  go_wp2_with fail
  clear HK1 f1 HK2 f2
  have hD := upI_at D kk jj ⟨2, op, (swp U V d), (swp U V x), b, nn, args⟩
  refine args_ok (U := U) (V := V) (kk := kk) (jj := jj) (D := upI D kk jj ⟨2, op, (swp U V d), (swp U V x), b, nn, args⟩) (E := E) ⟨rfl, rfl, rfl, rfl, rfl, rfl, by rw [HG.out]; rfl, rfl, rfl, rfl, rfl, rfl⟩ (by have h := HC2.out; simp only [HG.out] at h; exact h) hP hX hf hk hj (by rw [hD]; exact HAV.out) (by rw [hD]; exact hl3) ?_
  intro a' w' hA' hC'
  rw [upI_up, hD] at hC'
  obtain ⟨ρ2, rfl⟩ := hA'.lit
  simp only [clos]
  have HCF := hide hC'
  clear hC' hA'
  go_wp2_with fail
  refine HEND.out _ _ _ ⟨rfl, rfl, rfl, rfl, rfl, rfl, rfl, rfl, rfl, by rw [HNN.out]; rfl, ?_, rfl⟩ HCF.out
  show Value.int IntKind.i64 _ = Value.int IntKind.i64 _
  congr 1
  rw [IntKind.wrap_i64]
  omega
set_option maxHeartbeats 2000000 in
set_option maxRecDepth 100000 in
theorem ins_3 {Q : Exit → Act → World → Prop} {a : Act} {W0 w : World} {lo hi gb gu gv kk jj : Nat} {qs : List Ap.PB} {U V : Int} {D : Nat → Nat → Ins} {E : Nat → En} {v5 v9 v10 v18 v55 v56 : Value} (hA : ActR v5 v9 v10 (clos gu gv) (.pointer (some ⟨gb, kk * 5, none⟩)) v18 v55 v56 (.int .i64 (Ap.nI qs kk : Nat)) (.int .i64 (jj : Nat)) a) (hC : Ap.Cur W0 lo qs gb D E w) (hP : Ap.Apt lo hi qs gb) (hX : Boxes W0 qs gb gu gv U V) (hf : ∀ b o, Ap.Zone qs gb b → W0.frozen? ⟨b, o, none⟩ = false) (hk : kk < qs.length) (hj : jj < Ap.nI qs kk) (hnk : Ap.nI qs kk ≤ 1000) (hrv : ∃ cap, Ap.rv qs kk = .slice (some ⟨Ap.ob (Ap.rv qs kk), 0, none⟩) (Ap.nI qs kk) cap)
    (hav : ∃ ao cap, Ap.av qs kk jj = .slice ao (D kk jj).args.length cap ∧ (0 < (D kk jj).args.length → ao = some ⟨Ap.ob (Ap.av qs kk jj), 0, none⟩)) (hl3 : (D kk jj).args.length ≤ 3) (hkind : (D kk jj).k = 3)
    (hend : ∀ (a' : Act) (w' : World) (v18' : Value), ActR v5 v9 v10 (clos gu gv) (.pointer (some ⟨gb, kk * 5, none⟩)) v18' v55 v56 (.int .i64 (Ap.nI qs kk : Nat)) (.int .i64 (jj + 1 : Nat)) a' → Ap.Cur W0 lo qs gb (upI D kk jj (renI U V (D kk jj))) E w' → Q .normal a' w') : insB.wp Try.prog Q a w := by
  obtain ⟨ρ, rfl⟩ := hA.lit
  obtain ⟨cap, hrv⟩ := hrv
  obtain ⟨i, hi⟩ : ∃ i, D kk jj = i := ⟨_, rfl⟩
  have hC0 : Ap.Cur W0 lo qs gb (upI D kk jj i) E w := hC.congr (fun k' _ j' _ => by unfold upI; split; (rename_i e; rw [e.1, e.2, hi]); rfl) (fun _ _ => rfl)
  rw [hi] at hav hl3 hkind hend
  obtain ⟨kd, op, d, x, b, nn, args⟩ := i
  simp only at hav hl3 hkind
  subst hkind
  have hcb := hC0.blk kk hk 0 (by omega)
  have eb : Ap.ecell (E kk) (Ap.rv qs kk) 0 = Ap.rv qs kk := rfl
  rw [eb, hrv, Nat.add_zero] at hcb
  have hfg : ∀ o, W0.frozen? ⟨Ap.ob (Ap.rv qs kk), o, none⟩ = false := fun o => hf _ o (.inr (.inl ⟨kk, hk, by omega, rfl⟩))
  obtain ⟨k0, kd0, ka0, kb0⟩ := Cur.cells hC0 hk hj
  obtain ⟨u0, w0⟩ := hX.cells hC0
  have HC0 := hide hC0
  have hC1 : Ap.Cur W0 lo qs gb (upI D kk jj ⟨3, op, (swp U V d), x, b, nn, args⟩) E (w.setCell ⟨Ap.ob (Ap.rv qs kk), jj * 7 + 2, none⟩ (.int .i64 (swp U V d))) := Cur.up HC0.out hP hk hj (by omega) (fun _ => rfl) (fun u f hf hne => by
    match f, hf, hne with
    | 0, _, _ => rfl
    | 1, _, _ => rfl
    | 3, _, _ => rfl
    | 4, _, _ => rfl
    | 5, _, _ => rfl
    | 6, _, _ => rfl
    | 2, _, h => exact absurd rfl h) rfl
  obtain ⟨k1, kd1, ka1, kb1⟩ := Cur.cells hC1 hk hj
  obtain ⟨u1, w1⟩ := hX.cells hC1
  have f1 : w.frozen? ⟨Ap.ob (Ap.rv qs kk), jj * 7 + 2, none⟩ = false := (HC0.out.fro _).trans (hfg _)
  have HC1 := hide hC1
  have HK1 := hide (as_any gu gv U V d w u0 w0)
  have hC2 : Ap.Cur W0 lo qs gb (upI D kk jj ⟨3, op, (swp U V d), (swp U V x), b, nn, args⟩) E ((w.setCell ⟨Ap.ob (Ap.rv qs kk), jj * 7 + 2, none⟩ (.int .i64 (swp U V d))).setCell ⟨Ap.ob (Ap.rv qs kk), jj * 7 + 3, none⟩ (.int .i64 (swp U V x))) := Cur.up HC1.out hP hk hj (by omega) (fun _ => rfl) (fun u f hf hne => by
    match f, hf, hne with
    | 0, _, _ => rfl
    | 1, _, _ => rfl
    | 2, _, _ => rfl
    | 4, _, _ => rfl
    | 5, _, _ => rfl
    | 6, _, _ => rfl
    | 3, _, h => exact absurd rfl h) rfl
  obtain ⟨k2, kd2, ka2, kb2⟩ := Cur.cells hC2 hk hj
  obtain ⟨u2, w2⟩ := hX.cells hC2
  have f2 : (w.setCell ⟨Ap.ob (Ap.rv qs kk), jj * 7 + 2, none⟩ (.int .i64 (swp U V d))).frozen? ⟨Ap.ob (Ap.rv qs kk), jj * 7 + 3, none⟩ = false := (HC1.out.fro _).trans (hfg _)
  have HC2 := hide hC2
  have HK2 := hide (as_any gu gv U V x (w.setCell ⟨Ap.ob (Ap.rv qs kk), jj * 7 + 2, none⟩ (.int .i64 (swp U V d))) u1 w1)
  have hC3 : Ap.Cur W0 lo qs gb (upI D kk jj ⟨3, op, (swp U V d), (swp U V x), (swp U V b), nn, args⟩) E (((w.setCell ⟨Ap.ob (Ap.rv qs kk), jj * 7 + 2, none⟩ (.int .i64 (swp U V d))).setCell ⟨Ap.ob (Ap.rv qs kk), jj * 7 + 3, none⟩ (.int .i64 (swp U V x))).setCell ⟨Ap.ob (Ap.rv qs kk), jj * 7 + 4, none⟩ (.int .i64 (swp U V b))) := Cur.up HC2.out hP hk hj (by omega) (fun _ => rfl) (fun u f hf hne => by
    match f, hf, hne with
    | 0, _, _ => rfl
    | 1, _, _ => rfl
    | 2, _, _ => rfl
    | 3, _, _ => rfl
    | 5, _, _ => rfl
    | 6, _, _ => rfl
    | 4, _, h => exact absurd rfl h) rfl
  obtain ⟨k3, kd3, ka3, kb3⟩ := Cur.cells hC3 hk hj
  obtain ⟨u3, w3⟩ := hX.cells hC3
  have f3 : ((w.setCell ⟨Ap.ob (Ap.rv qs kk), jj * 7 + 2, none⟩ (.int .i64 (swp U V d))).setCell ⟨Ap.ob (Ap.rv qs kk), jj * 7 + 3, none⟩ (.int .i64 (swp U V x))).frozen? ⟨Ap.ob (Ap.rv qs kk), jj * 7 + 4, none⟩ = false := (HC2.out.fro _).trans (hfg _)
  have HC3 := hide hC3
  have HK3 := hide (as_any gu gv U V b ((w.setCell ⟨Ap.ob (Ap.rv qs kk), jj * 7 + 2, none⟩ (.int .i64 (swp U V d))).setCell ⟨Ap.ob (Ap.rv qs kk), jj * 7 + 3, none⟩ (.int .i64 (swp U V x))) u2 w2)
  have HIC := hide hi
  have HEND := hide hend
  have HAV := hide hav
  have hjl : (jj : Int) < (Ap.nI qs kk : Int) := by omega
  have hjb : (jj : Int) ≤ 1000 := by omega
  obtain ⟨g, hg⟩ : ∃ g, Ap.ob (Ap.rv qs kk) = g := ⟨_, rfl⟩
  have HG := hide hg
  have HRV := hide hrv
  obtain ⟨nk, hnn⟩ : ∃ nk, Ap.nI qs kk = nk := ⟨_, rfl⟩
  have HNN := hide hnn
  rw [hnn] at hjl hnk hcb
  rw [hg] at hcb k0 kd0 ka0 kb0
  simp only [hg] at k1 kd1 ka1 kb1 f1 u1 w1 k2 kd2 ka2 kb2 f2 u2 w2 k3 kd3 ka3 kb3 f3 u3 w3
  simp only [hg] at HK2 HK3
  rw [hnn]
  simp only [clos]
  clear hC hC0 hC1 hC2 hC3 hA hi hrv hav hend hg hnn hfg eb
  unfold insB
  go_wp2_with fail
  refine HK1.out.mono ?_
  rintro e w' ⟨rfl, rfl⟩
  go_wp2_with fail
  refine HK2.out.mono ?_
  rintro e w' ⟨rfl, rfl⟩
  go_wp2_with fail
  refine HK3.out.mono ?_
  rintro e w' ⟨rfl, rfl⟩
  go_wp2_with fail
  clear HK1 f1 HK2 f2 HK3 f3
  have hD := upI_at D kk jj ⟨3, op, (swp U V d), (swp U V x), (swp U V b), nn, args⟩
  refine args_ok (U := U) (V := V) (kk := kk) (jj := jj) (D := upI D kk jj ⟨3, op, (swp U V d), (swp U V x), (swp U V b), nn, args⟩) (E := E) ⟨rfl, rfl, rfl, rfl, rfl, rfl, by rw [HG.out]; rfl, rfl, rfl, rfl, rfl, rfl⟩ (by have h := HC3.out; simp only [HG.out] at h; exact h) hP hX hf hk hj (by rw [hD]; exact HAV.out) (by rw [hD]; exact hl3) ?_
  intro a' w' hA' hC'
  rw [upI_up, hD] at hC'
  obtain ⟨ρ2, rfl⟩ := hA'.lit
  simp only [clos]
  have HCF := hide hC'
  clear hC' hA'
  go_wp2_with fail
  refine HEND.out _ _ _ ⟨rfl, rfl, rfl, rfl, rfl, rfl, rfl, rfl, rfl, by rw [HNN.out]; rfl, ?_, rfl⟩ HCF.out
  show Value.int IntKind.i64 _ = Value.int IntKind.i64 _
  congr 1
  rw [IntKind.wrap_i64]
  omega
set_option maxHeartbeats 2000000 in
set_option maxRecDepth 100000 in
theorem ins_4 {Q : Exit → Act → World → Prop} {a : Act} {W0 w : World} {lo hi gb gu gv kk jj : Nat} {qs : List Ap.PB} {U V : Int} {D : Nat → Nat → Ins} {E : Nat → En} {v5 v9 v10 v18 v55 v56 : Value} (hA : ActR v5 v9 v10 (clos gu gv) (.pointer (some ⟨gb, kk * 5, none⟩)) v18 v55 v56 (.int .i64 (Ap.nI qs kk : Nat)) (.int .i64 (jj : Nat)) a) (hC : Ap.Cur W0 lo qs gb D E w) (hP : Ap.Apt lo hi qs gb) (hX : Boxes W0 qs gb gu gv U V) (hf : ∀ b o, Ap.Zone qs gb b → W0.frozen? ⟨b, o, none⟩ = false) (hk : kk < qs.length) (hj : jj < Ap.nI qs kk) (hnk : Ap.nI qs kk ≤ 1000) (hrv : ∃ cap, Ap.rv qs kk = .slice (some ⟨Ap.ob (Ap.rv qs kk), 0, none⟩) (Ap.nI qs kk) cap)
    (hav : ∃ ao cap, Ap.av qs kk jj = .slice ao (D kk jj).args.length cap ∧ (0 < (D kk jj).args.length → ao = some ⟨Ap.ob (Ap.av qs kk jj), 0, none⟩)) (hl3 : (D kk jj).args.length ≤ 3) (hkind : (D kk jj).k = 4)
    (hend : ∀ (a' : Act) (w' : World) (v18' : Value), ActR v5 v9 v10 (clos gu gv) (.pointer (some ⟨gb, kk * 5, none⟩)) v18' v55 v56 (.int .i64 (Ap.nI qs kk : Nat)) (.int .i64 (jj + 1 : Nat)) a' → Ap.Cur W0 lo qs gb (upI D kk jj (renI U V (D kk jj))) E w' → Q .normal a' w') : insB.wp Try.prog Q a w := by
  obtain ⟨ρ, rfl⟩ := hA.lit
  obtain ⟨cap, hrv⟩ := hrv
  obtain ⟨i, hi⟩ : ∃ i, D kk jj = i := ⟨_, rfl⟩
  have hC0 : Ap.Cur W0 lo qs gb (upI D kk jj i) E w := hC.congr (fun k' _ j' _ => by unfold upI; split; (rename_i e; rw [e.1, e.2, hi]); rfl) (fun _ _ => rfl)
  rw [hi] at hav hl3 hkind hend
  obtain ⟨kd, op, d, x, b, nn, args⟩ := i
  simp only at hav hl3 hkind
  subst hkind
  have hcb := hC0.blk kk hk 0 (by omega)
  have eb : Ap.ecell (E kk) (Ap.rv qs kk) 0 = Ap.rv qs kk := rfl
  rw [eb, hrv, Nat.add_zero] at hcb
  have hfg : ∀ o, W0.frozen? ⟨Ap.ob (Ap.rv qs kk), o, none⟩ = false := fun o => hf _ o (.inr (.inl ⟨kk, hk, by omega, rfl⟩))
  obtain ⟨k0, kd0, ka0, kb0⟩ := Cur.cells hC0 hk hj
  obtain ⟨u0, w0⟩ := hX.cells hC0
  have HC0 := hide hC0
  have hC1 : Ap.Cur W0 lo qs gb (upI D kk jj ⟨4, op, (swp U V d), x, b, nn, args⟩) E (w.setCell ⟨Ap.ob (Ap.rv qs kk), jj * 7 + 2, none⟩ (.int .i64 (swp U V d))) := Cur.up HC0.out hP hk hj (by omega) (fun _ => rfl) (fun u f hf hne => by
    match f, hf, hne with
    | 0, _, _ => rfl
    | 1, _, _ => rfl
    | 3, _, _ => rfl
    | 4, _, _ => rfl
    | 5, _, _ => rfl
    | 6, _, _ => rfl
    | 2, _, h => exact absurd rfl h) rfl
  obtain ⟨k1, kd1, ka1, kb1⟩ := Cur.cells hC1 hk hj
  obtain ⟨u1, w1⟩ := hX.cells hC1
  have f1 : w.frozen? ⟨Ap.ob (Ap.rv qs kk), jj * 7 + 2, none⟩ = false := (HC0.out.fro _).trans (hfg _)
  have HC1 := hide hC1
  have HK1 := hide (as_any gu gv U V d w u0 w0)
  have hC2 : Ap.Cur W0 lo qs gb (upI D kk jj ⟨4, op, (swp U V d), (swp U V x), b, nn, args⟩) E ((w.setCell ⟨Ap.ob (Ap.rv qs kk), jj * 7 + 2, none⟩ (.int .i64 (swp U V d))).setCell ⟨Ap.ob (Ap.rv qs kk), jj * 7 + 3, none⟩ (.int .i64 (swp U V x))) := Cur.up HC1.out hP hk hj (by omega) (fun _ => rfl) (fun u f hf hne => by
    match f, hf, hne with
    | 0, _, _ => rfl
    | 1, _, _ => rfl
    | 2, _, _ => rfl
    | 4, _, _ => rfl
    | 5, _, _ => rfl
    | 6, _, _ => rfl
    | 3, _, h => exact absurd rfl h) rfl
  obtain ⟨k2, kd2, ka2, kb2⟩ := Cur.cells hC2 hk hj
  obtain ⟨u2, w2⟩ := hX.cells hC2
  have f2 : (w.setCell ⟨Ap.ob (Ap.rv qs kk), jj * 7 + 2, none⟩ (.int .i64 (swp U V d))).frozen? ⟨Ap.ob (Ap.rv qs kk), jj * 7 + 3, none⟩ = false := (HC1.out.fro _).trans (hfg _)
  have HC2 := hide hC2
  have HK2 := hide (as_any gu gv U V x (w.setCell ⟨Ap.ob (Ap.rv qs kk), jj * 7 + 2, none⟩ (.int .i64 (swp U V d))) u1 w1)
  have HIC := hide hi
  have HEND := hide hend
  have HAV := hide hav
  have hjl : (jj : Int) < (Ap.nI qs kk : Int) := by omega
  have hjb : (jj : Int) ≤ 1000 := by omega
  obtain ⟨g, hg⟩ : ∃ g, Ap.ob (Ap.rv qs kk) = g := ⟨_, rfl⟩
  have HG := hide hg
  have HRV := hide hrv
  obtain ⟨nk, hnn⟩ : ∃ nk, Ap.nI qs kk = nk := ⟨_, rfl⟩
  have HNN := hide hnn
  rw [hnn] at hjl hnk hcb
  rw [hg] at hcb k0 kd0 ka0 kb0
  simp only [hg] at k1 kd1 ka1 kb1 f1 u1 w1 k2 kd2 ka2 kb2 f2 u2 w2
  simp only [hg] at HK2
  rw [hnn]
  simp only [clos]
  clear hC hC0 hC1 hC2 hA hi hrv hav hend hg hnn hfg eb
  unfold insB
  go_wp2_with fail
  refine HK1.out.mono ?_
  rintro e w' ⟨rfl, rfl⟩
  go_wp2_with fail
  refine HK2.out.mono ?_
  rintro e w' ⟨rfl, rfl⟩
  go_wp2_with fail
  clear HK1 f1 HK2 f2
  have hD := upI_at D kk jj ⟨4, op, (swp U V d), (swp U V x), b, nn, args⟩
  refine args_ok (U := U) (V := V) (kk := kk) (jj := jj) (D := upI D kk jj ⟨4, op, (swp U V d), (swp U V x), b, nn, args⟩) (E := E) ⟨rfl, rfl, rfl, rfl, rfl, rfl, by rw [HG.out]; rfl, rfl, rfl, rfl, rfl, rfl⟩ (by have h := HC2.out; simp only [HG.out] at h; exact h) hP hX hf hk hj (by rw [hD]; exact HAV.out) (by rw [hD]; exact hl3) ?_
  intro a' w' hA' hC'
  rw [upI_up, hD] at hC'
  obtain ⟨ρ2, rfl⟩ := hA'.lit
  simp only [clos]
  have HCF := hide hC'
  clear hC' hA'
  go_wp2_with fail
  refine HEND.out _ _ _ ⟨rfl, rfl, rfl, rfl, rfl, rfl, rfl, rfl, rfl, by rw [HNN.out]; rfl, ?_, rfl⟩ HCF.out
  show Value.int IntKind.i64 _ = Value.int IntKind.i64 _
  congr 1
  rw [IntKind.wrap_i64]
  omega
set_option maxHeartbeats 2000000 in
set_option maxRecDepth 100000 in
theorem ins_5 {Q : Exit → Act → World → Prop} {a : Act} {W0 w : World} {lo hi gb gu gv kk jj : Nat} {qs : List Ap.PB} {U V : Int} {D : Nat → Nat → Ins} {E : Nat → En} {v5 v9 v10 v18 v55 v56 : Value} (hA : ActR v5 v9 v10 (clos gu gv) (.pointer (some ⟨gb, kk * 5, none⟩)) v18 v55 v56 (.int .i64 (Ap.nI qs kk : Nat)) (.int .i64 (jj : Nat)) a) (hC : Ap.Cur W0 lo qs gb D E w) (hP : Ap.Apt lo hi qs gb) (hX : Boxes W0 qs gb gu gv U V) (hf : ∀ b o, Ap.Zone qs gb b → W0.frozen? ⟨b, o, none⟩ = false) (hk : kk < qs.length) (hj : jj < Ap.nI qs kk) (hnk : Ap.nI qs kk ≤ 1000) (hrv : ∃ cap, Ap.rv qs kk = .slice (some ⟨Ap.ob (Ap.rv qs kk), 0, none⟩) (Ap.nI qs kk) cap)
    (hav : ∃ ao cap, Ap.av qs kk jj = .slice ao (D kk jj).args.length cap ∧ (0 < (D kk jj).args.length → ao = some ⟨Ap.ob (Ap.av qs kk jj), 0, none⟩)) (hl3 : (D kk jj).args.length ≤ 3) (hkind : (D kk jj).k = 5)
    (hend : ∀ (a' : Act) (w' : World) (v18' : Value), ActR v5 v9 v10 (clos gu gv) (.pointer (some ⟨gb, kk * 5, none⟩)) v18' v55 v56 (.int .i64 (Ap.nI qs kk : Nat)) (.int .i64 (jj + 1 : Nat)) a' → Ap.Cur W0 lo qs gb (upI D kk jj (renI U V (D kk jj))) E w' → Q .normal a' w') : insB.wp Try.prog Q a w := by
  obtain ⟨ρ, rfl⟩ := hA.lit
  obtain ⟨cap, hrv⟩ := hrv
  obtain ⟨i, hi⟩ : ∃ i, D kk jj = i := ⟨_, rfl⟩
  have hC0 : Ap.Cur W0 lo qs gb (upI D kk jj i) E w := hC.congr (fun k' _ j' _ => by unfold upI; split; (rename_i e; rw [e.1, e.2, hi]); rfl) (fun _ _ => rfl)
  rw [hi] at hav hl3 hkind hend
  obtain ⟨kd, op, d, x, b, nn, args⟩ := i
  simp only at hav hl3 hkind
  subst hkind
  have hcb := hC0.blk kk hk 0 (by omega)
  have eb : Ap.ecell (E kk) (Ap.rv qs kk) 0 = Ap.rv qs kk := rfl
  rw [eb, hrv, Nat.add_zero] at hcb
  have hfg : ∀ o, W0.frozen? ⟨Ap.ob (Ap.rv qs kk), o, none⟩ = false := fun o => hf _ o (.inr (.inl ⟨kk, hk, by omega, rfl⟩))
  obtain ⟨k0, kd0, ka0, kb0⟩ := Cur.cells hC0 hk hj
  obtain ⟨u0, w0⟩ := hX.cells hC0
  have HC0 := hide hC0
  have hC1 : Ap.Cur W0 lo qs gb (upI D kk jj ⟨5, op, d, (swp U V x), b, nn, args⟩) E (w.setCell ⟨Ap.ob (Ap.rv qs kk), jj * 7 + 3, none⟩ (.int .i64 (swp U V x))) := Cur.up HC0.out hP hk hj (by omega) (fun _ => rfl) (fun u f hf hne => by
    match f, hf, hne with
    | 0, _, _ => rfl
    | 1, _, _ => rfl
    | 2, _, _ => rfl
    | 4, _, _ => rfl
    | 5, _, _ => rfl
    | 6, _, _ => rfl
    | 3, _, h => exact absurd rfl h) rfl
  obtain ⟨k1, kd1, ka1, kb1⟩ := Cur.cells hC1 hk hj
  obtain ⟨u1, w1⟩ := hX.cells hC1
  have f1 : w.frozen? ⟨Ap.ob (Ap.rv qs kk), jj * 7 + 3, none⟩ = false := (HC0.out.fro _).trans (hfg _)
  have HC1 := hide hC1
  have HK1 := hide (as_any gu gv U V x w u0 w0)
  have hC2 : Ap.Cur W0 lo qs gb (upI D kk jj ⟨5, op, d, (swp U V x), (swp U V b), nn, args⟩) E ((w.setCell ⟨Ap.ob (Ap.rv qs kk), jj * 7 + 3, none⟩ (.int .i64 (swp U V x))).setCell ⟨Ap.ob (Ap.rv qs kk), jj * 7 + 4, none⟩ (.int .i64 (swp U V b))) := Cur.up HC1.out hP hk hj (by omega) (fun _ => rfl) (fun u f hf hne => by
    match f, hf, hne with
    | 0, _, _ => rfl
    | 1, _, _ => rfl
    | 2, _, _ => rfl
    | 3, _, _ => rfl
    | 5, _, _ => rfl
    | 6, _, _ => rfl
    | 4, _, h => exact absurd rfl h) rfl
  obtain ⟨k2, kd2, ka2, kb2⟩ := Cur.cells hC2 hk hj
  obtain ⟨u2, w2⟩ := hX.cells hC2
  have f2 : (w.setCell ⟨Ap.ob (Ap.rv qs kk), jj * 7 + 3, none⟩ (.int .i64 (swp U V x))).frozen? ⟨Ap.ob (Ap.rv qs kk), jj * 7 + 4, none⟩ = false := (HC1.out.fro _).trans (hfg _)
  have HC2 := hide hC2
  have HK2 := hide (as_any gu gv U V b (w.setCell ⟨Ap.ob (Ap.rv qs kk), jj * 7 + 3, none⟩ (.int .i64 (swp U V x))) u1 w1)
  have HIC := hide hi
  have HEND := hide hend
  have HAV := hide hav
  have hjl : (jj : Int) < (Ap.nI qs kk : Int) := by omega
  have hjb : (jj : Int) ≤ 1000 := by omega
  obtain ⟨g, hg⟩ : ∃ g, Ap.ob (Ap.rv qs kk) = g := ⟨_, rfl⟩
  have HG := hide hg
  have HRV := hide hrv
  obtain ⟨nk, hnn⟩ : ∃ nk, Ap.nI qs kk = nk := ⟨_, rfl⟩
  have HNN := hide hnn
  rw [hnn] at hjl hnk hcb
  rw [hg] at hcb k0 kd0 ka0 kb0
  simp only [hg] at k1 kd1 ka1 kb1 f1 u1 w1 k2 kd2 ka2 kb2 f2 u2 w2
  simp only [hg] at HK2
  rw [hnn]
  simp only [clos]
  clear hC hC0 hC1 hC2 hA hi hrv hav hend hg hnn hfg eb
  unfold insB
  go_wp2_with fail
  refine HK1.out.mono ?_
  rintro e w' ⟨rfl, rfl⟩
  go_wp2_with fail
  refine HK2.out.mono ?_
  rintro e w' ⟨rfl, rfl⟩
  go_wp2_with fail
  clear HK1 f1 HK2 f2
  have hD := upI_at D kk jj ⟨5, op, d, (swp U V x), (swp U V b), nn, args⟩
  refine args_ok (U := U) (V := V) (kk := kk) (jj := jj) (D := upI D kk jj ⟨5, op, d, (swp U V x), (swp U V b), nn, args⟩) (E := E) ⟨rfl, rfl, rfl, rfl, rfl, rfl, by rw [HG.out]; rfl, rfl, rfl, rfl, rfl, rfl⟩ (by have h := HC2.out; simp only [HG.out] at h; exact h) hP hX hf hk hj (by rw [hD]; exact HAV.out) (by rw [hD]; exact hl3) ?_
  intro a' w' hA' hC'
  rw [upI_up, hD] at hC'
  obtain ⟨ρ2, rfl⟩ := hA'.lit
  simp only [clos]
  have HCF := hide hC'
  clear hC' hA'
  go_wp2_with fail
  refine HEND.out _ _ _ ⟨rfl, rfl, rfl, rfl, rfl, rfl, rfl, rfl, rfl, by rw [HNN.out]; rfl, ?_, rfl⟩ HCF.out
  show Value.int IntKind.i64 _ = Value.int IntKind.i64 _
  congr 1
  rw [IntKind.wrap_i64]
  omega
set_option maxHeartbeats 2000000 in
set_option maxRecDepth 100000 in
theorem ins_6 {Q : Exit → Act → World → Prop} {a : Act} {W0 w : World} {lo hi gb gu gv kk jj : Nat} {qs : List Ap.PB} {U V : Int} {D : Nat → Nat → Ins} {E : Nat → En} {v5 v9 v10 v18 v55 v56 : Value} (hA : ActR v5 v9 v10 (clos gu gv) (.pointer (some ⟨gb, kk * 5, none⟩)) v18 v55 v56 (.int .i64 (Ap.nI qs kk : Nat)) (.int .i64 (jj : Nat)) a) (hC : Ap.Cur W0 lo qs gb D E w) (hP : Ap.Apt lo hi qs gb) (hX : Boxes W0 qs gb gu gv U V) (hf : ∀ b o, Ap.Zone qs gb b → W0.frozen? ⟨b, o, none⟩ = false) (hk : kk < qs.length) (hj : jj < Ap.nI qs kk) (hnk : Ap.nI qs kk ≤ 1000) (hrv : ∃ cap, Ap.rv qs kk = .slice (some ⟨Ap.ob (Ap.rv qs kk), 0, none⟩) (Ap.nI qs kk) cap)
    (hav : ∃ ao cap, Ap.av qs kk jj = .slice ao (D kk jj).args.length cap ∧ (0 < (D kk jj).args.length → ao = some ⟨Ap.ob (Ap.av qs kk jj), 0, none⟩)) (hl3 : (D kk jj).args.length ≤ 3) (hkind : (D kk jj).k = 6)
    (hend : ∀ (a' : Act) (w' : World) (v18' : Value), ActR v5 v9 v10 (clos gu gv) (.pointer (some ⟨gb, kk * 5, none⟩)) v18' v55 v56 (.int .i64 (Ap.nI qs kk : Nat)) (.int .i64 (jj + 1 : Nat)) a' → Ap.Cur W0 lo qs gb (upI D kk jj (renI U V (D kk jj))) E w' → Q .normal a' w') : insB.wp Try.prog Q a w := by
  obtain ⟨ρ, rfl⟩ := hA.lit
  obtain ⟨cap, hrv⟩ := hrv
  obtain ⟨i, hi⟩ : ∃ i, D kk jj = i := ⟨_, rfl⟩
  have hC0 : Ap.Cur W0 lo qs gb (upI D kk jj i) E w := hC.congr (fun k' _ j' _ => by unfold upI; split; (rename_i e; rw [e.1, e.2, hi]); rfl) (fun _ _ => rfl)
  rw [hi] at hav hl3 hkind hend
  obtain ⟨kd, op, d, x, b, nn, args⟩ := i
  simp only at hav hl3 hkind
  subst hkind
  have hcb := hC0.blk kk hk 0 (by omega)
  have eb : Ap.ecell (E kk) (Ap.rv qs kk) 0 = Ap.rv qs kk := rfl
  rw [eb, hrv, Nat.add_zero] at hcb
  have hfg : ∀ o, W0.frozen? ⟨Ap.ob (Ap.rv qs kk), o, none⟩ = false := fun o => hf _ o (.inr (.inl ⟨kk, hk, by omega, rfl⟩))
  obtain ⟨k0, kd0, ka0, kb0⟩ := Cur.cells hC0 hk hj
  obtain ⟨u0, w0⟩ := hX.cells hC0
  have HC0 := hide hC0
  have hC1 : Ap.Cur W0 lo qs gb (upI D kk jj ⟨6, op, (swp U V d), x, b, nn, args⟩) E (w.setCell ⟨Ap.ob (Ap.rv qs kk), jj * 7 + 2, none⟩ (.int .i64 (swp U V d))) := Cur.up HC0.out hP hk hj (by omega) (fun _ => rfl) (fun u f hf hne => by
    match f, hf, hne with
    | 0, _, _ => rfl
    | 1, _, _ => rfl
    | 3, _, _ => rfl
    | 4, _, _ => rfl
    | 5, _, _ => rfl
    | 6, _, _ => rfl
    | 2, _, h => exact absurd rfl h) rfl
  obtain ⟨k1, kd1, ka1, kb1⟩ := Cur.cells hC1 hk hj
  obtain ⟨u1, w1⟩ := hX.cells hC1
  have f1 : w.frozen? ⟨Ap.ob (Ap.rv qs kk), jj * 7 + 2, none⟩ = false := (HC0.out.fro _).trans (hfg _)
  have HC1 := hide hC1
  have HK1 := hide (as_any gu gv U V d w u0 w0)
  have HIC := hide hi
  have HEND := hide hend
  have HAV := hide hav
  have hjl : (jj : Int) < (Ap.nI qs kk : Int) := by omega
  have hjb : (jj : Int) ≤ 1000 := by omega
  obtain ⟨g, hg⟩ : ∃ g, Ap.ob (Ap.rv qs kk) = g := ⟨_, rfl⟩
  have HG := hide hg
  have HRV := hide hrv
  obtain ⟨nk, hnn⟩ : ∃ nk, Ap.nI qs kk = nk := ⟨_, rfl⟩
  have HNN := hide hnn
  rw [hnn] at hjl hnk hcb
  rw [hg] at hcb k0 kd0 ka0 kb0
  simp only [hg] at k1 kd1 ka1 kb1 f1 u1 w1
  rw [hnn]
  simp only [clos]
  clear hC hC0 hC1 hA hi hrv hav hend hg hnn hfg eb
  unfold insB
  go_wp2_with fail
  refine HK1.out.mono ?_
  rintro e w' ⟨rfl, rfl⟩
  go_wp2_with fail
  clear HK1 f1
  have hD := upI_at D kk jj ⟨6, op, (swp U V d), x, b, nn, args⟩
  refine args_ok (U := U) (V := V) (kk := kk) (jj := jj) (D := upI D kk jj ⟨6, op, (swp U V d), x, b, nn, args⟩) (E := E) ⟨rfl, rfl, rfl, rfl, rfl, rfl, by rw [HG.out]; rfl, rfl, rfl, rfl, rfl, rfl⟩ (by have h := HC1.out; simp only [HG.out] at h; exact h) hP hX hf hk hj (by rw [hD]; exact HAV.out) (by rw [hD]; exact hl3) ?_
  intro a' w' hA' hC'
  rw [upI_up, hD] at hC'
  obtain ⟨ρ2, rfl⟩ := hA'.lit
  simp only [clos]
  have HCF := hide hC'
  clear hC' hA'
  go_wp2_with fail
  refine HEND.out _ _ _ ⟨rfl, rfl, rfl, rfl, rfl, rfl, rfl, rfl, rfl, by rw [HNN.out]; rfl, ?_, rfl⟩ HCF.out
  show Value.int IntKind.i64 _ = Value.int IntKind.i64 _
  congr 1
  rw [IntKind.wrap_i64]
  omega
end Go.Proofs.Ytljnngblhfhhaab
