/- frame.Take: the frame with which bytes begin: its kind, its bytes, how long it is; or the fault. -/
import Derived.Test.YtlonniegaaocoaaOps
import Derived.Test.YtlonniegaaocoaaLength
namespace Go.Proofs.Ytlonniegaaocoaa
open Go.RowKit

/-- Bytes that lie in a block ahead of B, or in one that is a row of bytes. -/
def Sided (B : Nat) (w : World) (v : Value) (xs : List Int) : Prop := ∃ b, BytAt b w v xs ∧ (0 < xs.length → b < B ∨ ∃ cs fr, w.heap[b]? = some (.cells cs 5 fr))
theorem Sided.byt {B : Nat} {w : World} {v : Value} {xs : List Int} (h : Sided B w v xs) : Byt w v xs := by
  obtain ⟨b, h, _⟩ := h
  exact ⟨b, h⟩
theorem Sided.nil (B : Nat) (w : World) : Sided B w (.slice none 0 0) [] :=
  ⟨0, ⟨by simp, none, 0, rfl, Nat.le_refl _, by simp [maxLen], fun _ => rfl, fun h => by simp at h⟩, fun h => by simp at h⟩
theorem Byt.atBlock {w : World} {g o n c : Nat} {xs : List Int} (h : Byt w (.slice (some ⟨g, o, none⟩) n c) xs) : BytAt g w (.slice (some ⟨g, o, none⟩) n c) xs := by
  obtain ⟨b, h0, ao, cap, e, h2, h3, h4, h5⟩ := h
  refine ⟨h0, ao, cap, e, h2, h3, h4, fun hp => ?_⟩
  obtain ⟨off, e2, hc⟩ := h5 hp
  simp only [Value.slice.injEq] at e
  have e3 := e.1.trans e2
  simp only [Option.some.injEq, Addr.mk.injEq, and_true] at e3
  obtain ⟨rfl, rfl⟩ := e3
  exact ⟨o, e2, hc⟩

/-- What Take answers of bytes xs. -/
def Took (w : World) (xs : List Int) (e : Ending) (w' : World) : Prop :=
  ∃ v', e = .returned (.tuple #[.int .u8 (Frm.tk xs).1, v', .int .i64 (Frm.tk xs).2.2.1, .int .i64 (Frm.tk xs).2.2.2]) ∧ Byt w' v' (Frm.tk xs).2.1 ∧ Below w.heap.size w w'
/-- The same, and where what it answers lies. -/
def TookS (B : Nat) (w : World) (xs : List Int) (e : Ending) (w' : World) : Prop :=
  ∃ v', e = .returned (.tuple #[.int .u8 (Frm.tk xs).1, v', .int .i64 (Frm.tk xs).2.2.1, .int .i64 (Frm.tk xs).2.2.2]) ∧ Sided B w' v' (Frm.tk xs).2.1 ∧ Below w.heap.size w w'
theorem TookS.took {B : Nat} {w w' : World} {xs : List Int} {e : Ending} (h : TookS B w xs e w') : Took w xs e w' := by
  obtain ⟨v', e, h, hb⟩ := h
  exact ⟨v', e, h.byt, hb⟩

theorem TookS.fault {B : Nat} {w w' : World} {xs : List Int} {c : Int} (h : Frm.tk xs = (0, [], 0, c)) (hB : Below w.heap.size w w') : TookS B w xs (.returned (.tuple #[.int .u8 0, .slice none 0 0, .int .i64 0, .int .i64 c])) w' := by
  refine ⟨.slice none 0 0, ?_, ?_, hB⟩
  · rw [h]; rfl
  · rw [h]; exact Sided.nil B w'

theorem Byt.head {w : World} {v : Value} {xs : List Int} (h : Byt w v xs) (h0 : 0 < xs.length) : ∃ b off cap, v = .slice (some ⟨b, off, none⟩) xs.length cap ∧ xs.length ≤ cap ∧ cap ≤ maxLen ∧ b < w.heap.size := by
  obtain ⟨b, h0', ao, cap, rfl, h2, h3, _, h4⟩ := h
  obtain ⟨off, rfl, hc⟩ := h4 h0
  exact ⟨b, off, cap, rfl, h2, h3, World.block_lt_of_cell? w _ (hc 0 h0)⟩
theorem Byt.cellAt {w : World} {b off cap : Nat} {xs : List Int} (h : Byt w (.slice (some ⟨b, off, none⟩) xs.length cap) xs) (j : Nat) (hj : j < xs.length) : w.cell? ⟨b, off + j, none⟩ = some (.int .u8 (xs.getD j 0)) := by
  obtain ⟨b', off', e, _, hc⟩ := h.at j hj
  simp only [Option.some.injEq, Addr.mk.injEq, and_true] at e
  obtain ⟨rfl, rfl⟩ := e
  exact hc

set_option maxHeartbeats 400000 in
set_option maxRecDepth 100000 in
theorem take_short (B : Nat) (v : Value) (xs : List Int) (w : World) (hv : Byt w v xs) (h : xs.length < 2) : Calls Try.prog 12 #[v] w (TookS B w xs) := by
  have hT := Frm.tk_short h
  obtain ⟨ao, cap, rfl⟩ := hv.slice
  clear hv
  have HT := hide hT
  clear hT
  go_enter Try.func12, Try.ntmps12
  go_wp2_with fail
  refine bodyPost_ret (v := .tuple #[.int .u8 0, .slice none 0 0, .int .i64 0, .int .i64 3]) (by simp [results, Try.results12, go_sem]) rfl ?_
  exact TookS.fault HT.out (Below.refl _ _)

set_option maxHeartbeats 400000 in
set_option maxRecDepth 100000 in
theorem take_magic (B : Nat) (v : Value) (xs : List Int) (w : World) (hv : Byt w v xs) (h : ¬ xs.length < 2) (h1 : xs.getD 0 0 ≠ 111) : Calls Try.prog 12 #[v] w (TookS B w xs) := by
  have HT := hide (Frm.tk_magic h h1)
  obtain ⟨b, off, cap, rfl, hlc, hcm, _⟩ := hv.head (by omega)
  have hc := hv.cellAt 0 (by omega)
  rw [Nat.add_zero] at hc
  have hl : (2 : Int) ≤ (xs.length : Int) := by omega
  have hb : (xs.getD 0 0 == 111) = false := by simpa using h1
  generalize xs.getD 0 0 = c at *
  clear hv h1
  go_enter Try.func12, Try.ntmps12
  go_wp2_with fail
  refine bodyPost_ret (v := .tuple #[.int .u8 0, .slice none 0 0, .int .i64 0, .int .i64 7]) (by simp [results, Try.results12, go_sem]) rfl ?_
  exact TookS.fault HT.out (Below.refl _ _)

set_option maxHeartbeats 400000 in
set_option maxRecDepth 100000 in
theorem take_bad (B : Nat) (v : Value) (xs : List Int) (w : World) (c : Int) (hv : Byt w v xs) (hx : xs.length ≤ 1000000000) (h : ¬ xs.length < 2) (h1 : ¬ xs.getD 0 0 ≠ 111) (hc : (Frm.lc xs ≠ 0 ∧ c = Frm.lc xs) ∨ (Frm.lc xs = 0 ∧ 65536 < Frm.ln xs ∧ c = 4)) : Calls Try.prog 12 #[v] w (TookS B w xs) := by
  have hT : Frm.tk xs = (0, [], 0, c) := by
    rcases hc with ⟨h2, rfl⟩ | ⟨h2, h3, rfl⟩
    · exact Frm.tk_num h h1 h2
    · exact Frm.tk_long h h1 (by simp [h2]) h3
  have HT := hide hT
  have hc0 : (c == 0) = false := by
    rcases hc with ⟨h2, rfl⟩ | ⟨h2, h3, rfl⟩
    · simpa using h2
    · rfl
  have HL := hide (length_bad v xs w c hv (by omega) hx hc)
  obtain ⟨b, off, cap, rfl, hlc, hcm, _⟩ := hv.head (by omega)
  have hcl := hv.cellAt 0 (by omega)
  have h1' : xs.getD 0 0 = 111 := by simpa using h1
  rw [Nat.add_zero, h1'] at hcl
  have hl : (2 : Int) ≤ (xs.length : Int) := by omega
  clear hv h1 h1' hc hT
  go_enter Try.func12, Try.ntmps12
  go_wp2_with fail
  refine HL.out.mono ?_
  rintro e w1 ⟨rfl, hB1⟩
  clear HL hcl
  go_wp2_with fail
  refine bodyPost_ret (v := .tuple #[.int .u8 0, .slice none 0 0, .int .i64 0, .int .i64 c]) (by simp [results, Try.results12, go_sem]) rfl ?_
  exact TookS.fault HT.out hB1

set_option maxHeartbeats 400000 in
set_option maxRecDepth 100000 in
theorem take_cut (B : Nat) (v : Value) (xs : List Int) (w : World) (hv : Byt w v xs) (hx : xs.length ≤ 1000000000) (h : ¬ xs.length < 2) (h1 : ¬ xs.getD 0 0 ≠ 111) (h2 : ¬ Frm.lc xs ≠ 0) (h3 : ¬ 65536 < Frm.ln xs) (h4 : xs.length < 2 + Frm.ls xs + 4 + Frm.ln xs) : Calls Try.prog 12 #[v] w (TookS B w xs) := by
  have HT := hide (Frm.tk_cut h h1 h2 h3 h4)
  have h2' : Frm.lc xs = 0 := by simpa using h2
  have HL := hide (length_ok v xs w hv (by omega) hx h2' (by omega))
  obtain ⟨b, off, cap, rfl, hlc, hcm, _⟩ := hv.head (by omega)
  have hcl := hv.cellAt 0 (by omega)
  have h1' : xs.getD 0 0 = 111 := by simpa using h1
  rw [Nat.add_zero, h1'] at hcl
  have hl : (2 : Int) ≤ (xs.length : Int) := by omega
  have hls := Frm.ls_le h2'
  have hfl := Frm.front_len xs
  have hln : Frm.ln xs ≤ 65536 := by omega
  have hsz : (xs.length : Int) < ((2 + Frm.ls xs : Nat) : Int) + 4 + (Frm.ln xs : Int) := by omega
  have hat : 2 + Frm.ls xs ≤ 12 := by omega
  generalize 2 + Frm.ls xs = at0 at *
  generalize Frm.ln xs = n at *
  clear hv h1 h1' h2 h2' h3 h4 hls hfl
  go_enter Try.func12, Try.ntmps12
  go_wp2_with fail
  refine HL.out.mono ?_
  rintro e w1 ⟨rfl, hB1⟩
  clear HL hcl
  go_wp2_with fail
  refine bodyPost_ret (v := .tuple #[.int .u8 0, .slice none 0 0, .int .i64 0, .int .i64 3]) (by simp [results, Try.results12, go_sem]) rfl ?_
  exact TookS.fault HT.out hB1

/-- What is known of each temporary that the comparison of the sums writes, once it is written. -/
def Gt (b off len cap at0 sz : Nat) (k : Int) (sm ck : List Int) (u : Value) (bad : Bool) : Tmp → Value → Prop
  | 34, v => v = .slice (some ⟨b, off, none⟩) len cap
  | 35, v => v = .int .i64 (at0 : Nat)
  | 36, v => v = .int .i64 (at0 + 4 : Nat)
  | 37, v => v = .slice (some ⟨b, off + at0, none⟩) 4 (cap - at0)
  | 38, v => v = .pointer (some ⟨b, off + at0, none⟩)
  | 39, v => v = arr4 sm
  | 40, v => v = .slice (some ⟨b, off, none⟩) len cap
  | 41, v => v = .pointer (some ⟨b, off + 1, none⟩)
  | 42, v => v = .int .u8 k
  | 43, v => v = .slice (some ⟨b, off, none⟩) len cap
  | 44, v => v = .int .i64 (at0 + 4 : Nat)
  | 45, v => v = .int .i64 (sz : Nat)
  | 46, v => v = u
  | 47, v => v = arr4 ck
  | 48, v => v = .bool bad
  | _, _ => True

set_option maxHeartbeats 1000000 in
set_option maxRecDepth 100000 in
theorem take_end (B : Nat) (v : Value) (xs : List Int) (w : World) (hv : Byt w v xs) (hx : xs.length ≤ 1000000000) (h : ¬ xs.length < 2) (h1 : ¬ xs.getD 0 0 ≠ 111) (h2 : ¬ Frm.lc xs ≠ 0) (h3 : ¬ 65536 < Frm.ln xs) (h4 : ¬ xs.length < 2 + Frm.ls xs + 4 + Frm.ln xs) : Calls Try.prog 12 #[v] w (TookS B w xs) := by
  obtain ⟨i0, hi, hz0, hz1, hz2⟩ := info_parts info5
  have HTS := hide (Frm.tk_sum h h1 h2 h3 h4)
  have HTT := hide (Frm.tk_take h h1 h2 h3 h4)
  have h2' : Frm.lc xs = 0 := by simpa using h2
  have HL := hide (length_ok v xs w hv (by omega) hx h2' (by omega))
  obtain ⟨b, off, cap, rfl, hlc, hcm, _⟩ := hv.head (by omega)
  have hcl := hv.cellAt 0 (by omega)
  have h1' : xs.getD 0 0 = 111 := by simpa using h1
  rw [Nat.add_zero, h1'] at hcl
  have hl : (2 : Int) ≤ (xs.length : Int) := by omega
  have hls := Frm.ls_le h2'
  have hfl := Frm.front_len xs
  have hln : Frm.ln xs ≤ 65536 := by omega
  have hat : 2 + Frm.ls xs ≤ 12 := by omega
  have hk := hv.bytes (xs.getD 1 0) (by
    have : 1 < xs.length := by omega
    simp [List.getElem?_eq_getElem this])
  have hk0 := hk.1
  have hk1 := hk.2
  have hsl := Frm.sm_len h4
  have hcl4 := Frm.chk_len (xs.getD 1 0) (Frm.bd xs)
  have hbl := Frm.bd_len h4
  have hbod : ∀ W : World, Byt W (.slice (some ⟨b, off, none⟩) xs.length cap) xs → Byt W (cutV (some ⟨b, off, none⟩) cap (2 + Frm.ls xs + 4) (2 + Frm.ls xs + 4 + Frm.ln xs)) (Frm.bd xs) := by
    intro W hW
    have := hW.cut (i := 2 + Frm.ls xs + 4) (j := 2 + Frm.ls xs + 4 + Frm.ln xs) (by omega) (by omega)
    rwa [show 2 + Frm.ls xs + 4 + Frm.ln xs - (2 + Frm.ls xs + 4) = Frm.ln xs from by omega] at this
  have hcells : ∀ W : World, Byt W (.slice (some ⟨b, off, none⟩) xs.length cap) xs → ∀ j, j < 4 → W.cell? ⟨b, off + (2 + Frm.ls xs) + j, none⟩ = some (.int .u8 ((Frm.sm xs).getD j 0)) := by
    intro W hW j hj
    have := hW.cellAt (2 + Frm.ls xs + j) (by omega)
    rw [← Nat.add_assoc] at this
    rw [this]
    simp [Frm.sm, hj]
  have hcell1 : ∀ W : World, Byt W (.slice (some ⟨b, off, none⟩) xs.length cap) xs → W.cell? ⟨b, off + 1, none⟩ = some (.int .u8 (xs.getD 1 0)) := fun W hW => hW.cellAt 1 (by omega)
  have hcut4 : cutV (some ⟨b, off, none⟩) cap (2 + Frm.ls xs) (2 + Frm.ls xs + 4) = .slice (some ⟨b, off + (2 + Frm.ls xs), none⟩) 4 (cap - (2 + Frm.ls xs)) := by
    unfold cutV
    rw [if_neg (by omega), Option.map_some, Addr.add_lit, show 2 + Frm.ls xs + 4 - (2 + Frm.ls xs) = 4 from by omega]
  have hsz : 2 + Frm.ls xs + 4 + Frm.ln xs ≤ xs.length := by omega
  generalize 2 + Frm.ls xs = at0 at *
  generalize Frm.ln xs = n at *
  generalize xs.getD 1 0 = k at *
  generalize hsm : Frm.sm xs = sm at *
  obtain ⟨bd, hbd⟩ : ∃ bd, bd = Frm.bd xs := ⟨_, rfl⟩
  rw [← hbd] at hcl4 hbl hbod HTS HTT
  obtain ⟨ck, hck⟩ : ∃ ck, ck = Frm.chk k bd := ⟨_, rfl⟩
  rw [← hck] at HTS HTT hcl4
  obtain ⟨u, hcutu⟩ : ∃ u, cutV (some ⟨b, off, none⟩) cap (at0 + 4) (at0 + 4 + n) = u := ⟨_, rfl⟩
  rw [hcutu] at hbod
  obtain ⟨bad, hbad⟩ : ∃ bad : Bool, bad = decide (sm ≠ ck) := ⟨_, rfl⟩
  have hszi : ((at0 : Int) + 4 + (n : Int)) ≤ (xs.length : Int) := by omega
  clear h1 h1' h2 h2' h3 h4 hls hfl
  have HC := hide hcells
  have HC1 := hide hcell1
  have HB := hide hbod
  have HCU := hide hcutu
  have HC4 := hide hcut4
  have HBAD := hide hbad
  have HCK := hide hck
  have HV := hide hv
  clear hcells hcell1 hbod hcutu hcut4 hbad hck hv hsm hbd hk
  go_enter Try.func12, Try.ntmps12
  go_wp2_with fail
  refine HL.out.mono ?_
  rintro e w1 ⟨rfl, hB1⟩
  have hv1 := HV.out.below hB1
  have hS0 : Byt w1.drew (.slice (some ⟨b, off, none⟩) xs.length cap) xs ∧ Below w.heap.size w w1.drew := ⟨hv1.drew, hB1.drew⟩
  clear HL hcl hv1
  go_wp2_with fail
  have hcells := HC.out
  have hcell1 := HC1.out
  have hbody := HB.out
  have hcutu := HCU.out
  have hcut4 := HC4.out
  have hbad := HBAD.out
  have hck := HCK.out
  refine wp_region_each (by kernel_rfl) (fun d v _ => Gt b off xs.length cap at0 (at0 + 4 + n) k sm ck u bad d v) (fun W => Byt W (.slice (some ⟨b, off, none⟩) xs.length cap) xs ∧ Below w.heap.size w W) (by kernel_rfl) (by repeat' (first | exact trivial | constructor)) hS0 ?_ ?_
  · subst hck
    refine And.intro ?_ (And.intro ?_ (And.intro ?_ (And.intro ?_ (And.intro ?_ (And.intro ?_ (And.intro ?_ (And.intro ?_ (And.intro ?_ (And.intro ?_ (And.intro ?_ (And.intro ?_ (And.intro ?_ (And.intro ?_ (And.intro ?_ trivial))))))))))))))
    · exact asked_pure rfl (fun _ _ => rfl) (fun a w _ hb _ => run_move rfl (hb 0 rfl))
    · exact asked_pure rfl (fun _ _ => rfl) (fun a w _ hb _ => run_move rfl (hb 7 rfl))
    · exact asked_pure rfl (fun _ _ => rfl) (fun a w _ hb _ => run_move rfl (hb 8 rfl))
    · refine asked_pure rfl (fun _ _ => rfl) (fun a w _ _ hd => ?_)
      rw [← hcut4]
      exact run_cut rfl (hd 34 rfl) (hd 35 rfl) (hd 36 rfl) (by omega) (by omega)
    · exact asked_pure rfl (fun _ _ => rfl) (fun a w _ _ hd => run_toArr rfl (hd 37 rfl))
    · exact asked_pure rfl (fun _ _ => rfl) (fun a w hS _ hd => run_load4 rfl (hd 38 rfl) (hcells w hS.1))
    · exact asked_pure rfl (fun _ _ => rfl) (fun a w _ hb _ => run_move rfl (hb 0 rfl))
    · refine asked_pure rfl (fun _ _ => rfl) (fun a w hS hb hd => ?_)
      have e40 : a.eval (.tmp 40) = .slice (some ⟨b, off, none⟩) xs.length cap := hd 40 rfl
      clear hS hb hd
      (simp only [execOp]; try simp only [Option.map]); (try simp only [List.map_toArray, List.map_cons, List.map_nil]); (simp only [e40]; go_simp)
      intro hlt
      omega
    · refine asked_pure rfl (fun _ _ => rfl) (fun a w hS hb hd => ?_)
      have e41 : a.eval (.tmp 41) = .pointer (some ⟨b, off + 1, none⟩) := hd 41 rfl
      have hc1 := hcell1 w hS.1
      clear hS hb hd
      (simp only [execOp]; try simp only [Option.map]); (try simp only [List.map_toArray, List.map_cons, List.map_nil]); (simp only [e41]; go_simp)
    · exact asked_pure rfl (fun _ _ => rfl) (fun a w _ hb _ => run_move rfl (hb 0 rfl))
    · exact asked_pure rfl (fun _ _ => rfl) (fun a w _ hb _ => run_move rfl (hb 8 rfl))
    · exact asked_pure rfl (fun _ _ => rfl) (fun a w _ hb _ => run_move rfl (hb 4 rfl))
    · refine asked_pure rfl (fun _ _ => rfl) (fun a w _ _ hd => ?_)
      rw [← hcutu]
      exact run_cut rfl (hd 43 rfl) (hd 44 rfl) (hd 45 rfl) (by omega) (by omega)
    · refine asked_call Try.func17 (by kernel_rfl) (by kernel_rfl) rfl rfl (fun a w hS _ hd => ?_)
      have e42 : a.eval (.tmp 42) = .int .u8 k := hd 42 rfl
      have e46 : a.eval (.tmp 46) = u := hd 46 rfl
      have ea : (#[.tmp 42, .tmp 46] : Array Operand).map a.eval = #[.int .u8 k, u] := by simp [e42, e46]
      rw [ea]
      refine (sumOf_any k u _ w hk0 hk1 (hbody w hS.1)).mono ?_
      rintro e w' ⟨rfl, hB⟩
      exact ⟨_, rfl, rfl, ⟨hS.1.below hB, bel_of hS.2 hB⟩, fun _ _ h => h⟩
    · exact asked_pure rfl (fun _ _ => rfl) (fun a w _ _ hd => by rw [hbad]; exact run_neq4 rfl (hd 39 rfl) (hd 47 rfl) hsl hcl4)
  · clear hcells hcell1 hcutu hcut4 hbad hck
    intro s W hW hs
    have h48 : s 48 = .bool bad := hs 48 rfl
    obtain ⟨hvW, hBW⟩ := hW
    clear hs hS0
    simp [overlay, dstsOf, h48]
    by_cases hne : sm ≠ ck
    · have eb : bad = true := by rw [HBAD.out]; simpa using hne
      rw [eb]
      have HT := hide (HTS.out hne)
      clear eb hvW
      go_wp2_with fail
      refine bodyPost_ret (v := .tuple #[.int .u8 0, .slice none 0 0, .int .i64 0, .int .i64 6]) (by simp [results, Try.results12, go_sem]) rfl ?_
      exact TookS.fault HT.out hBW
    · have eb : bad = false := by rw [HBAD.out]; simpa using hne
      rw [eb]
      have HT := hide (HTT.out hne)
      have hbW := HB.out W hvW
      obtain ⟨a', c', hu⟩ := hbW.slice
      have hrun : ∀ W', (Instr.sliceAt 22 (.slice (some ⟨b, off, none⟩) xs.length cap) (some (.int .i64 ((at0 : Int) + 4))) (some (.int .i64 ((at0 : Int) + 4 + (n : Int)))) none).run Try.prog W' = .ok (.slice a' bd.length c') W' := by
        intro W'
        have := run_lh (ao := some ⟨b, off, none⟩) (n := xs.length) (cap := cap) (i := at0 + 4) (j := at0 + 4 + n) (by omega) (by omega) W'
        rw [HCU.out, hu] at this
        exact this
      rw [hu] at hbW
      obtain ⟨b2, hb0, ao2, cap2, e2, hlc2, hcm2, hao2, hcell2⟩ := hbW
      simp only [Value.slice.injEq, true_and] at e2
      obtain ⟨rfl, rfl⟩ := e2
      unfold maxLen at hcm2
      have hc1 := HC1.out W hvW
      have hb1 : b < W.heap.size := World.block_lt_of_cell? W _ hc1
      have hu' := hide hu
      clear eb hu hbody
      go_wp2_with (at_make; go_must (refine wpList_make_lc _ rfl (.tmp 49) (.tmp 49) 22 rfl 5 i0 Try.underlying22 hi hz0 hz1 .i64 .i64 _ _ n n rfl rfl (by simp) (by simp) (by omega) (by rw [hz2]; omega) (by unfold maxLen; omega) ?_))
      intro w2 HG hB2 hz
      obtain ⟨X, hX⟩ : ∃ X, X = bd.map (Value.int .u8) := ⟨_, rfl⟩
      have hXl : X.length = n := by rw [hX]; simp [hbl]
      have HX := hide hX
      clear hX
      go_wp2_with (refine wpList_copy_splice rfl (.tmp 51) (.tmp 55) 22 22 rfl 5 Try.underlying22 size5 _ _ _ _ _ _ rfl rfl W.heap.size 0 (zrow n) 5 HG.out X ?_ ?_ ?_ ?_ W.heap.size W hB2 (Nat.le_refl _) ?_)
      · rw [hXl]; simp
      · intro hp
        obtain ⟨off2, rfl, hc⟩ := hcell2 (by omega)
        refine ⟨_, rfl, fun j u hj => ?_⟩
        rw [HX.out] at hj
        have hjl : j < bd.length := by
          rcases Nat.lt_or_ge j bd.length with h | h
          · exact h
          · simp [List.getElem?_eq_none h] at hj
        have hlt : b2 < W.heap.size := World.block_lt_of_cell? W _ (hc 0 (by omega))
        rw [Addr.add_lit, hB2.cell (p := ⟨b2, off2 + j, none⟩) hlt, hc j hjl]
        simp [List.getElem?_eq_getElem hjl] at hj
        simp [hj, List.getElem?_eq_getElem hjl]
      · rw [zrow_length, hXl]; omega
      · intro u hu
        rw [HX.out] at hu
        obtain ⟨x, _, rfl⟩ := List.mem_map.1 hu
        rfl
      intro w3 HG3 hB3
      have hown0 := owns_of_splice (n := n) (cap := n) HG3.out (Nat.le_refl _) hXl (by omega) (by unfold maxLen; omega)
      rw [HX.out] at hown0
      have hR : Hid (Sided B w3 (.slice (some ⟨W.heap.size, 0, none⟩) n n) bd) := ⟨W.heap.size, (Byt.of_owns hown0 hb0).atBlock, fun _ => .inr ⟨_, _, HG3.out⟩⟩
      have hc3 := (hB3.cell (p := ⟨b, off + 1, none⟩) hb1).trans hc1
      have hBf := bel_of hBW hB3
      clear HG HG3 HX hXl hcell2 hB2 hB3 hown0 hc1
      go_wp2_with fail
      refine bodyPost_ret (v := .tuple #[.int .u8 k, .slice (some ⟨W.heap.size, 0, none⟩) n n, .int .i64 ((at0 : Int) + 4 + (n : Int)), .int .i64 0]) (by simp [results, Try.results12, go_sem]) rfl ?_
      refine ⟨.slice (some ⟨W.heap.size, 0, none⟩) n n, ?_, ?_, hBf⟩
      · rw [HT.out]
        rfl
      · rw [HT.out]
        exact hR.out

theorem takeS_any (B : Nat) (v : Value) (xs : List Int) (w : World) (hv : Byt w v xs) (hx : xs.length ≤ 1000000000) : Calls Try.prog 12 #[v] w (TookS B w xs) := by
  by_cases h0 : xs.length < 2
  · exact take_short B v xs w hv h0
  by_cases h1 : xs.getD 0 0 ≠ 111
  · exact take_magic B v xs w hv h0 h1
  by_cases h2 : Frm.lc xs ≠ 0
  · exact take_bad B v xs w _ hv hx h0 h1 (.inl ⟨h2, rfl⟩)
  by_cases h3 : 65536 < Frm.ln xs
  · exact take_bad B v xs w 4 hv hx h0 h1 (.inr ⟨by simpa using h2, h3, rfl⟩)
  by_cases h4 : xs.length < 2 + Frm.ls xs + 4 + Frm.ln xs
  · exact take_cut B v xs w hv hx h0 h1 h2 h3 h4
  · exact take_end B v xs w hv hx h0 h1 h2 h3 h4

theorem take_any (v : Value) (xs : List Int) (w : World) (hv : Byt w v xs) (hx : xs.length ≤ 1000000000) : Calls Try.prog 12 #[v] w (Took w xs) :=
  (takeS_any 0 v xs w hv hx).mono fun _ _ h => h.took
end Go.Proofs.Ytlonniegaaocoaa
