/- SameCodes of equal codes; what is read of right functions and codes: whole, cut, with more. -/
import Derived.Test.YtbjnhicikkjadaaSame
import Derived.Test.YtbjnhicikkjadaaRr
import Derived.Test.YtbjnhicikkjadaaWf
import Derived.Test.YtbjnhicikkjadaaOn
namespace Go.Proofs.Ytbjnhicikkjadaa
open Go.RowKit Ir Wire

theorem mF_args {i : Ins} {r s : Int} (h : mF i r s = 0) : i.args.length ≤ 3 := by
  unfold mF at h
  by_cases k7 : i.k = 7
  · rw [if_pos k7] at h
    have := (slF_all h).1.2.2.2
    omega
  · rw [if_neg k7] at h
    by_cases k8 : i.k = 8
    · rw [if_pos k8] at h
      have := (slF_all h).1.2.2.2
      omega
    · rw [if_neg k8] at h
      exact (inF_all (ofR_zero.1 h)).2.1
theorem code_small {D : Cod} (h : mchk D = (0, 0, 0)) : ∀ x ∈ D.bs, x.ins.length < 100000 ∧ ∀ i ∈ x.ins, i.args.length ≤ 1000000 := by
  intro x hx
  obtain ⟨_, h2⟩ := mchk_all (C := D) (by rw [h])
  obtain ⟨h3, h4, _⟩ := mbF_all (h2 x hx)
  exact ⟨by omega, fun i hi => by have := mF_args (h4 i hi); omega⟩
theorem sameCodes_any (M : Cod) (u v : Value) (w : World) (hu : BlksV w u M.bs) (hv : BlksV w v M.bs) (hsm : ∀ b ∈ M.bs, ∀ i ∈ b.ins, i.args.length ≤ 1000000000) :
    Calls Try.prog 26 #[.agg #[.int .i64 M.p, .int .i64 M.r, .int .i64 M.s, u], .agg #[.int .i64 M.p, .int .i64 M.r, .int .i64 M.s, v]] w fun r w' => r = .returned (.bool true) ∧ Below w.heap.size w w' := by
  obtain ⟨ua, ca, rfl⟩ := hu.slice
  obtain ⟨va, cv, rfl⟩ := hv.slice
  have hB := bel2 w (.cells #[.int .i64 M.p, .int .i64 M.r, .int .i64 M.s, .slice ua M.bs.length ca] 42) (.cells #[.int .i64 M.p, .int .i64 M.r, .int .i64 M.s, .slice va M.bs.length cv] 42)
  have hC := hide (sameBlocks_any _ _ M.bs _ (hu.below hB) (hv.below hB) hsm)
  have HB := hide hB
  clear hu hv hsm hB
  go_enter Try.func26, Try.ntmps26
  go_wp2_with fail
  refine hC.out.mono ?_
  rintro r w1 ⟨rfl, hB1⟩
  have hBf := bel_of HB.out hB1
  clear hC HB hB1
  go_wp2_with fail
  go_ret
  exact ⟨rfl, hBf⟩
theorem nb_ne (x : Int) : nb x ≠ [] := by
  intro e
  have h := Leb.enc_pos x.toNat
  unfold nb at e
  rw [e] at h
  simp at h
theorem funB_pos (F : Fun) : 0 < (funB F).length := by
  have h : nb F.p ≠ [] := nb_ne _
  have := List.length_pos_iff.2 h
  unfold funB
  rw [List.length_append]
  omega
theorem codB_pos (F : Cod) : 0 < (codB F).length := by
  have h : nb F.p ≠ [] := nb_ne _
  have := List.length_pos_iff.2 h
  unfold codB
  rw [List.length_append]
  omega
theorem funB_most {F : Fun} (h : (chk F).1 = 0) (hr : Rgd F.bs) : (funB F).length ≤ 700000 := by
  obtain ⟨ha, hb⟩ := chk_all h
  simp only [sized, decide_eq_true_eq] at ha
  have hW : ∀ b ∈ F.bs, WfB 32 b := fun b h => wfB_of (hb b h) (by omega) (by omega) (hr b h)
  have h1 := blksB_len (by omega) hW
  have h2 := nb16 (x := F.p) (by omega)
  have h3 := nb16 (x := F.v) (by omega)
  have h4 := Leb.enc_len10 (n := F.bs.length) (by omega)
  unfold funB allB
  simp only [List.length_append]
  omega
theorem codB_most {F : Cod} (h : (mchk F).1 = 0) (hr : Rgd F.bs) : (codB F).length ≤ 700000 := by
  obtain ⟨ha, hb⟩ := mchk_all h
  simp only [msz, decide_eq_true_eq] at ha
  have hW : ∀ b ∈ F.bs, WfB 400 b := fun b h => wfMB_of (hb b h) (by omega) (by omega) (by omega) (hr b h)
  have h1 := blksB_len (by omega) hW
  have h2 := nb16 (x := F.p) (by omega)
  have h3 := nb16 (x := F.r) (by omega)
  have h5 := nb16 (x := F.s) (by omega)
  have h4 := Leb.enc_len10 (n := F.bs.length) (by omega)
  unfold codB allB
  simp only [List.length_append]
  omega
theorem rdF_right {F : Fun} (h : (chk F).1 = 0) (hr : Rgd F.bs) : rd zF funP okF (funB F) = (F, 0) := by
  have h1 := funP_right h hr []
  rw [List.append_nil] at h1
  exact rd_of h1 (by simp [okF, h])
theorem rdC_right {F : Cod} (h : (mchk F).1 = 0) (hr : Rgd F.bs) : rd zC codP okC (codB F) = (F, 0) := by
  have h1 := codP_right h hr []
  rw [List.append_nil] at h1
  exact rd_of h1 (by simp [okC, h])
theorem rdF_cut {F : Fun} (h : (chk F).1 = 0) (hr : Rgd F.bs) {c : Nat} (hc : c < (funB F).length) : rd zF funP okF ((funB F).take c) = (zF, 3) := by
  have h1 := funP_right h hr []
  rw [List.append_nil] at h1
  exact rd_cut lc_fun h1 hc
theorem rdC_cut {F : Cod} (h : (mchk F).1 = 0) (hr : Rgd F.bs) {c : Nat} (hc : c < (codB F).length) : rd zC codP okC ((codB F).take c) = (zC, 3) := by
  have h1 := codP_right h hr []
  rw [List.append_nil] at h1
  exact rd_cut lc_cod h1 hc
theorem rdF_more {F : Fun} (h : (chk F).1 = 0) (hr : Rgd F.bs) : rd zF funP okF (funB F ++ [0]) = (zF, 5) := by
  have h1 := funP_right h hr []
  rw [List.append_nil] at h1
  exact rd_more lc_fun h1 (by simp)
theorem rdC_more {F : Cod} (h : (mchk F).1 = 0) (hr : Rgd F.bs) : rd zC codP okC (codB F ++ [0]) = (zC, 5) := by
  have h1 := codP_right h hr []
  rw [List.append_nil] at h1
  exact rd_more lc_cod h1 (by simp)
end Go.Proofs.Ytbjnhicikkjadaa
