/- SamePairs and SameCerts of equal certificates: true. -/
import Derived.BigQuiet
import Derived.Deep.QuietTactic
import Derived.Deep.RegionHeld3
import Derived.Test.YtbjnhicikkjadaaWc
import Derived.Test.YtbjnhicikkjadaaSame
namespace Go.Proofs.Ytbjnhicikkjadaa
open Go.RowKit Ir Wire

theorem eq111 (x y : Int) (w : World) : (Op.equalIn 10000 111 (.agg #[.int .i64 x, .int .i64 y]) (.agg #[.int .i64 x, .int .i64 y])).run Try.prog w = .ok true w := by
  rw [show (10000 : Nat) = 9999 + 1 from rfl, Op.equalIn]
  simp only [Sem.run_bind, run_underlying Try.underlying111, Result.andThen_ok]
  go_simp
theorem run_neq111 (x y : Int) (w : World) : (binOp .neq 111 (.agg #[.int .i64 x, .int .i64 y]) (.agg #[.int .i64 x, .int .i64 y])).run Try.prog w = .ok (.bool false) w := by
  have h0 := eq111 x y w
  simp [binOp, Op.equal, Op.maxDepth, h0]
set_option maxRecDepth 100000 in
theorem samePairs_any (u v : Value) (ps : List Pair) (w : World) (hu : PrsV w u ps) (hv : PrsV w v ps) (hl : ps.length ≤ 1000000000) :
    Calls Try.prog 55 #[u, v] w fun e w' => e = .returned (.bool true) ∧ Below w.heap.size w w' := by
  obtain ⟨ao, cap, rfl⟩ := SlV.slice hu
  obtain ⟨ao2, cap2, rfl⟩ := SlV.slice hv
  have HU := hide hu
  have HV := hide hv
  clear hu hv
  go_enter Try.func55, Try.ntmps55
  go_wp2_with fail
  go_loopw [5] (fun iv wr => ∃ i : Nat, i ≤ ps.length ∧ iv = .int .i64 i ∧ Below w.heap.size w wr) (fun iv _ => ps.length - (intOf iv).toNat)
  case atStart => exact ⟨0, by omega, rfl, Below.refl _ _⟩
  case round =>
    obtain ⟨i, hi, rfl, hBr⟩ := hrel
    by_cases hlt : i < ps.length
    · obtain ⟨b, off, rfl, hc, hc1⟩ := SlV.at (HU.out.below hBr) i hlt
      obtain ⟨b2, off2, rfl, hd, hd1⟩ := SlV.at (HV.out.below hBr) i hlt
      have hlt' : (i : Int) < (ps.length : Int) := by omega
      have h0 : (0 : Int) ≤ (i : Int) := by omega
      generalize (ps.getD i Pair.zero).v = x at *
      generalize (ps.getD i Pair.zero).l = y at *
      have hne := run_neq111 x y
      go_wp2_with fail
      go_quiet (fail)
      go_wp2
      go_roundw
      case rel => exact ⟨i + 1, by omega, by go_num, hBr.trans ⟨rfl, rfl, rfl, Nat.le_refl _, fun _ _ => rfl⟩⟩
      case measure => simp [intOf]; omega
    · obtain rfl : i = ps.length := by omega
      go_wp2_with fail
      go_ret
      exact ⟨rfl, hBr⟩
set_option maxHeartbeats 1000000 in
set_option maxRecDepth 100000 in
theorem sameCerts_any (u v : Value) (l : List (List Pair)) (w : World) (hu : CerV w u l) (hv : CerV w v l) (hl : l.length ≤ 1000000000) (hx : ∀ x ∈ l, x.length ≤ 1000000000) :
    Calls Try.prog 31 #[u, v] w fun e w' => e = .returned (.bool true) ∧ Below w.heap.size w w' := by
  obtain ⟨ao, cap, rfl⟩ := SlV.slice hu
  obtain ⟨ao2, cap2, rfl⟩ := SlV.slice hv
  have HU := hide hu
  have HV := hide hv
  have HX := hide hx
  clear hu hv hx
  go_enter Try.func31, Try.ntmps31
  go_wp2_with fail
  go_loopw [5] (fun iv wr => ∃ i : Nat, i ≤ l.length ∧ iv = .int .i64 i ∧ Below w.heap.size w wr) (fun iv _ => l.length - (intOf iv).toNat)
  case atStart => exact ⟨0, by omega, rfl, Below.refl _ _⟩
  case round =>
    rename World => ws
    obtain ⟨i, hi, rfl, hBr⟩ := hrel
    by_cases hlt : i < l.length
    · obtain ⟨b, off, rfl, p1, hc, hp1⟩ := SlV.at (HU.out.below hBr) i hlt
      obtain ⟨b2, off2, rfl, p2, hd, hp2⟩ := SlV.at (HV.out.below hBr) i hlt
      have hlt' : (i : Int) < (l.length : Int) := by omega
      have h0 : (0 : Int) ≤ (i : Int) := by omega
      have hxl : (l.getD i []).length ≤ 1000000000 := HX.out _ (by simp [List.getElem?_eq_getElem hlt])
      rw [Nat.mul_one] at hc hd
      have HC := hide (samePairs_any p1 p2 _ ws.drew (hp1.below (Below.refl _ _).drew) (hp2.below (Below.refl _ _).drew) hxl)
      obtain ⟨a1, k1, rfl⟩ := SlV.slice hp1
      obtain ⟨a2, k2, rfl⟩ := SlV.slice hp2
      clear hp1 hp2 hxl
      generalize (l.getD i []).length = pn at *
      go_wp2_with fail
      go_region_held3 (fun w' => w'.cell? ⟨b, off + i, none⟩ = some (.slice a1 pn k1) ∧ w'.cell? ⟨b2, off2 + i, none⟩ = some (.slice a2 pn k2)) (first | with_reducible assumption | go_keep)
        (first
          | (go_at_call 55; refine HC.out.mono ?_; rintro e w1 ⟨rfl, hB1⟩; have hB2 : Below ws.heap.size ws w1 := (Below.refl ws.heap.size ws).drew.trans hB1; have hS1 := And.intro (cell_below hB2 hc) (cell_below hB2 hd)))
      have hB3 : Below w.heap.size w w1 := hBr.trans (hB2.mono hBr.size)
      clear hS1 hB1 hB2 HC
      go_wp2_with fail
      go_roundw
      case rel => exact ⟨i + 1, by omega, by go_num, hB3⟩
      case measure => simp [intOf]; omega
    · obtain rfl : i = l.length := by omega
      go_wp2_with fail
      go_ret
      exact ⟨rfl, hBr⟩
end Go.Proofs.Ytbjnhicikkjadaa
