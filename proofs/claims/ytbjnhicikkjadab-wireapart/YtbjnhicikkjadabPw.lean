/- wire's put and putInt: numbers behind bytes. -/
import Derived.Test.YtbjnhicikkjadabMem
import Derived.Test.YtbjnhicikkjadabL1
import Derived.Test.YtbjnhicikkjadabWs
namespace Go.Proofs.Ytbjnhicikkjadab
open Go.RowKit Ir Wire

/-- Blocks that are no bytes. -/
def TN : TypeId → Bool := fun t => t != 5
/-- Bytes that the call itself gathers. -/
def Out (B : Nat) (w : World) (v : Value) (xs : List Int) : Prop := Bs xs ∧ w.ownsRow B 5 1 v xs.length (xs.map (Value.int .u8))
theorem Out.nil (B : Nat) (w : World) : Out B w (.slice none 0 0) [] := ⟨fun x h => by simp at h, World.ownsRow_nil _ _ _ _⟩
theorem Out.byt {B : Nat} {w : World} {v : Value} {xs : List Int} (h : Out B w v xs) : Lb.Byt w v xs := Lb.Byt.of_owns h.2 h.1
theorem Out.below {B : Nat} {w w' : World} {v : Value} {xs : List Int} (h : Out B w v xs) (hb : Below w.heap.size w w') : Out B w' v xs := ⟨h.1, owns_below h.2 hb⟩
theorem Out.slice {B : Nat} {w : World} {v : Value} {xs : List Int} (h : Out B w v xs) : ∃ ao cap, v = .slice ao xs.length cap := h.byt.slice
theorem Bs.app {xs ys : List Int} (h : Bs xs) (h2 : Bs ys) : Bs (xs ++ ys) := fun x hx => (List.mem_append.1 hx).elim (h x) (h2 x)
theorem bs_nb (x : Int) : Bs (nb x) := Leb.enc_byte _
theorem nb_len {x : Int} (h : 0 ≤ x ∧ x < 9223372036854775808) : (nb x).length ≤ 10 := Leb.enc_len10 (by omega)
theorem nbs_len : ∀ (l : List Int), (∀ x ∈ l, 0 ≤ x ∧ x < 9223372036854775808) → (l.flatMap nb).length ≤ 10 * l.length
  | [], _ => by simp
  | x :: l, h => by
    have h1 := nbs_len l (fun y hy => h y (by simp [hy]))
    have h2 := nb_len (h x (by simp))
    rw [List.flatMap_cons, List.length_append, List.length_cons]; omega
theorem nbs_snoc {ns : List Int} {k : Nat} (h : k < ns.length) : (ns.take (k + 1)).flatMap nb = (ns.take k).flatMap nb ++ nb (ns.getD k 0) := by
  rw [List.take_succ_eq_append_getElem h, List.flatMap_append]; simp [List.getElem?_eq_getElem h]
/-- What writers leave of the world: nothing that was there but bytes has turned. -/
structure Put (B : Nat) (w w' : World) : Prop where
  bel : Below B w w'
  keep : Keeps TN w w'
  le : w.heap.size ≤ w'.heap.size
theorem Put.refl (B : Nat) (w : World) : Put B w w := ⟨Below.refl _ _, Keeps.refl _ _, Nat.le_refl _⟩
theorem Put.trans {B : Nat} {w w1 w2 : World} (h1 : Put B w w1) (h2 : Put B w1 w2) : Put B w w2 := ⟨h1.bel.trans h2.bel, h1.keep.trans h2.keep, Nat.le_trans h1.le h2.le⟩
theorem Put.below {B : Nat} {w w' : World} (h : Below w.heap.size w w') (hB : B ≤ w.heap.size) : Put B w w' := ⟨h.mono hB, Keeps.below h, h.size⟩
theorem Put.grown {B : Nat} {w w' : World} {v : Value} {n : Nat} {xs : List Value} (ho : w.ownsRow B 5 1 v n xs) (hg : w.grownBy w' v.ownBlock) (hB : B ≤ w.heap.size) : Put B w w' :=
  ⟨(Below.refl _ _).grown hg hB (fun k hk => (ho.lt k hk).1), Keeps.grown ho rfl hg, hg.size⟩
set_option maxHeartbeats 400000 in
set_option maxRecDepth 100000 in
theorem wput_any (B : Nat) (w : World) (v u : Value) (xs ns : List Int) (ho : Out B w v xs) (hB : B ≤ w.heap.size) (hu : ∀ w', Put B w w' → IntsV w' u ns) (hn : ∀ x ∈ ns, 0 ≤ x ∧ x < 9223372036854775808) (hl : xs.length + 10 * ns.length ≤ 1000000000) :
    Calls Try.prog 12 #[v, u] w fun e w' => ∃ v', e = .returned v' ∧ Out B w' v' (xs ++ ns.flatMap nb) ∧ Put B w w' := by
  obtain ⟨ao, cap, rfl⟩ := ho.slice
  obtain ⟨aq, caq, rfl⟩ := (hu w (Put.refl _ _)).slice
  obtain ⟨i0, hi, hz0, hz1, hz2⟩ := info_parts Lb.info5
  have hcq : ns.length ≤ 1000000000 := by omega
  go_enter Try.func12, Try.ntmps12
  go_wp2_with fail
  go_loopw [0, 6, 9] (fun bv _ iv wr => ∃ k : Nat, k ≤ ns.length ∧ iv = .int .i64 k ∧ Out B wr bv (xs ++ (ns.take k).flatMap nb) ∧ Put B w wr) (fun _ _ iv _ => ns.length - (intOf iv).toNat)
  case atStart => exact ⟨0, Nat.zero_le _, rfl, by simpa using ho, Put.refl _ _⟩
  case round =>
    obtain ⟨k, hk, rfl, hO, hP⟩ := hrel
    by_cases hlt : k < ns.length
    · obtain ⟨b, off, rfl, hc⟩ := (hu _ hP).at k hlt
      have hx := hn (ns.getD k 0) (by simp [List.getElem?_eq_getElem hlt])
      have HS := hide (nbs_snoc hlt)
      have hlen := hide (nbs_len (ns.take k) (fun y hy => hn y (List.mem_of_mem_take hy)))
      obtain ⟨m, hm⟩ := Int.eq_ofNat_of_zero_le hx.1
      rw [hm] at hc hx
      have hf : Leb.Fits m := by unfold Leb.Fits; omega
      have HM := hide hm
      have hm2 : (m : Int) < 9223372036854775808 := hx.2
      clear hm hx
      go_wp2_with fail
      refine (Lb.put_any (.slice none 0 0) [] m wr (Lb.Byt.nil _) (by simp) hf).mono ?_
      rintro e w1 ⟨v1, rfl, hbyt, hbel⟩
      have hP1 := hP.trans (Put.below hbel (Nat.le_trans hB hP.le))
      have hO1 := hO.below hbel
      have hle1 := hP1.le
      clear hbel hP hO hc
      go_wp2_with (at_builtin; go_must (refine Lb.wpList_append_byt _ rfl (.tmp 13) (.tmp 16) 22 rfl B i0 Try.underlying22 hi hz0 hz1 hz2 _ _ _ rfl hO1.2 _ _ rfl hbyt ?c1 ?c2 ?_))
      case c1 =>
        have h1 := hlen.out
        have h2 := hf.len
        rw [List.length_append, List.nil_append]
        rw [List.length_take] at h1
        omega
      case c2 => omega
      intro v2 w2 hown hg
      have hP2 := hP1.trans (Put.grown hO1.2 hg (by omega))
      have hO2 : Out B w2 v2 (xs ++ (ns.take (k + 1)).flatMap nb) := by
        have e1 : nb (ns.getD k 0) = Leb.enc m := by rw [HM.out]; simp [nb]
        rw [HS.out, ← List.append_assoc, e1]
        refine ⟨Bs.app hO1.1 (Leb.enc_byte m), ?_⟩
        refine owns_cast hown ?_ ?_
        · simp [Nat.add_assoc]
        · simp
      clear hown hg hO1 hP1 hbyt hlen HM HS
      go_wp2_with fail
      go_roundw
      case rel => exact ⟨k + 1, by omega, by go_num, hO2, hP2⟩
      case measure => simp [intOf]; omega
    · obtain rfl : k = ns.length := by omega
      rw [List.take_length] at hO
      obtain ⟨ao2, cap2, rfl⟩ := hO.slice
      go_wp2_with fail
      go_ret
      exact ⟨_, rfl, hO, hP⟩
set_option maxHeartbeats 400000 in
set_option maxRecDepth 100000 in
theorem wputInt_any (B : Nat) (w : World) (v : Value) (xs : List Int) (i : Int) (ho : Out B w v xs) (hB : B ≤ w.heap.size) (h1 : -9223372036854775808 ≤ i) (h2 : i ≤ 9223372036854775807) (hl : xs.length ≤ 1000000000) :
    Calls Try.prog 22 #[v, .int .i64 i] w fun e w' => ∃ v', e = .returned v' ∧ Out B w' v' (xs ++ Leb.enc (Leb.zig i)) ∧ Put B w w' := by
  obtain ⟨ao, cap, rfl⟩ := ho.slice
  obtain ⟨i0, hi, hz0, hz1, hz2⟩ := info_parts Lb.info5
  have H := hide (Lb.putInt_any (.slice none 0 0) [] i w (Lb.Byt.nil _) (by simp) h1 h2)
  have hlen : (Leb.enc (Leb.zig i)).length ≤ 10 := Leb.enc_len10 (Leb.zig_lt h1 h2)
  clear h1 h2
  go_enter Try.func22, Try.ntmps22
  go_wp2_with fail
  refine H.out.mono ?_
  rintro e w1 ⟨v1, rfl, hbyt, hbel⟩
  rw [List.nil_append] at hbyt
  have hP1 := Put.below hbel hB
  have hO1 := ho.below hbel
  have hle1 := hP1.le
  clear hbel ho
  go_wp2_with (at_builtin; go_must (refine Lb.wpList_append_byt _ rfl (.tmp 5) (.tmp 7) 22 rfl B i0 Try.underlying22 hi hz0 hz1 hz2 _ _ _ rfl hO1.2 _ _ rfl hbyt ?c1 ?c2 ?_))
  case c1 => omega
  case c2 => omega
  intro v2 w2 hown hg
  have hP2 := hP1.trans (Put.grown hO1.2 hg (by omega))
  have hO2 : Out B w2 v2 (xs ++ Leb.enc (Leb.zig i)) := ⟨Bs.app hO1.1 (Leb.enc_byte _), owns_cast hown (by simp) (by simp)⟩
  clear hown hg hO1 hP1 hbyt hlen
  obtain ⟨ao2, cap2, rfl⟩ := hO2.slice
  go_wp2_with fail
  go_ret
  exact ⟨_, rfl, hO2, hP2⟩
end Go.Proofs.Ytbjnhicikkjadab
