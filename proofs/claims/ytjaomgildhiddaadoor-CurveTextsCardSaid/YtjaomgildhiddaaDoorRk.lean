/- Contracts of the reference's Place, Add, Sub, Mul: by value, modulo the prime. -/
import Derived.Test.YtjaomgildhiddaaDoorRj
namespace Go.Proofs.YtjaomgildhiddaaDoor
open Go.RowKit

/-- A key's bytes but its highest bit. -/
def cut31 (f : Nat → Nat) (i : Nat) : Nat := if i = 31 then f 31 % 128 else f i
theorem cut31_bytes {l : List Int} {f : Nat → Nat} (hl : Bytes32 l f) : Bytes32 (l.set 31 (((f 31 : Nat) : Int) % 128)) (cut31 f) := by
  refine ⟨by simp [hl.len], fun i h => ?_, fun i => ?_⟩
  · unfold cut31
    by_cases e : i = 31
    · subst e
      rw [if_pos rfl]
      have : 31 < l.length := by rw [hl.len]; decide
      simp [List.getD, this]
    · rw [if_neg e, ← hl.get i h]
      simp [List.getD, show ¬ 31 = i from fun x => e x.symm]
  · unfold cut31
    have := hl.lt i
    have := hl.lt 31
    split <;> omega
theorem cut31_same (f : Nat → Nat) : ∀ k, k ≤ 31 → leTo (cut31 f) k = leTo f k
  | 0, _ => rfl
  | k + 1, h => by
    simp only [leTo]
    rw [cut31_same f k (by omega)]
    unfold cut31
    rw [if_neg (by omega)]
theorem cut31_num (f : Nat → Nat) (hf : ∀ i, f i < 256) : leTo (cut31 f) 32 = leTo f 32 % 57896044618658097711785492504343953926634992332820282019728792003956564819968 := by
  have h1 : leTo (cut31 f) 32 = leTo (cut31 f) 31 + cut31 f 31 * 256 ^ 31 := rfl
  have h2 : leTo f 32 = leTo f 31 + f 31 * 256 ^ 31 := rfl
  have h3 := leTo_lt f hf 31
  rw [h1, h2, cut31_same f 31 (Nat.le_refl _)]
  have h4 : cut31 f 31 = f 31 % 128 := rfl
  rw [h4]
  generalize leTo f 31 = x at *
  generalize f 31 = y at *
  simp only [Nat.reducePow] at *
  omega
theorem and7 (x : Int) (h0 : 0 ≤ x) (h1 : x < 256) : bits .and .u8 x 127 = x % 128 := by
  obtain ⟨n, rfl⟩ := Int.eq_ofNat_of_zero_le h0
  have h := u8_and_nat n 127 (by omega) (by omega)
  have e : n &&& 127 = n % 128 := Nat.and_two_pow_sub_one_eq_mod n 7
  rw [e] at h
  exact h

set_option maxHeartbeats 2000000 in
theorem radd_any (ga na ca gb nb cb : Nat) (fa fb : Nat → Nat) (w : World) (ha : Sl w ga na fa) (hb : Sl w gb nb fb) (hna : na ≤ 17) (hnb : nb ≤ 17) :
    Calls Tryd.prog 43 #[SlV ga na ca, SlV gb nb cb] w (RetF w (lv fa na + lv fb nb)) := by
  unfold SlV
  go_enter Tryd.func43, Tryd.ntmps43
  go_wp2_with fail
  refine (sum_any ga na ca gb nb cb fa fb _ ha hb (by omega) (by omega)).mono ?_
  rintro e w1 ⟨g, c, rfl, S, _, B1⟩
  have hv := sum_val fa fb na nb ha.lt hb.lt ha.high hb.high
  have hl : maxN na nb + 1 ≤ 1000 := by unfold maxN; split <;> omega
  have hf := fun W (h : Sl W g (maxN na nb + 1) (sumF (maxN na nb + 1) fa fb)) => fold_any g _ c _ W h hl
  rw [hv] at hf
  have HF := Lib.hid hf
  clear hv hf
  unfold SlV
  go_wp2_with fail
  refine (HF.out _ S).mono ?_
  rintro e w2 ⟨g2, n2, c2, f2, rfl, S2, v2, h2, b2⟩
  have B2 := B1.trans (b2.mono B1.size)
  have V2 := Lib.hid v2
  clear b2 B1 S HF v2
  unfold SlV
  go_wp2
  go_ret
  exact ⟨g2, n2, c2, f2, rfl, S2, V2.out, h2, B2⟩

set_option maxHeartbeats 2000000 in
theorem rmul_any (ga na ca gb nb cb : Nat) (fa fb : Nat → Nat) (w : World) (ha : Sl w ga na fa) (hb : Sl w gb nb fb) (hna : na ≤ 17) (hnb : nb ≤ 17) :
    Calls Tryd.prog 40 #[SlV ga na ca, SlV gb nb cb] w (RetF w (lv fa na * lv fb nb)) := by
  unfold SlV
  go_enter Tryd.func40, Tryd.ntmps40
  go_wp2_with fail
  refine (times_any ga na ca gb nb cb fa fb _ ha hb (by omega) (by omega)).mono ?_
  rintro e w1 ⟨ft, hv, g, c, rfl, S, _, B1⟩
  have hf := fun W (h : Sl W g (na + nb) ft) => fold_any g _ c _ W h (by omega)
  rw [hv] at hf
  have HF := Lib.hid hf
  clear hv hf
  unfold SlV
  go_wp2_with fail
  refine (HF.out _ S).mono ?_
  rintro e w2 ⟨g2, n2, c2, f2, rfl, S2, v2, h2, b2⟩
  have B2 := B1.trans (b2.mono B1.size)
  have V2 := Lib.hid v2
  clear b2 B1 S HF v2
  unfold SlV
  go_wp2
  go_ret
  exact ⟨g2, n2, c2, f2, rfl, S2, V2.out, h2, B2⟩

set_option maxHeartbeats 2000000 in
theorem rsub_any (ga na ca gb nb cb : Nat) (fa fb : Nat → Nat) (w : World) (ha : Sl w ga na fa) (hb : Sl w gb nb fb) (hna : na ≤ 17) (hnb : nb ≤ 17) (hle : lv fb nb ≤ lv fa na + pp) :
    Calls Tryd.prog 41 #[SlV ga na ca, SlV gb nb cb] w (RetF w (lv fa na + pp - lv fb nb)) := by
  unfold SlV
  go_enter Tryd.func41, Tryd.ntmps41
  go_wp2_with fail
  refine (p_any _).mono ?_
  rintro e w1 ⟨gp, cp, rfl, SP, _, B1⟩
  have ha1 := ha.below B1
  have hb1 := hb.below B1
  unfold SlV
  go_wp2_with fail
  refine (sum_any ga na ca gp 16 cp fa pF _ ha1 SP (by omega) (by decide)).mono ?_
  rintro e w2 ⟨g, c, rfl, S, _, b2⟩
  have hb2 := hb1.below b2
  have B2 := B1.trans (b2.mono B1.size)
  have hv := sum_val fa pF na 16 ha.lt pF_lt ha.high pF_high
  rw [pF_num] at hv
  have hl : maxN na 16 + 1 ≤ 1000 := by unfold maxN; split <;> omega
  have hl2 : nb ≤ maxN na 16 + 1 := by unfold maxN; split <;> omega
  have HV := Lib.hid hv
  clear hv b2 hb1 ha1 SP B1
  unfold SlV
  go_wp2_with fail
  refine (minus_any g (maxN na 16 + 1) c gb nb cb _ fb _ S hb2 (by omega)).mono ?_
  rintro e w3 ⟨g3, c3, rfl, S3, _, b3⟩
  have B3 := B2.trans (b3.mono B2.size)
  have hs := sub_val (sumF (maxN na 16 + 1) fa pF) fb (maxN na 16 + 1) nb S.lt hb.lt hb.high hl2 (by rw [HV.out]; exact hle)
  rw [HV.out] at hs
  have hf := fun W (h : Sl W g3 (maxN na 16 + 1) (subF (maxN na 16 + 1) (sumF (maxN na 16 + 1) fa pF) fb)) => fold_any g3 _ c3 _ W h hl
  rw [hs] at hf
  have HF := Lib.hid hf
  clear hs hf b3 hb2 S B2
  unfold SlV
  go_wp2_with fail
  refine (HF.out _ S3).mono ?_
  rintro e w4 ⟨g4, n4, c4, f4, rfl, S4, v4, h4, b4⟩
  have B4 := B3.trans (b4.mono B3.size)
  have V4 := Lib.hid v4
  clear b4 B3 S3 HF v4
  unfold SlV
  go_wp2
  go_ret
  exact ⟨g4, n4, c4, f4, rfl, S4, V4.out, h4, B4⟩

end Go.Proofs.YtjaomgildhiddaaDoor
