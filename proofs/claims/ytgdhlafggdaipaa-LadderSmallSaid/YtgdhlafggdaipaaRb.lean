/- Contracts of the reference's Less, Minus, Sum. -/
import Derived.Test.YtgdhlafggdaipaaRa
namespace Go.Proofs.Ytgdhlafggdaipaa
open Go.RowKit

/-- Two numbers have the same parts from k on. -/
structure EqAbove (fa fb : Nat → Nat) (k : Nat) : Prop where
  eq : ∀ i, k ≤ i → fa i = fb i
theorem EqAbove.down {fa fb : Nat → Nat} {k : Nat} (h : EqAbove fa fb (k + 1)) (hk : fa k = fb k) : EqAbove fa fb k :=
  ⟨fun i hi => by by_cases e : i = k
                  · rw [e, hk]
                  · exact h.eq i (by omega)⟩
theorem lv_above (fa fb : Nat → Nat) (k : Nat) (h : EqAbove fa fb k) : ∀ n, k ≤ n → ∃ d, lv fa n = lv fa k + d ∧ lv fb n = lv fb k + d
  | 0, hn => ⟨0, by rw [Nat.le_zero.1 hn]; rfl, by rw [Nat.le_zero.1 hn]; rfl⟩
  | n + 1, hn => by
    by_cases hk : k ≤ n
    · obtain ⟨d, h1, h2⟩ := lv_above fa fb k h n hk
      refine ⟨d + fa n * 65536 ^ n, ?_, ?_⟩
      · simp only [lv]; omega
      · simp only [lv]; rw [h.eq n hk]; omega
    · obtain rfl : k = n + 1 := by omega
      exact ⟨0, rfl, rfl⟩
theorem less_same (fa fb : Nat → Nat) (n : Nat) (h : EqAbove fa fb 0) : decide (lv fa n < lv fb n) = false := by
  obtain ⟨d, h1, h2⟩ := lv_above fa fb 0 h n (by omega)
  rw [decide_eq_false_iff_not, h1, h2]
  simp [lv]
theorem less_at (fa fb : Nat → Nat) (hfa : ∀ i, fa i < 65536) (hfb : ∀ i, fb i < 65536) (n k : Nat) (hk : k < n) (h : EqAbove fa fb (k + 1)) (hne : fa k ≠ fb k) : decide (lv fa n < lv fb n) = decide (fa k < fb k) := by
  obtain ⟨d, h1, h2⟩ := lv_above fa fb (k + 1) h n hk
  have la := lv_lt fa hfa k
  have lb := lv_lt fb hfb k
  rw [decide_eq_decide, h1, h2]
  simp only [lv]
  rcases Nat.lt_or_gt_of_ne hne with hl | hl
  · have : (fa k + 1) * 65536 ^ k ≤ fb k * 65536 ^ k := Nat.mul_le_mul_right _ hl
    rw [Nat.add_mul] at this
    constructor
    · intro _; exact hl
    · intro _; omega
  · have : (fb k + 1) * 65536 ^ k ≤ fa k * 65536 ^ k := Nat.mul_le_mul_right _ hl
    rw [Nat.add_mul] at this
    constructor
    · intro _; omega
    · intro _; omega

set_option maxHeartbeats 2000000 in
set_option maxRecDepth 100000 in
theorem less_any (ga na ca gb nb cb : Nat) (fa fb : Nat → Nat) (w : World) (ha : Sl w ga na fa) (hb : Sl w gb nb fb) (hna : na < 4294967296) (hnb : nb < 4294967296) :
    Calls Try.prog 45 #[SlV ga na ca, SlV gb nb cb] w fun e w' => e = .returned (.bool (decide (lv fa na < lv fb nb))) ∧ w = w' := by
  by_cases hmax : na < nb
  · have hE : EqAbove fa fb nb := ⟨fun i hi => by rw [ha.high i (by omega), hb.high i hi]⟩
    rw [← lv_high fa na ha.high nb (by omega)]
    unfold SlV
    go_enter Try.func45, Try.ntmps45
    go_wp2
    go_loop [6] (fun i => ∃ k : Nat, k ≤ nb ∧ (∃ z : Int, i = .int .i64 z ∧ z = (k : Int) - 1) ∧ EqAbove fa fb k) (fun i => (intOf i + 1).toNat)
    case atStart => exact ⟨nb, Nat.le_refl _, ⟨_, rfl, by omega⟩, hE⟩
    case round =>
      obtain ⟨k, hk, ⟨z, rfl, hz⟩, hA⟩ := hrel
      cases k with
      | zero =>
        obtain rfl : z = -1 := by omega
        have hq := less_same fa fb nb hA
        have HQ := Lib.hid hq
        clear hq hz
        go_wp2
        go_ret
        exact ⟨ret_bool HQ.out.symm, rfl⟩
      | succ j =>
        obtain rfl : z = (j : Int) := by omega
        have PA := fun W (h : Sl W ga na fa) => part_any ga na ca fa j W h
        have PB := fun W (h : Sl W gb nb fb) => part_any gb nb cb fb j W h
        by_cases hd : fa j = fb j
        · have hA2 := hA.down hd
          have hd2 : (((fa j : Nat) : Int) != ((fb j : Nat) : Int)) = false := by rw [hd]; simp
          clear hd hz
          go_wp2_with fail
          refine (PA _ ha).mono ?_
          rintro e w' ⟨rfl, rfl⟩
          go_wp2_with fail
          refine (PB _ hb).mono ?_
          rintro e w' ⟨rfl, rfl⟩
          go_wp2
          go_round
          case rel => exact ⟨j, by omega, ⟨_, rfl, rfl⟩, hA2⟩
          case measure => simp [intOf]
        · have hl := less_at fa fb ha.lt hb.lt nb j (by omega) hA hd
          have hd2 : (((fa j : Nat) : Int) != ((fb j : Nat) : Int)) = true := by rw [bne_iff_ne]; omega
          have HL := Lib.hid hl
          clear hd hz hl
          go_wp2_with fail
          refine (PA _ ha).mono ?_
          rintro e w' ⟨rfl, rfl⟩
          go_wp2_with fail
          refine (PB _ hb).mono ?_
          rintro e w' ⟨rfl, rfl⟩
          go_wp2_with fail
          refine (PA _ ha).mono ?_
          rintro e w' ⟨rfl, rfl⟩
          go_wp2_with fail
          refine (PB _ hb).mono ?_
          rintro e w' ⟨rfl, rfl⟩
          go_wp2
          go_ret
          refine ⟨ret_bool ?_, rfl⟩
          rw [HL.out, decide_eq_decide]
  · have hE : EqAbove fa fb na := ⟨fun i hi => by rw [ha.high i hi, hb.high i (by omega)]⟩
    rw [← lv_high fb nb hb.high na (by omega)]
    unfold SlV
    go_enter Try.func45, Try.ntmps45
    go_wp2
    go_loop [6] (fun i => ∃ k : Nat, k ≤ na ∧ (∃ z : Int, i = .int .i64 z ∧ z = (k : Int) - 1) ∧ EqAbove fa fb k) (fun i => (intOf i + 1).toNat)
    case atStart => exact ⟨na, Nat.le_refl _, ⟨_, rfl, by omega⟩, hE⟩
    case round =>
      obtain ⟨k, hk, ⟨z, rfl, hz⟩, hA⟩ := hrel
      cases k with
      | zero =>
        obtain rfl : z = -1 := by omega
        have hq := less_same fa fb na hA
        have HQ := Lib.hid hq
        clear hq hz
        go_wp2
        go_ret
        exact ⟨ret_bool HQ.out.symm, rfl⟩
      | succ j =>
        obtain rfl : z = (j : Int) := by omega
        have PA := fun W (h : Sl W ga na fa) => part_any ga na ca fa j W h
        have PB := fun W (h : Sl W gb nb fb) => part_any gb nb cb fb j W h
        by_cases hd : fa j = fb j
        · have hA2 := hA.down hd
          have hd2 : (((fa j : Nat) : Int) != ((fb j : Nat) : Int)) = false := by rw [hd]; simp
          clear hd hz
          go_wp2_with fail
          refine (PA _ ha).mono ?_
          rintro e w' ⟨rfl, rfl⟩
          go_wp2_with fail
          refine (PB _ hb).mono ?_
          rintro e w' ⟨rfl, rfl⟩
          go_wp2
          go_round
          case rel => exact ⟨j, by omega, ⟨_, rfl, rfl⟩, hA2⟩
          case measure => simp [intOf]
        · have hl := less_at fa fb ha.lt hb.lt na j (by omega) hA hd
          have hd2 : (((fa j : Nat) : Int) != ((fb j : Nat) : Int)) = true := by rw [bne_iff_ne]; omega
          have HL := Lib.hid hl
          clear hd hz hl
          go_wp2_with fail
          refine (PA _ ha).mono ?_
          rintro e w' ⟨rfl, rfl⟩
          go_wp2_with fail
          refine (PB _ hb).mono ?_
          rintro e w' ⟨rfl, rfl⟩
          go_wp2_with fail
          refine (PA _ ha).mono ?_
          rintro e w' ⟨rfl, rfl⟩
          go_wp2_with fail
          refine (PB _ hb).mono ?_
          rintro e w' ⟨rfl, rfl⟩
          go_wp2
          go_ret
          refine ⟨ret_bool ?_, rfl⟩
          rw [HL.out, decide_eq_decide]
/-- The borrow behind k parts, and part k of a difference. -/
def brw (fa fb : Nat → Nat) : Nat → Nat
  | 0 => 0
  | k + 1 => if fa k < fb k + brw fa fb k then 1 else 0
def subF (n : Nat) (fa fb : Nat → Nat) (i : Nat) : Nat := if i < n then (fa i + 65536 - fb i - brw fa fb i) % 65536 else 0
theorem brw_le (fa fb : Nat → Nat) : ∀ k, brw fa fb k ≤ 1
  | 0 => by simp [brw]
  | k + 1 => by unfold brw; split <;> omega
theorem sub_num (fa fb : Nat → Nat) (hfa : ∀ i, fa i < 65536) (hfb : ∀ i, fb i < 65536) (n : Nat) : ∀ k, k ≤ n → lv (subF n fa fb) k + lv fb k = lv fa k + brw fa fb k * 65536 ^ k
  | 0, _ => by simp [lv, brw]
  | k + 1, h => by
    have ih := sub_num fa fb hfa hfb n k (by omega)
    have h1 := hfa k
    have h2 := hfb k
    have h3 := brw_le fa fb k
    have e : subF n fa fb k + fb k + brw fa fb k = fa k + brw fa fb (k + 1) * 65536 := by
      simp only [subF, brw, if_pos (show k < n by omega)]
      split <;> omega
    have e2 : subF n fa fb k * 65536 ^ k + fb k * 65536 ^ k + brw fa fb k * 65536 ^ k = fa k * 65536 ^ k + brw fa fb (k + 1) * 65536 ^ (k + 1) := by
      rw [← Nat.add_mul, ← Nat.add_mul, e, Nat.add_mul, Nat.pow_succ, Nat.mul_assoc, Nat.mul_comm 65536 (65536 ^ k)]
    simp only [lv]
    omega

end Go.Proofs.Ytgdhlafggdaipaa
