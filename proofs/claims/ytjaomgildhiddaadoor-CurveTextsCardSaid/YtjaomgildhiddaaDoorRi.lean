/- Plain arithmetic of the reference's Fold: what stands above 2^255 counts 19 times. -/
import Derived.Test.YtjaomgildhiddaaDoorRh
namespace Go.Proofs.YtjaomgildhiddaaDoor
open Go.RowKit

theorem big_div (v j : Nat) : v / 57896044618658097711785492504343953926634992332820282019728792003956564819968 / 65536 ^ j = v / 65536 ^ (j + 15) / 32768 := by
  rw [Nat.div_div_eq_div_mul, Nat.div_div_eq_div_mul, Nat.pow_add]
  congr 1
  rw [Nat.mul_comm, Nat.mul_assoc]
theorem hi_part (v j : Nat) : dAt (v / 57896044618658097711785492504343953926634992332820282019728792003956564819968) j = dAt v (j + 15) / 32768 + dAt v (j + 16) * 2 % 65536 := by
  have e : v / 65536 ^ (j + 16) = v / 65536 ^ (j + 15) / 65536 := by rw [Nat.div_div_eq_div_mul, ← Nat.pow_succ]
  unfold dAt
  rw [big_div, e]
  generalize v / 65536 ^ (j + 15) = x
  omega
theorem lo_part (v i : Nat) (hi : i < 16) : dAt (v % 57896044618658097711785492504343953926634992332820282019728792003956564819968) i = if i = 15 then dAt v 15 % 32768 else dAt v i := by
  unfold dAt
  have hp : (57896044618658097711785492504343953926634992332820282019728792003956564819968 : Nat) = 65536 ^ i * (65536 ^ (15 - i) * 32768) := by
    rw [← Nat.mul_assoc, ← Nat.pow_add, show i + (15 - i) = 15 by omega]
  rw [hp, Nat.mod_mul_right_div_self]
  by_cases h : i = 15
  · subst h
    rw [if_pos rfl, Nat.sub_self, Nat.pow_zero, Nat.one_mul]
    omega
  · rw [if_neg h]
    have hd : (65536 : Nat) ∣ 65536 ^ (15 - i) * 32768 := by
      rw [show 15 - i = (14 - i) + 1 by omega, Nat.pow_succ]
      exact Nat.dvd_trans (Nat.dvd_mul_left 65536 _) (Nat.dvd_mul_right _ _)
    rw [Nat.mod_mod_of_dvd _ hd]

/-- The high part behind k rounds. -/
def hk (fa : Nat → Nat) (k j : Nat) : Nat := (if j + 15 < k then fa (j + 15) / 32768 else 0) + (if j + 16 < k then fa (j + 16) * 2 % 65536 else 0)
def put (o : Nat → Nat) (p x : Nat) (j : Nat) : Nat := if j = p then x else o j
theorem put_set (o : Nat → Nat) (p x n : Nat) : ((List.range n).map fun j => ((o j : Nat) : Int)).set p ((x : Nat) : Int) = (List.range n).map fun j => ((put o p x j : Nat) : Int) := by
  apply List.ext_getElem (by simp)
  intro j h1 h2
  simp only [List.getElem_set, List.getElem_map, List.getElem_range, put]
  by_cases h : p = j
  · rw [if_pos h, if_pos h.symm]
  · rw [if_neg h, if_neg (fun e => h e.symm)]
theorem hk_low (fa : Nat → Nat) (k : Nat) (h : k < 15) : hk fa (k + 1) = hk fa k := by
  funext j
  unfold hk
  rw [if_neg (by omega), if_neg (by omega), if_neg (by omega), if_neg (by omega)]
theorem hk_15 (fa : Nat → Nat) : put (hk fa 15) 0 (fa 15 / 32768) = hk fa 16 := by
  funext j
  unfold put hk
  by_cases h : j = 0
  · subst h
    rw [if_pos rfl, if_pos (by omega), if_neg (by omega)]
    rfl
  · rw [if_neg h, if_neg (by omega), if_neg (by omega), if_neg (by omega), if_neg (by omega)]
theorem hk_high (fa : Nat → Nat) (k : Nat) (h : 16 ≤ k) : put (put (hk fa k) (k - 15) (fa k / 32768)) (k - 16) (fa (k - 1) / 32768 + fa k * 2 % 65536) = hk fa (k + 1) := by
  funext j
  unfold put hk
  by_cases h1 : j = k - 16
  · rw [if_pos h1, if_pos (by omega), if_pos (by omega), show j + 15 = k - 1 by omega, show j + 16 = k by omega]
  · rw [if_neg h1]
    by_cases h2 : j = k - 15
    · rw [if_pos h2, if_pos (by omega), if_neg (by omega), show j + 15 = k by omega]
      rfl
    · rw [if_neg h2]
      by_cases h3 : j + 15 < k
      · rw [if_pos h3, if_pos (show j + 16 < k by omega), if_pos (show j + 15 < k + 1 by omega), if_pos (show j + 16 < k + 1 by omega)]
      · rw [if_neg h3, if_neg (show ¬ j + 16 < k by omega), if_neg (show ¬ j + 15 < k + 1 by omega), if_neg (show ¬ j + 16 < k + 1 by omega)]
theorem hk_at (fa : Nat → Nat) (k : Nat) (h : 15 ≤ k) : hk fa k (k - 15) = 0 := by
  unfold hk
  rw [if_neg (by omega), if_neg (by omega)]
theorem hk_at16 (fa : Nat → Nat) (k : Nat) (h : 16 ≤ k) : put (hk fa k) (k - 15) (fa k / 32768) (k - 16) = fa (k - 1) / 32768 := by
  unfold put hk
  rw [if_neg (by omega), if_pos (by omega), if_neg (by omega), show k - 16 + 15 = k - 1 by omega]
  rfl
theorem fill_over (n : Nat) (f : Nat → Int) (k : Nat) (h : n ≤ k) : fill n f (k + 1) = fill n f k := by
  unfold fill
  apply List.map_congr_left
  intro i hi
  have : i < n := by simpa using hi
  rw [if_pos (by omega), if_pos (by omega)]
/-- The high part, when all rounds are done. -/
theorem hk_done (fa : Nat → Nat) (hfa : ∀ i, fa i < 65536) (n : Nat) (hh : ∀ i, n ≤ i → fa i = 0) : hk fa n = dAt (lv fa n / 57896044618658097711785492504343953926634992332820282019728792003956564819968) := by
  funext j
  rw [hi_part]
  have e : ∀ i, dAt (lv fa n) i = fa i := fun i => lv_part_any fa hfa n hh i
  rw [e, e]
  unfold hk
  by_cases h1 : j + 15 < n
  · rw [if_pos h1]
    by_cases h2 : j + 16 < n
    · rw [if_pos h2]
    · rw [if_neg h2, hh (j + 16) (by omega)]
  · rw [if_neg h1, if_neg (by omega), hh (j + 15) (by omega), hh (j + 16) (by omega)]
/-- What the code answers for a number v is v modulo the prime. -/
theorem fold_num (v : Nat) : (v % 57896044618658097711785492504343953926634992332820282019728792003956564819968 + 19 * (v / 57896044618658097711785492504343953926634992332820282019728792003956564819968)) % pp = v % pp := by
  rw [pp_eq]
  omega

end Go.Proofs.YtjaomgildhiddaaDoor
