/- The arithmetic of scalar's product: what the words hold behind each step. -/
import Derived.Test.YtnglancehmdlpaaSb
namespace Go.Proofs.Ytnglancehmdlpaa
open Go.RowKit

def pw (j : Nat) : Nat := 2 ^ (64 * j)
theorem pw_pos (j : Nat) : 0 < pw j := Nat.pow_pos (by decide)
theorem pw_succ (j : Nat) : pw (j + 1) = pw j * 18446744073709551616 := by
  unfold pw
  rw [show 64 * (j + 1) = 64 * j + 64 by omega, Nat.pow_add]
theorem pw_add (i j : Nat) : pw (i + j) = pw i * pw j := by
  unfold pw
  rw [show 64 * (i + j) = 64 * i + 64 * j by omega, Nat.pow_add]
theorem pw_zero : pw 0 = 1 := rfl
theorem pw_four : pw 4 = 115792089237316195423570985008687907853269984665640564039457584007913129639936 := by decide
theorem wordAt_pw (n j : Nat) : wordAt n j = n / pw j % 18446744073709551616 := rfl
theorem wordAt_lt (n j : Nat) : wordAt n j < 18446744073709551616 := Nat.mod_lt _ (by decide)
theorem mod_pw_succ (n j : Nat) : n % pw (j + 1) = n % pw j + pw j * wordAt n j := by
  rw [pw_succ, Nat.mod_mul, wordAt_pw]
theorem word_add_high (n m j p : Nat) (hp : p < j) : wordAt (n + m * pw j) p = wordAt n p := by
  obtain ⟨d, rfl⟩ : ∃ d, j = p + 1 + d := ⟨j - (p + 1), by omega⟩
  rw [wordAt_pw, wordAt_pw, pw_add (p + 1) d, pw_succ, show m * (pw p * 18446744073709551616 * pw d) = pw p * (18446744073709551616 * (m * pw d)) by simp only [Nat.mul_comm, Nat.mul_left_comm, Nat.mul_assoc], Nat.add_mul_div_left _ _ (pw_pos p), Nat.add_mul_mod_self_left]
theorem word_zero_of_lt (n j p : Nat) (h : n < pw j) (hp : j ≤ p) : wordAt n p = 0 := by
  have : pw j ≤ pw p := by
    obtain ⟨d, rfl⟩ : ∃ d, p = j + d := ⟨p - j, by omega⟩
    rw [pw_add]
    exact Nat.le_mul_of_pos_right _ (pw_pos d)
  rw [wordAt_pw, Nat.div_eq_of_lt (by omega)]

section
variable (A B C : Nat)
def Sk (k : Nat) : Nat := C + A % pw k * B
def Tk (k q : Nat) : Nat := Sk A B C k + wordAt A k * (B % pw q) * pw k
def mixW (k q p : Nat) : Nat := if p < k + q then wordAt (Tk A B C k q) p else wordAt (Sk A B C k) p
def abv (k q : Nat) : Nat := Tk A B C k q / pw (k + q) - Sk A B C k / pw (k + q)

theorem Tk_zero (k : Nat) : Tk A B C k 0 = Sk A B C k := by
  unfold Tk
  rw [pw_zero, Nat.mod_one, Nat.mul_zero, Nat.zero_mul, Nat.add_zero]
theorem Tk_succ (k q : Nat) : Tk A B C k (q + 1) = Tk A B C k q + wordAt A k * wordAt B q * pw (k + q) := by
  unfold Tk
  rw [mod_pw_succ, Nat.mul_add, Nat.add_mul, pw_add, ← Nat.add_assoc]
  congr 1
  simp only [Nat.mul_comm, Nat.mul_left_comm, Nat.mul_assoc]
theorem abv_zero (k : Nat) : abv A B C k 0 = 0 := by unfold abv; rw [Tk_zero, Nat.sub_self]
theorem mixW_zero (k p : Nat) : mixW A B C k 0 p = wordAt (Sk A B C k) p := by
  unfold mixW
  split
  · rw [Tk_zero]
  · rfl
theorem Sk_le_Tk (k q : Nat) : Sk A B C k ≤ Tk A B C k q := Nat.le_add_right _ _
/-- One step of the inner loop. -/
theorem inner_num (k q : Nat) : abv A B C k (q + 1) = (wordAt A k * wordAt B q + wordAt (Sk A B C k) (k + q) + abv A B C k q) / 18446744073709551616 ∧
    wordAt (Tk A B C k (q + 1)) (k + q) = (wordAt A k * wordAt B q + wordAt (Sk A B C k) (k + q) + abv A B C k q) % 18446744073709551616 := by
  have h1 : Tk A B C k (q + 1) / pw (k + q) = Tk A B C k q / pw (k + q) + wordAt A k * wordAt B q := by
    rw [Tk_succ, Nat.add_mul_div_right _ _ (pw_pos _)]
  have h2 : Sk A B C k / pw (k + q) ≤ Tk A B C k q / pw (k + q) := Nat.div_le_div_right (Sk_le_Tk A B C k q)
  have h3 : Tk A B C k (q + 1) / pw (k + (q + 1)) = Tk A B C k (q + 1) / pw (k + q) / 18446744073709551616 := by
    rw [Nat.div_div_eq_div_mul, ← pw_succ]
    rfl
  have h4 : Sk A B C k / pw (k + (q + 1)) = Sk A B C k / pw (k + q) / 18446744073709551616 := by
    rw [Nat.div_div_eq_div_mul, ← pw_succ]
    rfl
  unfold abv
  rw [h3, h4, wordAt_pw (Tk A B C k (q + 1)), wordAt_pw (Sk A B C k), h1]
  generalize Tk A B C k q / pw (k + q) = t at *
  generalize Sk A B C k / pw (k + q) = s at *
  generalize wordAt A k * wordAt B q = m
  omega
theorem abv_lt : ∀ k q, abv A B C k q < 18446744073709551616
  | k, 0 => by rw [abv_zero]; decide
  | k, q + 1 => by
    rw [(inner_num A B C k q).1]
    have h1 := abv_lt k q
    have h2 := wordAt_lt (Sk A B C k) (k + q)
    have h3 : wordAt A k * wordAt B q ≤ 18446744073709551615 * 18446744073709551615 := Nat.mul_le_mul (Nat.le_of_lt_succ (wordAt_lt A k)) (Nat.le_of_lt_succ (wordAt_lt B q))
    generalize wordAt A k * wordAt B q = m at *
    omega
theorem mixW_succ (k q p : Nat) : mixW A B C k (q + 1) p = if p = k + q then (wordAt A k * wordAt B q + wordAt (Sk A B C k) (k + q) + abv A B C k q) % 18446744073709551616 else mixW A B C k q p := by
  unfold mixW
  by_cases h : p = k + q
  · rw [if_pos h, if_pos (by omega), h, (inner_num A B C k q).2]
  · rw [if_neg h]
    by_cases h2 : p < k + q
    · rw [if_pos (by omega), if_pos h2, Tk_succ, word_add_high _ _ _ _ h2]
    · rw [if_neg (by omega), if_neg h2]
theorem Tk_four (k : Nat) (hB : B < pw 4) : Tk A B C k 4 = Sk A B C (k + 1) := by
  unfold Tk Sk
  rw [Nat.mod_eq_of_lt hB, mod_pw_succ, Nat.add_mul, ← Nat.add_assoc]
  congr 1
  simp only [Nat.mul_comm, Nat.mul_left_comm]
theorem Sk_lt (hB : B < pw 4) (hC : C < pw 4) (k : Nat) : Sk A B C k < pw (k + 4) := by
  unfold Sk
  have h1 : A % pw k ≤ pw k - 1 := by have := Nat.mod_lt A (pw_pos k); omega
  have h2 : A % pw k * B ≤ (pw k - 1) * (pw 4 - 1) := Nat.mul_le_mul h1 (by omega)
  rw [pw_add]
  have h3 := pw_pos k
  generalize pw k = x at *
  rw [pw_four] at *
  obtain ⟨y, rfl⟩ : ∃ y, x = y + 1 := ⟨x - 1, by omega⟩
  rw [Nat.add_sub_cancel] at h2
  omega
/-- The end of a round of the outer loop. -/
theorem outer_end (hB : B < pw 4) (hC : C < pw 4) (k p : Nat) : wordAt (Sk A B C (k + 1)) p = if p = k + 4 then abv A B C k 4 else mixW A B C k 4 p := by
  have hS := Sk_lt A B C hB hC k
  have hS1 := Sk_lt A B C hB hC (k + 1)
  by_cases h : p = k + 4
  · rw [if_pos h, h, wordAt_pw]
    unfold abv
    rw [Nat.div_eq_of_lt hS, Nat.sub_zero, Tk_four A B C k hB]
    refine Nat.mod_eq_of_lt (Nat.div_lt_of_lt_mul ?_)
    rw [← pw_succ, show k + 4 + 1 = k + 1 + 4 by omega]
    exact hS1
  · rw [if_neg h]
    unfold mixW
    by_cases h2 : p < k + 4
    · rw [if_pos h2, Tk_four A B C k hB]
    · rw [if_neg h2, word_zero_of_lt _ _ p hS (by omega), word_zero_of_lt _ _ p hS1 (by omega)]
theorem Sk_four (hA : A < pw 4) : Sk A B C 4 = A * B + C := by
  unfold Sk
  rw [Nat.mod_eq_of_lt hA, Nat.add_comm]
theorem Sk_zero : Sk A B C 0 = C := by
  unfold Sk
  rw [pw_zero, Nat.mod_one, Nat.zero_mul, Nat.add_zero]
end
/-- The three sums of a step, by value. -/
theorem step_num (x y s ab : Int) (x0 : 0 ≤ x) (x1 : x < 18446744073709551616) (y0 : 0 ≤ y) (y1 : y < 18446744073709551616) (s0 : 0 ≤ s) (s1 : s < 18446744073709551616) (a0 : 0 ≤ ab) (a1 : ab < 18446744073709551616) :
    ((x * y % 18446744073709551616 + s) % 18446744073709551616 + ab) % 18446744073709551616 = (x * y + s + ab) % 18446744073709551616 ∧
    x * y / 18446744073709551616 + (x * y % 18446744073709551616 + s) / 18446744073709551616 + ((x * y % 18446744073709551616 + s) % 18446744073709551616 + ab) / 18446744073709551616 = (x * y + s + ab) / 18446744073709551616 ∧
    0 ≤ x * y ∧ x * y ≤ 340282366920938463426481119284349108225 := by
  have h := prod_le x0 y0 (show x ≤ 18446744073709551615 by omega) (show y ≤ 18446744073709551615 by omega)
  generalize x * y = m at *
  omega
end Go.Proofs.Ytnglancehmdlpaa
