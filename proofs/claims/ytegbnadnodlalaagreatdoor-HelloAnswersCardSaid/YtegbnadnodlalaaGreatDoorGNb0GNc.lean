/- Primes, Fermat's little theorem, and how a number is shown to be a prime out of factors of the number before it: from first principles. The group's order is prime. 2^255 - 19 is prime; a number other than 0 times its power p - 2 is 1. Roots modulo 2^255 - 19: which numbers have one, and that the program's reckoning finds it. -/
import Derived.Test.YtegbnadnodlalaaGreatDoorLa0GFc
import Derived.Test.YtegbnadnodlalaaGreatDoorGFk0GRb
namespace Go.Proofs.YtegbnadnodlalaaGreatDoor
namespace Nt
structure Pr (p : Nat) : Prop where
 two : 2 ≤ p
 only : ∀ m, m ∣ p → m = 1 ∨ m = p
theorem Pr.coprime {p a : Nat} (hp : Pr p) (h : ¬ p ∣ a) : Nat.Coprime p a := by
 rcases hp.only (Nat.gcd p a) (Nat.gcd_dvd_left p a) with h1 | h1
 · exact h1
 · exact absurd (h1 ▸ Nat.gcd_dvd_right p a) h
theorem Pr.dvd_mul {p a b : Nat} (hp : Pr p) (h : p ∣ a * b) : p ∣ a ∨ p ∣ b := by
 by_cases ha : p ∣ a
 · exact Or.inl ha
 · exact Or.inr ((hp.coprime ha).dvd_of_dvd_mul_left h)
/-! The binomial theorem, and that a prime goes into the numbers in the midst of its row. -/
def bin : Nat → Nat → Nat
 | _, 0 => 1
 | 0, _ + 1 => 0
 | n + 1, k + 1 => bin n k + bin n (k + 1)
theorem bin_zero (n : Nat) : bin n 0 = 1 := by cases n <;> rfl
theorem bin_succ (n k : Nat) : bin (n + 1) (k + 1) = bin n k + bin n (k + 1) := rfl
theorem bin_high : ∀ n k, n < k → bin n k = 0
 | 0, k + 1, _ => rfl
 | n + 1, k + 1, h => by rw [bin_succ, bin_high n k (by omega), bin_high n (k + 1) (by omega)]
theorem bin_self : ∀ n, bin n n = 1
 | 0 => rfl
 | n + 1 => by rw [bin_succ, bin_self n, bin_high n (n + 1) (by omega)]
theorem bin_mul : ∀ n k, (k + 1) * bin (n + 1) (k + 1) = (n + 1) * bin n k
 | 0, 0 => by simp [bin]
 | 0, k + 1 => by simp [bin]
 | n + 1, 0 => by
  have h := bin_mul n 0
  have e1 : bin (n + 1 + 1) (0 + 1) = bin (n + 1) 0 + bin (n + 1) (0 + 1) := rfl
  have e2 : bin (n + 1) 0 = 1 := rfl
  rw [bin_zero n] at h
  rw [e1, e2]
  omega
 | n + 1, k + 1 => by
  have h1 := bin_mul n k
  have h2 := bin_mul n (k + 1)
  rw [bin_succ (n + 1) (k + 1), Nat.mul_add, h2, show (k + 1 + 1) * bin (n + 1) (k + 1) = (k + 1) * bin (n + 1) (k + 1) + bin (n + 1) (k + 1) by rw [Nat.succ_mul], h1, bin_succ n k]
  rw [show (n + 1 + 1) * (bin n k + bin n (k + 1)) = (n + 1) * (bin n k + bin n (k + 1)) + (bin n k + bin n (k + 1)) by rw [Nat.succ_mul], Nat.mul_add]
  omega
def sum (f : Nat → Nat) : Nat → Nat
 | 0 => 0
 | n + 1 => sum f n + f n
theorem sum_congr {f g : Nat → Nat} : ∀ n, (∀ k, k < n → f k = g k) → sum f n = sum g n
 | 0, _ => rfl
 | n + 1, h => by
  unfold sum
  rw [sum_congr n (fun k hk => h k (by omega)), h n (by omega)]
theorem sum_add (f g : Nat → Nat) : ∀ n, sum (fun k => f k + g k) n = sum f n + sum g n
 | 0 => rfl
 | n + 1 => by
  unfold sum
  rw [sum_add f g n]
  omega
theorem sum_mul (f : Nat → Nat) (c : Nat) : ∀ n, sum (fun k => f k * c) n = sum f n * c
 | 0 => by simp [sum]
 | n + 1 => by
  unfold sum
  rw [sum_mul f c n, Nat.add_mul]
theorem sum_head (f : Nat → Nat) : ∀ n, sum f (n + 1) = f 0 + sum (fun k => f (k + 1)) n
 | 0 => by simp [sum]
 | n + 1 => by
  rw [show sum f (n + 1 + 1) = sum f (n + 1) + f (n + 1) from rfl, sum_head f n]
  show _ = f 0 + (sum (fun k => f (k + 1)) n + f (n + 1))
  omega
theorem binom (a : Nat) : ∀ n, (a + 1) ^ n = sum (fun k => bin n k * a ^ k) (n + 1)
 | 0 => by simp [sum, bin]
 | n + 1 => by
  rw [Nat.pow_succ, binom a n, sum_head (fun k => bin (n + 1) k * a ^ k) (n + 1)]
  have e : sum (fun k => bin (n + 1) (k + 1) * a ^ (k + 1)) (n + 1) = sum (fun k => bin n k * a ^ k * a) (n + 1) + sum (fun k => bin n (k + 1) * a ^ (k + 1)) (n + 1) := by
   rw [← sum_add]
   refine sum_congr _ fun k _ => ?_
   rw [bin_succ, Nat.add_mul, Nat.pow_succ, ← Nat.mul_assoc]
  rw [e, sum_mul]
  have e2 : sum (fun k => bin n k * a ^ k) (n + 1) = 1 + sum (fun k => bin n (k + 1) * a ^ (k + 1)) n := by
   rw [sum_head]
   simp [bin_zero]
  have e3 : sum (fun k => bin n (k + 1) * a ^ (k + 1)) (n + 1) = sum (fun k => bin n (k + 1) * a ^ (k + 1)) n := by
   show _ + bin n (n + 1) * a ^ (n + 1) = _
   rw [bin_high n (n + 1) (by omega)]
   simp
  rw [e3, bin_zero, Nat.mul_add, Nat.mul_one]
  simp only [Nat.pow_zero, Nat.mul_one]
  omega
theorem Pr.bin_dvd {p : Nat} (hp : Pr p) (k : Nat) (h0 : 0 < k) (h1 : k < p) : p ∣ bin p k := by
 obtain ⟨q, rfl⟩ : ∃ q, p = q + 1 := ⟨p - 1, by omega⟩
 obtain ⟨j, rfl⟩ : ∃ j, k = j + 1 := ⟨k - 1, by omega⟩
 have h : q + 1 ∣ (j + 1) * bin (q + 1) (j + 1) := ⟨bin q j, bin_mul q j⟩
 rcases hp.dvd_mul h with h2 | h2
 ·
  have := Nat.le_of_dvd (by omega) h2
  omega
 · exact h2
theorem sum_dvd {p : Nat} {f : Nat → Nat} : ∀ n, (∀ k, k < n → p ∣ f k) → p ∣ sum f n
 | 0, _ => ⟨0, rfl⟩
 | n + 1, h => Nat.dvd_add (sum_dvd n fun k hk => h k (by omega)) (h n (by omega))
theorem Pr.dream {p : Nat} (hp : Pr p) (a : Nat) : (a + 1) ^ p % p = (a ^ p + 1) % p := by
 obtain ⟨q, rfl⟩ : ∃ q, p = q + 1 := ⟨p - 1, by have := hp.two; omega⟩
 rw [binom a (q + 1)]
 show (sum (fun k => bin (q + 1) k * a ^ k) (q + 1) + bin (q + 1) (q + 1) * a ^ (q + 1)) % (q + 1) = _
 rw [sum_head, bin_self, bin_zero]
 have hd : q + 1 ∣ sum (fun k => bin (q + 1) (k + 1) * a ^ (k + 1)) q := sum_dvd q fun k hk => Nat.dvd_mul_right_of_dvd (hp.bin_dvd (k + 1) (by omega) (by omega)) _
 obtain ⟨c, hc⟩ := hd
 rw [hc, show 1 * a ^ 0 + (q + 1) * c + 1 * a ^ (q + 1) = a ^ (q + 1) + 1 + (q + 1) * c by simp; omega, Nat.add_mul_mod_self_left]
theorem Pr.fermat' {p : Nat} (hp : Pr p) : ∀ a, a ^ p % p = a % p
 | 0 => by rw [Nat.zero_pow (by have := hp.two; omega)]
 | a + 1 => by rw [hp.dream, Nat.add_mod, hp.fermat' a, ← Nat.add_mod]
theorem Pr.fermat {p : Nat} (hp : Pr p) (a : Nat) (ha : ¬ p ∣ a) : a ^ (p - 1) % p = 1 := by
 have h1 := hp.fermat' a
 have h2 := hp.two
 obtain ⟨q, rfl⟩ : ∃ q, p = q + 1 := ⟨p - 1, by omega⟩
 rw [Nat.add_sub_cancel]
 have ha0 : 0 < a := by
  rcases Nat.eq_zero_or_pos a with h | h
  · exact absurd (h ▸ ⟨0, rfl⟩) ha
  · exact h
 have hge : 1 ≤ a ^ q := Nat.pow_pos ha0
 have h3 : q + 1 ∣ a * (a ^ q - 1) := by
  rw [Nat.mul_sub, Nat.mul_one, Nat.mul_comm, ← Nat.pow_succ]
  exact Nat.dvd_of_mod_eq_zero (Nat.sub_mod_eq_zero_of_mod_eq h1)
 rcases hp.dvd_mul h3 with h4 | h4
 · exact absurd h4 ha
 ·
  obtain ⟨c, hc⟩ := h4
  rw [show a ^ q = 1 + (q + 1) * c by omega, Nat.add_mul_mod_self_left, Nat.mod_eq_of_lt (by omega)]
/-! Primes out of factors. -/
theorem pow_one_gcd {P b : Nat} (hP : 1 < P) : ∀ x y, b ^ x % P = 1 → b ^ y % P = 1 → b ^ Nat.gcd x y % P = 1 := by
 intro x y
 induction x, y using Nat.gcd.induction with
 | H0 y => intro _ h; simpa using h
 | H1 x y hx ih =>
  intro h1 h2
  rw [Nat.gcd_rec]
  refine ih ?_ h1
  have e : b ^ y = (b ^ x) ^ (y / x) * b ^ (y % x) := by rw [← Nat.pow_mul, ← Nat.pow_add, Nat.div_add_mod]
  rw [e, Nat.mul_mod, Nat.pow_mod, h1, Nat.one_pow, Nat.mod_eq_of_lt hP, Nat.one_mul, Nat.mod_mod] at h2
  exact h2
theorem pock {n q m a P : Nat} (hq : Pr q) (hn : n = q * m + 1) (ha : a ^ (q * m) % n = 1) (hg : Nat.gcd (a ^ m % n + n - 1) n = 1) (hn1 : 1 < n) (hP : Pr P) (hd : P ∣ n) : q ∣ P - 1 := by
 apply Classical.byContradiction
 intro hqd
 have hP2 := hP.two
 have hc : Nat.gcd q (P - 1) = 1 := hq.coprime hqd
 obtain ⟨k, hk⟩ := hd
 have down : ∀ z, z % n = 1 → z % P = 1 := fun z hz => by
  have : z % P = z % n % P := by rw [hk, Nat.mod_mul_right_mod]
  rw [this, hz, Nat.mod_eq_of_lt (by omega)]
 have h1 : (a ^ m) ^ q % P = 1 := by
  rw [← Nat.pow_mul, Nat.mul_comm]
  exact down _ ha
 have hnd : ¬ P ∣ a ^ m := fun h => by
  have h2 : P ∣ (a ^ m) ^ q := Nat.dvd_trans h ⟨(a ^ m) ^ (q - 1), by rw [Nat.mul_comm, ← Nat.pow_succ, show (q - 1).succ = q by have := hq.two; omega]⟩
  rw [Nat.mod_eq_zero_of_dvd h2] at h1
  cases h1
 have h2 := hP.fermat _ hnd
 have h3 := pow_one_gcd (by omega) q (P - 1) h1 h2
 rw [hc, Nat.pow_one] at h3
 have h4 : P ∣ a ^ m % n + n - 1 := by
  have e : a ^ m % n % P = 1 := by
   have : a ^ m % P = a ^ m % n % P := by
    conv => rhs; rw [hk, Nat.mod_mul_right_mod]
   rw [← this]; exact h3
  have hpos : 1 ≤ a ^ m % n := by
   rcases Nat.eq_zero_or_pos (a ^ m % n) with h | h
   · rw [h] at e; simp at e
   · exact h
  have h5 : P ∣ a ^ m % n - 1 := by
   have := Nat.sub_mod_eq_zero_of_mod_eq (show a ^ m % n % P = 1 % P by rw [e, Nat.mod_eq_of_lt (by omega)])
   exact Nat.dvd_of_mod_eq_zero this
  rw [show a ^ m % n + n - 1 = (a ^ m % n - 1) + n by omega]
  exact Nat.dvd_add h5 ⟨k, hk⟩
 have h5 : P ∣ 1 := hg ▸ Nat.dvd_gcd h4 ⟨k, hk⟩
 have := Nat.le_of_dvd (by omega) h5
 omega
theorem prime_under : ∀ (n : Nat), 2 ≤ n → ∃ P, Pr P ∧ P ∣ n := by
 intro n
 induction n using Nat.strongRecOn with
 | _ n ih =>
  intro h
  by_cases hp : ∀ m, m ∣ n → m = 1 ∨ m = n
  · exact ⟨n, ⟨h, hp⟩, Nat.dvd_refl n⟩
  ·
   have ⟨m, hm⟩ := Classical.not_forall.1 hp
   have ⟨hmd, hm2⟩ := Classical.not_imp.1 hm
   have hle := Nat.le_of_dvd (by omega) hmd
   have hpos : m ≠ 0 := fun h0 => by
    rw [h0] at hmd
    have := Nat.eq_zero_of_zero_dvd hmd
    omega
   have h1 : m ≠ 1 ∧ m ≠ n := ⟨fun h => hm2 (Or.inl h), fun h => hm2 (Or.inr h)⟩
   obtain ⟨P, h2, h3⟩ := ih m (by omega) (by omega)
   exact ⟨P, h2, Nat.dvd_trans h3 hmd⟩
/-- A number whose prime parts are all greater than its root is a prime. -/
theorem prime_of_big {n : Nat} (hn : 2 ≤ n) (h : ∀ P, Pr P → P ∣ n → n < P * P) : Pr n := by
 refine ⟨hn, fun m hm => ?_⟩
 apply Classical.byContradiction
 intro hne
 obtain ⟨k, hk⟩ := hm
 have key : ∀ x y, n = x * y → x ≤ y → x ≠ 1 → False := fun x y hxy hle hx => by
  have hx0 : x ≠ 0 := fun h0 => by rw [h0] at hxy; omega
  obtain ⟨P, h1, h2⟩ := prime_under x (by omega)
  have h3 := h P h1 (hxy ▸ Nat.dvd_trans h2 ⟨y, rfl⟩)
  have h4 := Nat.le_of_dvd (by omega) h2
  have h5 : P * P ≤ x * y := Nat.mul_le_mul h4 (by omega)
  omega
 rcases Nat.le_total m k with h1 | h1
 · exact key m k hk h1 (fun h => hne (Or.inl h))
 ·
  refine key k m (by rw [hk, Nat.mul_comm]) h1 (fun h => hne (Or.inr ?_))
  rw [hk, h, Nat.mul_one]
theorem prime_one {n q m a : Nat} (hq : Pr q) (hn : n = q * m + 1) (ha : a ^ (q * m) % n = 1) (hg : Nat.gcd (a ^ m % n + n - 1) n = 1) (hb : n < q * q) (hn1 : 1 < n) : Pr n := by
 refine prime_of_big hn1 fun P hP hd => ?_
 have h1 := pock hq hn ha hg hn1 hP hd
 have h2 := Nat.le_of_dvd (by have := hP.two; omega) h1
 have h3 : q * q ≤ P * P := Nat.mul_le_mul (by omega) (by omega)
 omega
theorem prime_two {n q r m k a b : Nat} (hq : Pr q) (hr : Pr r) (hqr : q ≠ r) (hn : n = q * m + 1) (hn2 : n = r * k + 1) (ha : a ^ (q * m) % n = 1) (hg : Nat.gcd (a ^ m % n + n - 1) n = 1)
  (hb : b ^ (r * k) % n = 1) (hg2 : Nat.gcd (b ^ k % n + n - 1) n = 1) (hbig : n < (q * r) * (q * r)) (hn1 : 1 < n) : Pr n := by
 refine prime_of_big hn1 fun P hP hd => ?_
 have h1 := pock hq hn ha hg hn1 hP hd
 have h2 := pock hr hn2 hb hg2 hn1 hP hd
 have hc : Nat.Coprime q r := hq.coprime fun h => by
  rcases hr.only q h with h3 | h3
  · have := hq.two; omega
  · exact hqr h3
 have h3 := hc.mul_dvd_of_dvd_of_dvd h1 h2
 have h4 := Nat.le_of_dvd (by have := hP.two; omega) h3
 have h5 : (q * r) * (q * r) ≤ P * P := Nat.mul_le_mul (by omega) (by omega)
 omega
/-- Small primes by trial. -/
def trial (n : Nat) : Nat → Bool
 | 0 => true
 | k + 1 => trial n k && (n % (k + 2) != 0)
theorem trial_spec (n : Nat) : ∀ k, trial n k = true → ∀ m, 2 ≤ m → m < k + 2 → n % m ≠ 0
 | 0, _, m, h1, h2 => by omega
 | k + 1, h, m, h1, h2 => by
  unfold trial at h
  rw [Bool.and_eq_true] at h
  rcases Nat.lt_or_ge m (k + 2) with h3 | h3
  · exact trial_spec n k h.1 m h1 h3
  ·
   have : m = k + 2 := by omega
   subst this
   simpa using h.2
theorem prime_small (n k : Nat) (hn : 2 ≤ n) (h : trial n k = true) (hk : n < (k + 2) * (k + 2)) : Pr n :=
 prime_of_big hn fun P hP hd => by
  rcases Nat.lt_or_ge P (k + 2) with h1 | h1
  · exact absurd (Nat.mod_eq_zero_of_dvd hd) (trial_spec n k h P hP.two h1)
  ·
   have := Nat.mul_le_mul h1 h1
   omega
/-- A power modulo n, bit by bit. -/
def clm (n a v B : Nat) : Nat → Nat
 | 0 => 1 % n
 | k + 1 => clm n a v B k * clm n a v B k % n * (if v / 2 ^ (B - 1 - k) % 2 = 1 then a else 1) % n
theorem clm_eq (n a v B : Nat) (hv : v < 2 ^ B) : ∀ k, k ≤ B → clm n a v B k = a ^ (v / 2 ^ (B - k)) % n
 | 0, _ => by
  unfold clm
  rw [Nat.sub_zero, Nat.div_eq_of_lt hv, Nat.pow_zero]
 | k + 1, h => by
  unfold clm
  rw [clm_eq n a v B hv k (by omega), ← Nat.mul_mod, Nat.mod_mul_mod, ← Nat.pow_add]
  have e : v / 2 ^ (B - k) = v / 2 ^ (B - (k + 1)) / 2 := by
   rw [show B - k = (B - (k + 1)) + 1 by omega, Nat.pow_succ, Nat.div_div_eq_div_mul]
  rw [e, show B - 1 - k = B - (k + 1) by omega]
  generalize v / 2 ^ (B - (k + 1)) = u
  rcases Nat.mod_two_eq_zero_or_one u with h1 | h1
  · rw [if_neg (by omega), Nat.mul_one, show u / 2 + u / 2 = u by omega]
  · rw [if_pos h1, ← Nat.pow_succ, show (u / 2 + u / 2).succ = u by omega]
theorem clm_all (n a v B : Nat) (hv : v < 2 ^ B) : a ^ v % n = clm n a v B B := by
 rw [clm_eq n a v B hv B (Nat.le_refl _), Nat.sub_self, Nat.pow_zero, Nat.div_one]
end Nt
end Go.Proofs.YtegbnadnodlalaaGreatDoor
namespace Go.Proofs.YtegbnadnodlalaaGreatDoor
namespace Nt
theorem ql0 : Pr 1224481 := prime_small 1224481 1105 (by decide) (by decide +kernel) (by decide)
theorem ql1 : Pr 531581 := prime_small 531581 728 (by decide) (by decide +kernel) (by decide)
theorem ql2 : Pr 1257559732178653 := prime_two (q := 1224481) (r := 531581) (m := 1027014492) (k := 2365697292) (a := 2) (b := 2) ql0 ql1 (by decide +kernel) (by decide +kernel) (by decide +kernel) (by rw [clm_all 1257559732178653 2 (1224481 * 1027014492) 51 (by decide +kernel)]; decide +kernel) (by rw [clm_all 1257559732178653 2 1027014492 51 (by decide +kernel)]; decide +kernel) (by rw [clm_all 1257559732178653 2 (531581 * 2365697292) 51 (by decide +kernel)]; decide +kernel) (by rw [clm_all 1257559732178653 2 2365697292 51 (by decide +kernel)]; decide +kernel) (by decide +kernel) (by decide +kernel)
theorem ql3 : Pr 4434155615661930479 := prime_one (q := 1257559732178653) (m := 3526) (a := 2) ql2 (by decide +kernel) (by rw [clm_all 4434155615661930479 2 (1257559732178653 * 3526) 62 (by decide +kernel)]; decide +kernel) (by rw [clm_all 4434155615661930479 2 3526 62 (by decide +kernel)]; decide +kernel) (by decide +kernel) (by decide +kernel)
theorem ql4 : Pr 172054593956031949258510691 := prime_one (q := 4434155615661930479) (m := 38802110) (a := 2) ql3 (by decide +kernel) (by rw [clm_all 172054593956031949258510691 2 (4434155615661930479 * 38802110) 88 (by decide +kernel)]; decide +kernel) (by rw [clm_all 172054593956031949258510691 2 38802110 88 (by decide +kernel)]; decide +kernel) (by decide +kernel) (by decide +kernel)
theorem ql5 : Pr 19757330305831588566944191468367130476339 := prime_one (q := 172054593956031949258510691) (m := 114831751082918) (a := 2) ql4 (by decide +kernel) (by rw [clm_all 19757330305831588566944191468367130476339 2 (172054593956031949258510691 * 114831751082918) 134 (by decide +kernel)]; decide +kernel) (by rw [clm_all 19757330305831588566944191468367130476339 2 114831751082918 134 (by decide +kernel)]; decide +kernel) (by decide +kernel) (by decide +kernel)
theorem ql6 : Pr 276602624281642239937218680557139826668747 := prime_one (q := 19757330305831588566944191468367130476339) (m := 14) (a := 2) ql5 (by decide +kernel) (by rw [clm_all 276602624281642239937218680557139826668747 2 (19757330305831588566944191468367130476339 * 14) 138 (by decide +kernel)]; decide +kernel) (by rw [clm_all 276602624281642239937218680557139826668747 2 14 138 (by decide +kernel)]; decide +kernel) (by decide +kernel) (by decide +kernel)
theorem ql7 : Pr 7237005577332262213973186563042994240857116359379907606001950938285454250989 := prime_one (q := 276602624281642239937218680557139826668747) (m := 26163907866482859529727157400808004) (a := 2) ql6 (by decide +kernel) (by rw [clm_all 7237005577332262213973186563042994240857116359379907606001950938285454250989 2 (276602624281642239937218680557139826668747 * 26163907866482859529727157400808004) 253 (by decide +kernel)]; decide +kernel) (by rw [clm_all 7237005577332262213973186563042994240857116359379907606001950938285454250989 2 26163907866482859529727157400808004 253 (by decide +kernel)]; decide +kernel) (by decide +kernel) (by decide +kernel)
theorem ell_prime : Pr 7237005577332262213973186563042994240857116359379907606001950938285454250989 := ql7
end Nt
end Go.Proofs.YtegbnadnodlalaaGreatDoor
namespace Go.Proofs.YtegbnadnodlalaaGreatDoor
namespace Nt
theorem p0 : Pr 127 := prime_small 127 10 (by decide) (by decide +kernel) (by decide)
theorem p1 : Pr 8574133 := prime_small 8574133 2927 (by decide) (by decide +kernel) (by decide)
theorem p2 : Pr 1919519569386763 := prime_two (q := 8574133) (r := 127) (m := 223873314) (k := 15114327318006) (a := 2) (b := 2) p1 p0 (by decide +kernel) (by decide +kernel) (by decide +kernel) (by rw [clm_all 1919519569386763 2 (8574133 * 223873314) 51 (by decide +kernel)]; decide +kernel) (by rw [clm_all 1919519569386763 2 223873314 51 (by decide +kernel)]; decide +kernel) (by rw [clm_all 1919519569386763 2 (127 * 15114327318006) 51 (by decide +kernel)]; decide +kernel) (by rw [clm_all 1919519569386763 2 15114327318006 51 (by decide +kernel)]; decide +kernel) (by decide +kernel) (by decide +kernel)
theorem p3 : Pr 569003 := prime_small 569003 753 (by decide) (by decide +kernel) (by decide)
theorem p4 : Pr 2773320623 := prime_one (q := 569003) (m := 4874) (a := 2) p3 (by decide +kernel) (by rw [clm_all 2773320623 2 (569003 * 4874) 32 (by decide +kernel)]; decide +kernel) (by rw [clm_all 2773320623 2 4874 32 (by decide +kernel)]; decide +kernel) (by decide +kernel) (by decide +kernel)
theorem p5 : Pr 72106336199 := prime_one (q := 2773320623) (m := 26) (a := 2) p4 (by decide +kernel) (by rw [clm_all 72106336199 2 (2773320623 * 26) 37 (by decide +kernel)]; decide +kernel) (by rw [clm_all 72106336199 2 26 37 (by decide +kernel)]; decide +kernel) (by decide +kernel) (by decide +kernel)
theorem p6 : Pr 75445702479781427272750846543864801 := prime_two (q := 1919519569386763) (r := 72106336199) (m := 39304471641247389600) (k := 1046311689884858398375200) (a := 2) (b := 2) p2 p5 (by decide +kernel) (by decide +kernel) (by decide +kernel) (by rw [clm_all 75445702479781427272750846543864801 2 (1919519569386763 * 39304471641247389600) 116 (by decide +kernel)]; decide +kernel) (by rw [clm_all 75445702479781427272750846543864801 2 39304471641247389600 116 (by decide +kernel)]; decide +kernel) (by rw [clm_all 75445702479781427272750846543864801 2 (72106336199 * 1046311689884858398375200) 116 (by decide +kernel)]; decide +kernel) (by rw [clm_all 75445702479781427272750846543864801 2 1046311689884858398375200 116 (by decide +kernel)]; decide +kernel) (by decide +kernel) (by decide +kernel)
theorem p7 : Pr 430751 := prime_small 430751 655 (by decide) (by decide +kernel) (by decide)
theorem p8 : Pr 4153 := prime_small 4153 63 (by decide) (by decide +kernel) (by decide)
theorem p9 : Pr 31757755568855353 := prime_two (q := 430751) (r := 4153) (m := 73726481352) (k := 7646943310584) (a := 2) (b := 2) p7 p8 (by decide +kernel) (by decide +kernel) (by decide +kernel) (by rw [clm_all 31757755568855353 2 (430751 * 73726481352) 55 (by decide +kernel)]; decide +kernel) (by rw [clm_all 31757755568855353 2 73726481352 55 (by decide +kernel)]; decide +kernel) (by rw [clm_all 31757755568855353 2 (4153 * 7646943310584) 55 (by decide +kernel)]; decide +kernel) (by rw [clm_all 31757755568855353 2 7646943310584 55 (by decide +kernel)]; decide +kernel) (by decide +kernel) (by decide +kernel)
theorem p10 : Pr 74058212732561358302231226437062788676166966415465897661863160754340907 := prime_two (q := 75445702479781427272750846543864801) (r := 31757755568855353) (m := 981609426360740691344999861639072106) (k := 2331972502653487852620185443007392165117953542933313402) (a := 2) (b := 2) p6 p9 (by decide +kernel) (by decide +kernel) (by decide +kernel) (by rw [clm_all 74058212732561358302231226437062788676166966415465897661863160754340907 2 (75445702479781427272750846543864801 * 981609426360740691344999861639072106) 236 (by decide +kernel)]; decide +kernel) (by rw [clm_all 74058212732561358302231226437062788676166966415465897661863160754340907 2 981609426360740691344999861639072106 236 (by decide +kernel)]; decide +kernel) (by rw [clm_all 74058212732561358302231226437062788676166966415465897661863160754340907 2 (31757755568855353 * 2331972502653487852620185443007392165117953542933313402) 236 (by decide +kernel)]; decide +kernel) (by rw [clm_all 74058212732561358302231226437062788676166966415465897661863160754340907 2 2331972502653487852620185443007392165117953542933313402 236 (by decide +kernel)]; decide +kernel) (by decide +kernel) (by decide +kernel)
theorem p11 : Pr 57896044618658097711785492504343953926634992332820282019728792003956564819949 := prime_one (q := 74058212732561358302231226437062788676166966415465897661863160754340907) (m := 781764) (a := 2) p10 (by decide +kernel) (by rw [clm_all 57896044618658097711785492504343953926634992332820282019728792003956564819949 2 (74058212732561358302231226437062788676166966415465897661863160754340907 * 781764) 255 (by decide +kernel)]; decide +kernel) (by rw [clm_all 57896044618658097711785492504343953926634992332820282019728792003956564819949 2 781764 255 (by decide +kernel)]; decide +kernel) (by decide +kernel) (by decide +kernel)
theorem pp_prime : Pr pp := p11
end Nt
theorem inv_mul (x : Nat) (h : ¬ x = 0) (hlt : x < pp) : x * mpow x 57896044618658097711785492504343953926634992332820282019728792003956564819947 % pp = 1 := by
 have h1 := Nt.pp_prime.fermat x (fun hd => by have := Nat.le_of_dvd (by omega) hd; omega)
 have key : ∀ e, e + 1 = pp - 1 → x * mpow x e % pp = 1 := fun e he => by
  unfold mpow
  rw [Nat.mul_mod_mod, Nat.mul_comm, ← Nat.pow_succ, show e.succ = pp - 1 from he]
  exact h1
 exact key _ (by rw [pp_eq])
end Go.Proofs.YtegbnadnodlalaaGreatDoor
namespace Go.Proofs.YtegbnadnodlalaaGreatDoor
/-- What Q = (p - 1) / 4 is known by. -/
structure QOk (Q : Nat) : Prop where
 pp : pp = 4 * Q + 1
 big : 8 < Q
 odd : Q = 2 * 7237005577332262213973186563042994240829374041602535252466099000494570602493 + 1
 half : mpow 2 (2 * Q) = Go.Proofs.YtegbnadnodlalaaGreatDoor.pp - 1
 two : 2 * Q = 28948022309329048855892746252171976963317496166410141009864396001978282409974
theorem clm_half : Nt.clm 57896044618658097711785492504343953926634992332820282019728792003956564819949 2 28948022309329048855892746252171976963317496166410141009864396001978282409974 255 255 = 57896044618658097711785492504343953926634992332820282019728792003956564819948 := by decide +kernel
theorem mpow_clm (e r : Nat) (he : e < 2 ^ 255) (h : Nt.clm 57896044618658097711785492504343953926634992332820282019728792003956564819949 2 e 255 255 = r) : mpow 2 e = r := by
 unfold mpow
 rw [pp_eq, Nt.clm_all _ 2 e 255 he, h]
theorem half_val : mpow 2 28948022309329048855892746252171976963317496166410141009864396001978282409974 = 57896044618658097711785492504343953926634992332820282019728792003956564819948 := mpow_clm _ _ (by decide +kernel) clm_half
theorem qok : QOk 14474011154664524427946373126085988481658748083205070504932198000989141204987 where
 pp := by rw [pp_eq]
 big := by decide +kernel
 odd := by decide +kernel
 half := by
  rw [show 2 * 14474011154664524427946373126085988481658748083205070504932198000989141204987 = 28948022309329048855892746252171976963317496166410141009864396001978282409974 by decide +kernel, half_val, pp_eq]
 two := by decide +kernel
theorem has_Q : ∃ Q, QOk Q ∧ Q = 14474011154664524427946373126085988481658748083205070504932198000989141204987 := ⟨_, qok, rfl⟩
theorem pp_one : 1 < pp := by rw [pp_eq]; decide
theorem not_dvd {x : Nat} (h : x % pp ≠ 0) : ¬ pp ∣ x := fun hd => h (Nat.mod_eq_zero_of_dvd hd)
theorem not_zero {x y : Nat} (hx : x % pp ≠ 0) (hy : y % pp ≠ 0) : x * y % pp ≠ 0 := fun h => by
 rcases Nt.pp_prime.dvd_mul (Nat.dvd_of_mod_eq_zero h) with h1 | h1
 · exact not_dvd hx h1
 · exact not_dvd hy h1
theorem not_zero_pow {x : Nat} (hx : x % pp ≠ 0) : ∀ n, x ^ n % pp ≠ 0
 | 0 => by rw [Nat.pow_zero, Nat.mod_eq_of_lt pp_one]; decide
 | n + 1 => by rw [Nat.pow_succ]; exact not_zero (not_zero_pow hx n) hx
theorem fermat4 {Q x : Nat} (q : QOk Q) (hx : x % pp ≠ 0) : x ^ (4 * Q) % pp = 1 := by
 have h := Nt.pp_prime.fermat x (not_dvd hx)
 have e : pp - 1 = 4 * Q := by have := q.pp; omega
 rw [e] at h
 exact h
/-- A number whose square is 1 is 1 or the one ahead of the prime. -/
theorem sq_one {z : Nat} (hz : z < pp) (h : z * z % pp = 1) : z = 1 ∨ z = pp - 1 := by
 have hp := pp_one
 rcases Nat.eq_zero_or_pos z with h0 | h0
 ·
  subst h0
  simp at h
 ·
  obtain ⟨y, rfl⟩ : ∃ y, z = y + 1 := ⟨z - 1, by omega⟩
  have e : (y + 1) * (y + 1) = y * (y + 2) + 1 := by
   simp only [Nat.add_mul, Nat.mul_add, Nat.mul_one, Nat.one_mul]
   omega
  rw [e] at h
  have hd : pp ∣ y * (y + 2) := by
   have h2 := Nat.sub_mod_eq_zero_of_mod_eq (show (y * (y + 2) + 1) % pp = 1 % pp by rw [h, Nat.mod_eq_of_lt hp])
   exact Nat.dvd_of_mod_eq_zero h2
  rcases Nt.pp_prime.dvd_mul hd with h1 | h1
  ·
   left
   rcases Nat.eq_zero_or_pos y with h2 | h2
   · rw [h2]
   ·
    have := Nat.le_of_dvd h2 h1
    omega
  ·
   right
   have := Nat.le_of_dvd (by omega) h1
   omega
theorem cancel {x a b : Nat} (hx : x % pp ≠ 0) (ha : a < pp) (hb : b < pp) (h : x * a % pp = x * b % pp) : a = b := by
 have key : ∀ a b, a ≤ b → b < pp → x * a % pp = x * b % pp → a = b := fun a b hab hb h => by
  have h1 := Nat.sub_mod_eq_zero_of_mod_eq h.symm
  rw [← Nat.mul_sub] at h1
  rcases Nt.pp_prime.dvd_mul (Nat.dvd_of_mod_eq_zero h1) with h2 | h2
  · exact absurd h2 (not_dvd hx)
  ·
   rcases Nat.eq_zero_or_pos (b - a) with h3 | h3
   · omega
   ·
    have := Nat.le_of_dvd h3 h2
    omega
 rcases Nat.le_total a b with h1 | h1
 · exact key a b h1 hb h
 · exact (key b a h1 ha h.symm).symm
theorem neg_mul (x : Nat) (hx : x < pp) : x * (pp - 1) % pp = (pp - x) % pp := by
 have hp := pp_one
 rcases Nat.eq_zero_or_pos x with h0 | h0
 ·
  subst h0
  simp
 ·
  have e : x * (pp - 1) = (pp - x) + pp * (x - 1) := by
   obtain ⟨y, rfl⟩ : ∃ y, x = y + 1 := ⟨x - 1, by omega⟩
   rw [Nat.mul_sub, Nat.mul_one, Nat.add_sub_cancel, Nat.add_mul, Nat.one_mul, Nat.mul_comm y pp]
   omega
  rw [e, Nat.add_mul_mod_self_left]
theorem neg_neg (x : Nat) (hx : x < pp) : (pp - x) % pp * (pp - 1) % pp = x := by
 rw [neg_mul _ (Nat.mod_lt _ pp_pos)]
 rcases Nat.eq_zero_or_pos x with h0 | h0
 ·
  subst h0
  rw [Nat.sub_zero, Nat.mod_self, Nat.sub_zero, Nat.mod_self]
 · rw [Nat.mod_eq_of_lt (show pp - x < pp by omega), show pp - (pp - x) = x by omega, Nat.mod_eq_of_lt hx]
/-- A root of -1: what the program takes for it. -/
structure IOk (I : Nat) : Prop where
 sq : I * I % pp = pp - 1
 lt : I < pp
 val : I = mpow 2 14474011154664524427946373126085988481658748083205070504932198000989141204987
theorem has_I : ∃ I, IOk I := by
 obtain ⟨Q, q, hQ⟩ := has_Q
 exact ⟨mpow 2 Q, by rw [mpow_double]; exact q.half, mpow_lt _ _, by rw [hQ]⟩
/-! What Root reckons. -/
def rY3 (Y : Nat) : Nat := Y * Y % pp * Y % pp
def rY7 (Y : Nat) : Nat := rY3 Y * rY3 Y % pp * Y % pp
def rRoot (X Y : Nat) : Nat := X * rY3 Y % pp * mpow (X * rY7 Y % pp) 7237005577332262213973186563042994240829374041602535252466099000494570602493 % pp
def rBack (X Y : Nat) : Nat := rRoot X Y * rRoot X Y % pp * Y % pp
def rUnit (Q X Y : Nat) : Nat := (X * Y ^ 7) ^ Q % pp
theorem rY7_eq (X Y : Nat) : X * rY7 Y % pp = X * Y ^ 7 % pp := by
 have e : X * Y ^ 7 = X * (Y * Y * Y * (Y * Y * Y) * Y) := by
  rw [show (7 : Nat) = 0 + 1 + 1 + 1 + 1 + 1 + 1 + 1 from rfl]
  simp only [Nat.pow_succ, Nat.pow_zero, Nat.one_mul, Nat.mul_assoc]
 rw [e]
 unfold rY7 rY3
 simp only [Nat.mod_mul_mod, Nat.mul_mod_mod]
theorem mono (x y t : Nat) : x * (y * y * y) * t * (x * (y * y * y) * t) * y = x * (t * t * (x * (y * y * y * (y * y * y) * y))) := by
 simp only [Nat.mul_assoc, Nat.mul_left_comm, Nat.mul_comm]
theorem rBack_eq {Q : Nat} (q : QOk Q) (X Y : Nat) : rBack X Y = X * rUnit Q X Y % pp := by
 have h7 : X * Y ^ 7 = X * (Y * Y * Y * (Y * Y * Y) * Y) := by
  rw [show (7 : Nat) = 0 + 1 + 1 + 1 + 1 + 1 + 1 + 1 from rfl]
  simp only [Nat.pow_succ, Nat.pow_zero, Nat.one_mul, Nat.mul_assoc]
 have key : ∀ E, Q = 2 * E + 1 → X * rY3 Y % pp * mpow (X * rY7 Y % pp) E % pp * (X * rY3 Y % pp * mpow (X * rY7 Y % pp) E % pp) % pp * Y % pp = X * rUnit Q X Y % pp := fun E hE => by
  have hp : ∀ u : Nat, u ^ (2 * E + 1) = u ^ E * u ^ E * u := fun u => by rw [Nat.pow_succ, Nat.two_mul, Nat.pow_add]
  unfold rUnit
  rw [rY7_eq, hE, hp]
  unfold mpow rY3
  rw [← Nat.pow_mod]
  simp only [Nat.mod_mul_mod, Nat.mul_mod_mod]
  rw [mono, h7]
 exact key _ q.odd
theorem rUnit_lt (Q X Y : Nat) : rUnit Q X Y < pp := Nat.mod_lt _ pp_pos
/-! The answers. -/
def rOk (X Y : Nat) : Bool := decide (rBack X Y = X) || decide (rBack X Y = (pp - X) % pp)
def rV (I X Y : Nat) : Nat := if rBack X Y = X then rRoot X Y else if rBack X Y = (pp - X) % pp then rRoot X Y * I % pp else 0
theorem rV_lt (I X Y : Nat) : rV I X Y < pp := by
 unfold rV
 split
 · exact Nat.mod_lt _ pp_pos
 ·
  split
  · exact Nat.mod_lt _ pp_pos
  · exact pp_pos
/-- What Root finds is a root. -/
theorem rV_sq {I X Y : Nat} (hI : IOk I) (hX : X < pp) (h : rOk X Y = true) : rV I X Y * rV I X Y % pp * Y % pp = X := by
 unfold rOk at h
 rw [Bool.or_eq_true, decide_eq_true_eq, decide_eq_true_eq] at h
 unfold rV
 by_cases h1 : rBack X Y = X
 ·
  rw [if_pos h1]
  exact h1
 ·
  have h2 : rBack X Y = (pp - X) % pp := h.resolve_left h1
  rw [if_neg h1, if_pos h2]
  have e : rRoot X Y * I % pp * (rRoot X Y * I % pp) % pp * Y % pp = rBack X Y * (I * I % pp) % pp := by
   unfold rBack
   simp only [Nat.mod_mul_mod, Nat.mul_mod_mod]
   congr 1
   simp only [Nat.mul_assoc, Nat.mul_left_comm, Nat.mul_comm]
  rw [e, hI.sq, h2]
  exact neg_neg X hX
/-- The unit's square. -/
theorem rUnit_sq (Q X Y : Nat) : rUnit Q X Y * rUnit Q X Y % pp = (X * Y ^ 7) ^ (2 * Q) % pp := by
 unfold rUnit
 rw [← Nat.mul_mod, ← Nat.pow_add, Nat.two_mul]
theorem unit_case {Q X Y : Nat} (q : QOk Q) (hX : X < pp) (hx : X % pp ≠ 0) (hy : Y % pp ≠ 0) :
  (rOk X Y = true ↔ (X * Y ^ 7) ^ (2 * Q) % pp = 1) := by
 have hm : (pp - 1) * (pp - 1) % pp = 1 := by
  rw [neg_mul (pp - 1) (by have := pp_pos; omega), show pp - (pp - 1) = 1 by have := pp_pos; omega, Nat.mod_eq_of_lt pp_one]
 have hpos := pp_pos
 rw [← rUnit_sq]
 constructor
 ·
  intro h
  unfold rOk at h
  rw [Bool.or_eq_true, decide_eq_true_eq, decide_eq_true_eq, rBack_eq q] at h
  have hu : rUnit Q X Y = 1 ∨ rUnit Q X Y = pp - 1 := by
   rcases h with h | h
   ·
    left
    refine cancel hx (rUnit_lt Q X Y) pp_one ?_
    rw [h, Nat.mul_one, Nat.mod_eq_of_lt hX]
   ·
    right
    refine cancel hx (rUnit_lt Q X Y) (by omega) ?_
    rw [h, neg_mul X hX]
  rcases hu with hu | hu
  · rw [hu, Nat.mul_one, Nat.mod_eq_of_lt pp_one]
  · rw [hu, hm]
 ·
  intro h
  unfold rOk
  rw [Bool.or_eq_true, decide_eq_true_eq, decide_eq_true_eq, rBack_eq q]
  rcases sq_one (rUnit_lt Q X Y) h with hu | hu
  ·
   left
   rw [hu, Nat.mul_one, Nat.mod_eq_of_lt hX]
  ·
   right
   rw [hu, neg_mul X hX]
theorem rBack_zero (Y : Nat) : rBack 0 Y = 0 := by rw [rBack_eq qok, Nat.zero_mul, Nat.zero_mod]
theorem rOk_zero (Y : Nat) : rOk 0 Y = true := by
 unfold rOk
 rw [rBack_zero]
 rfl
end Go.Proofs.YtegbnadnodlalaaGreatDoor
