/- Roots modulo 2^255 - 19: which numbers have one, and that the program's reckoning finds it. -/
import Derived.Test.YtegbnadnodlalaaDoorGNb0GNa
import Derived.Test.YtegbnadnodlalaaDoorGFk0Le
namespace Go.Proofs.YtegbnadnodlalaaDoor
/-- What Q = (p - 1) / 4 is known by. -/
structure QOk (Q : Nat) : Prop where
  pp : pp = 4 * Q + 1
  big : 8 < Q
  odd : Q = 2 * 7237005577332262213973186563042994240829374041602535252466099000494570602493 + 1
  half : mpow 2 (2 * Q) = Go.Proofs.YtegbnadnodlalaaDoor.pp - 1
  two : 2 * Q = 28948022309329048855892746252171976963317496166410141009864396001978282409974
theorem clm_half : Nt.clm 57896044618658097711785492504343953926634992332820282019728792003956564819949 2 28948022309329048855892746252171976963317496166410141009864396001978282409974 255 255 = 57896044618658097711785492504343953926634992332820282019728792003956564819948 := by decide +kernel
theorem mpow_clm (e r : Nat) (he : e < 2 ^ 255) (h : Nt.clm 57896044618658097711785492504343953926634992332820282019728792003956564819949 2 e 255 255 = r) : mpow 2 e = r := by
  unfold mpow
  rw [pp_eq, Nt.clm_all _ 2 e 255 he, h]
theorem half_val : mpow 2 28948022309329048855892746252171976963317496166410141009864396001978282409974 = 57896044618658097711785492504343953926634992332820282019728792003956564819948 := mpow_clm _ _ (by decide +kernel) clm_half
theorem qok : QOk 14474011154664524427946373126085988481658748083205070504932198000989141204987 where
  pp := by rw [pp_eq]
  big := by decide +kernel
  odd := by decide +kernel
  half := by
    rw [show 2 * 14474011154664524427946373126085988481658748083205070504932198000989141204987 = 28948022309329048855892746252171976963317496166410141009864396001978282409974 by decide +kernel, half_val, pp_eq]
  two := by decide +kernel
theorem has_Q : ∃ Q, QOk Q ∧ Q = 14474011154664524427946373126085988481658748083205070504932198000989141204987 := ⟨_, qok, rfl⟩
theorem pp_one : 1 < pp := by rw [pp_eq]; decide
theorem not_dvd {x : Nat} (h : x % pp ≠ 0) : ¬ pp ∣ x := fun hd => h (Nat.mod_eq_zero_of_dvd hd)
theorem not_zero {x y : Nat} (hx : x % pp ≠ 0) (hy : y % pp ≠ 0) : x * y % pp ≠ 0 := fun h => by
  rcases Nt.pp_prime.dvd_mul (Nat.dvd_of_mod_eq_zero h) with h1 | h1
  · exact not_dvd hx h1
  · exact not_dvd hy h1
theorem not_zero_pow {x : Nat} (hx : x % pp ≠ 0) : ∀ n, x ^ n % pp ≠ 0
  | 0 => by rw [Nat.pow_zero, Nat.mod_eq_of_lt pp_one]; decide
  | n + 1 => by rw [Nat.pow_succ]; exact not_zero (not_zero_pow hx n) hx
theorem fermat4 {Q x : Nat} (q : QOk Q) (hx : x % pp ≠ 0) : x ^ (4 * Q) % pp = 1 := by
  have h := Nt.pp_prime.fermat x (not_dvd hx)
  have e : pp - 1 = 4 * Q := by have := q.pp; omega
  rw [e] at h
  exact h
/-- A number whose square is 1 is 1 or the one ahead of the prime. -/
theorem sq_one {z : Nat} (hz : z < pp) (h : z * z % pp = 1) : z = 1 ∨ z = pp - 1 := by
  have hp := pp_one
  rcases Nat.eq_zero_or_pos z with h0 | h0
  · subst h0
    simp at h
  · obtain ⟨y, rfl⟩ : ∃ y, z = y + 1 := ⟨z - 1, by omega⟩
    have e : (y + 1) * (y + 1) = y * (y + 2) + 1 := by
      simp only [Nat.add_mul, Nat.mul_add, Nat.mul_one, Nat.one_mul]
      omega
    rw [e] at h
    have hd : pp ∣ y * (y + 2) := by
      have h2 := Nat.sub_mod_eq_zero_of_mod_eq (show (y * (y + 2) + 1) % pp = 1 % pp by rw [h, Nat.mod_eq_of_lt hp])
      exact Nat.dvd_of_mod_eq_zero h2
    rcases Nt.pp_prime.dvd_mul hd with h1 | h1
    · left
      rcases Nat.eq_zero_or_pos y with h2 | h2
      · rw [h2]
      · have := Nat.le_of_dvd h2 h1
        omega
    · right
      have := Nat.le_of_dvd (by omega) h1
      omega
theorem cancel {x a b : Nat} (hx : x % pp ≠ 0) (ha : a < pp) (hb : b < pp) (h : x * a % pp = x * b % pp) : a = b := by
  have key : ∀ a b, a ≤ b → b < pp → x * a % pp = x * b % pp → a = b := fun a b hab hb h => by
    have h1 := Nat.sub_mod_eq_zero_of_mod_eq h.symm
    rw [← Nat.mul_sub] at h1
    rcases Nt.pp_prime.dvd_mul (Nat.dvd_of_mod_eq_zero h1) with h2 | h2
    · exact absurd h2 (not_dvd hx)
    · rcases Nat.eq_zero_or_pos (b - a) with h3 | h3
      · omega
      · have := Nat.le_of_dvd h3 h2
        omega
  rcases Nat.le_total a b with h1 | h1
  · exact key a b h1 hb h
  · exact (key b a h1 ha h.symm).symm
theorem neg_mul (x : Nat) (hx : x < pp) : x * (pp - 1) % pp = (pp - x) % pp := by
  have hp := pp_one
  rcases Nat.eq_zero_or_pos x with h0 | h0
  · subst h0
    simp
  · have e : x * (pp - 1) = (pp - x) + pp * (x - 1) := by
      obtain ⟨y, rfl⟩ : ∃ y, x = y + 1 := ⟨x - 1, by omega⟩
      rw [Nat.mul_sub, Nat.mul_one, Nat.add_sub_cancel, Nat.add_mul, Nat.one_mul, Nat.mul_comm y pp]
      omega
    rw [e, Nat.add_mul_mod_self_left]
theorem neg_neg (x : Nat) (hx : x < pp) : (pp - x) % pp * (pp - 1) % pp = x := by
  rw [neg_mul _ (Nat.mod_lt _ pp_pos)]
  rcases Nat.eq_zero_or_pos x with h0 | h0
  · subst h0
    rw [Nat.sub_zero, Nat.mod_self, Nat.sub_zero, Nat.mod_self]
  · rw [Nat.mod_eq_of_lt (show pp - x < pp by omega), show pp - (pp - x) = x by omega, Nat.mod_eq_of_lt hx]
/-- A root of -1: what the program takes for it. -/
structure IOk (I : Nat) : Prop where
  sq : I * I % pp = pp - 1
  lt : I < pp
  val : I = mpow 2 14474011154664524427946373126085988481658748083205070504932198000989141204987
theorem has_I : ∃ I, IOk I := by
  obtain ⟨Q, q, hQ⟩ := has_Q
  exact ⟨mpow 2 Q, by rw [mpow_double]; exact q.half, mpow_lt _ _, by rw [hQ]⟩
/-! What Root reckons. -/
def rY3 (Y : Nat) : Nat := Y * Y % pp * Y % pp
def rY7 (Y : Nat) : Nat := rY3 Y * rY3 Y % pp * Y % pp
def rRoot (X Y : Nat) : Nat := X * rY3 Y % pp * mpow (X * rY7 Y % pp) 7237005577332262213973186563042994240829374041602535252466099000494570602493 % pp
def rBack (X Y : Nat) : Nat := rRoot X Y * rRoot X Y % pp * Y % pp
def rUnit (Q X Y : Nat) : Nat := (X * Y ^ 7) ^ Q % pp
theorem rY7_eq (X Y : Nat) : X * rY7 Y % pp = X * Y ^ 7 % pp := by
  have e : X * Y ^ 7 = X * (Y * Y * Y * (Y * Y * Y) * Y) := by
    rw [show (7 : Nat) = 0 + 1 + 1 + 1 + 1 + 1 + 1 + 1 from rfl]
    simp only [Nat.pow_succ, Nat.pow_zero, Nat.one_mul, Nat.mul_assoc]
  rw [e]
  unfold rY7 rY3
  simp only [Nat.mod_mul_mod, Nat.mul_mod_mod]
theorem mono (x y t : Nat) : x * (y * y * y) * t * (x * (y * y * y) * t) * y = x * (t * t * (x * (y * y * y * (y * y * y) * y))) := by
  simp only [Nat.mul_assoc, Nat.mul_left_comm, Nat.mul_comm]
theorem rBack_eq {Q : Nat} (q : QOk Q) (X Y : Nat) : rBack X Y = X * rUnit Q X Y % pp := by
  have h7 : X * Y ^ 7 = X * (Y * Y * Y * (Y * Y * Y) * Y) := by
    rw [show (7 : Nat) = 0 + 1 + 1 + 1 + 1 + 1 + 1 + 1 from rfl]
    simp only [Nat.pow_succ, Nat.pow_zero, Nat.one_mul, Nat.mul_assoc]
  have key : ∀ E, Q = 2 * E + 1 → X * rY3 Y % pp * mpow (X * rY7 Y % pp) E % pp * (X * rY3 Y % pp * mpow (X * rY7 Y % pp) E % pp) % pp * Y % pp = X * rUnit Q X Y % pp := fun E hE => by
    have hp : ∀ u : Nat, u ^ (2 * E + 1) = u ^ E * u ^ E * u := fun u => by rw [Nat.pow_succ, Nat.two_mul, Nat.pow_add]
    unfold rUnit
    rw [rY7_eq, hE, hp]
    unfold mpow rY3
    rw [← Nat.pow_mod]
    simp only [Nat.mod_mul_mod, Nat.mul_mod_mod]
    rw [mono, h7]
  exact key _ q.odd
theorem rUnit_lt (Q X Y : Nat) : rUnit Q X Y < pp := Nat.mod_lt _ pp_pos
/-! The answers. -/
def rOk (X Y : Nat) : Bool := decide (rBack X Y = X) || decide (rBack X Y = (pp - X) % pp)
def rV (I X Y : Nat) : Nat := if rBack X Y = X then rRoot X Y else if rBack X Y = (pp - X) % pp then rRoot X Y * I % pp else 0
theorem rV_lt (I X Y : Nat) : rV I X Y < pp := by
  unfold rV
  split
  · exact Nat.mod_lt _ pp_pos
  · split
    · exact Nat.mod_lt _ pp_pos
    · exact pp_pos
/-- What Root finds is a root. -/
theorem rV_sq {I X Y : Nat} (hI : IOk I) (hX : X < pp) (h : rOk X Y = true) : rV I X Y * rV I X Y % pp * Y % pp = X := by
  unfold rOk at h
  rw [Bool.or_eq_true, decide_eq_true_eq, decide_eq_true_eq] at h
  unfold rV
  by_cases h1 : rBack X Y = X
  · rw [if_pos h1]
    exact h1
  · have h2 : rBack X Y = (pp - X) % pp := h.resolve_left h1
    rw [if_neg h1, if_pos h2]
    have e : rRoot X Y * I % pp * (rRoot X Y * I % pp) % pp * Y % pp = rBack X Y * (I * I % pp) % pp := by
      unfold rBack
      simp only [Nat.mod_mul_mod, Nat.mul_mod_mod]
      congr 1
      simp only [Nat.mul_assoc, Nat.mul_left_comm, Nat.mul_comm]
    rw [e, hI.sq, h2]
    exact neg_neg X hX
/-- The unit's square. -/
theorem rUnit_sq (Q X Y : Nat) : rUnit Q X Y * rUnit Q X Y % pp = (X * Y ^ 7) ^ (2 * Q) % pp := by
  unfold rUnit
  rw [← Nat.mul_mod, ← Nat.pow_add, Nat.two_mul]
theorem unit_case {Q X Y : Nat} (q : QOk Q) (hX : X < pp) (hx : X % pp ≠ 0) (hy : Y % pp ≠ 0) :
    (rOk X Y = true ↔ (X * Y ^ 7) ^ (2 * Q) % pp = 1) := by
  have hm : (pp - 1) * (pp - 1) % pp = 1 := by
    rw [neg_mul (pp - 1) (by have := pp_pos; omega), show pp - (pp - 1) = 1 by have := pp_pos; omega, Nat.mod_eq_of_lt pp_one]
  have hpos := pp_pos
  rw [← rUnit_sq]
  constructor
  · intro h
    unfold rOk at h
    rw [Bool.or_eq_true, decide_eq_true_eq, decide_eq_true_eq, rBack_eq q] at h
    have hu : rUnit Q X Y = 1 ∨ rUnit Q X Y = pp - 1 := by
      rcases h with h | h
      · left
        refine cancel hx (rUnit_lt Q X Y) pp_one ?_
        rw [h, Nat.mul_one, Nat.mod_eq_of_lt hX]
      · right
        refine cancel hx (rUnit_lt Q X Y) (by omega) ?_
        rw [h, neg_mul X hX]
    rcases hu with hu | hu
    · rw [hu, Nat.mul_one, Nat.mod_eq_of_lt pp_one]
    · rw [hu, hm]
  · intro h
    unfold rOk
    rw [Bool.or_eq_true, decide_eq_true_eq, decide_eq_true_eq, rBack_eq q]
    rcases sq_one (rUnit_lt Q X Y) h with hu | hu
    · left
      rw [hu, Nat.mul_one, Nat.mod_eq_of_lt hX]
    · right
      rw [hu, neg_mul X hX]
theorem rBack_zero (Y : Nat) : rBack 0 Y = 0 := by rw [rBack_eq qok, Nat.zero_mul, Nat.zero_mod]
theorem rOk_zero (Y : Nat) : rOk 0 Y = true := by
  unfold rOk
  rw [rBack_zero]
  rfl
end Go.Proofs.YtegbnadnodlalaaDoor
