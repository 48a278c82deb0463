/- 2^255 - 19 is prime; a number other than 0 times its power p - 2 is 1. -/
import Derived.Test.YtmceebdaaegkeaaDoorNd
import Derived.Test.YtmceebdaaegkeaaDoorFk
import Derived.Test.YtmceebdaaegkeaaDoorFm
namespace Go.Proofs.YtmceebdaaegkeaaDoor
namespace Nt
theorem p0 : Pr 127 := prime_small 127 10 (by decide) (by decide +kernel) (by decide)
theorem p1 : Pr 8574133 := prime_small 8574133 2927 (by decide) (by decide +kernel) (by decide)
theorem p2 : Pr 1919519569386763 := prime_two (q := 8574133) (r := 127) (m := 223873314) (k := 15114327318006) (a := 2) (b := 2) p1 p0 (by decide +kernel) (by decide +kernel) (by decide +kernel) (by rw [clm_all 1919519569386763 2 (8574133 * 223873314) 51 (by decide +kernel)]; decide +kernel) (by rw [clm_all 1919519569386763 2 223873314 51 (by decide +kernel)]; decide +kernel) (by rw [clm_all 1919519569386763 2 (127 * 15114327318006) 51 (by decide +kernel)]; decide +kernel) (by rw [clm_all 1919519569386763 2 15114327318006 51 (by decide +kernel)]; decide +kernel) (by decide +kernel) (by decide +kernel)
theorem p3 : Pr 569003 := prime_small 569003 753 (by decide) (by decide +kernel) (by decide)
theorem p4 : Pr 2773320623 := prime_one (q := 569003) (m := 4874) (a := 2) p3 (by decide +kernel) (by rw [clm_all 2773320623 2 (569003 * 4874) 32 (by decide +kernel)]; decide +kernel) (by rw [clm_all 2773320623 2 4874 32 (by decide +kernel)]; decide +kernel) (by decide +kernel) (by decide +kernel)
theorem p5 : Pr 72106336199 := prime_one (q := 2773320623) (m := 26) (a := 2) p4 (by decide +kernel) (by rw [clm_all 72106336199 2 (2773320623 * 26) 37 (by decide +kernel)]; decide +kernel) (by rw [clm_all 72106336199 2 26 37 (by decide +kernel)]; decide +kernel) (by decide +kernel) (by decide +kernel)
theorem p6 : Pr 75445702479781427272750846543864801 := prime_two (q := 1919519569386763) (r := 72106336199) (m := 39304471641247389600) (k := 1046311689884858398375200) (a := 2) (b := 2) p2 p5 (by decide +kernel) (by decide +kernel) (by decide +kernel) (by rw [clm_all 75445702479781427272750846543864801 2 (1919519569386763 * 39304471641247389600) 116 (by decide +kernel)]; decide +kernel) (by rw [clm_all 75445702479781427272750846543864801 2 39304471641247389600 116 (by decide +kernel)]; decide +kernel) (by rw [clm_all 75445702479781427272750846543864801 2 (72106336199 * 1046311689884858398375200) 116 (by decide +kernel)]; decide +kernel) (by rw [clm_all 75445702479781427272750846543864801 2 1046311689884858398375200 116 (by decide +kernel)]; decide +kernel) (by decide +kernel) (by decide +kernel)
theorem p7 : Pr 430751 := prime_small 430751 655 (by decide) (by decide +kernel) (by decide)
theorem p8 : Pr 4153 := prime_small 4153 63 (by decide) (by decide +kernel) (by decide)
theorem p9 : Pr 31757755568855353 := prime_two (q := 430751) (r := 4153) (m := 73726481352) (k := 7646943310584) (a := 2) (b := 2) p7 p8 (by decide +kernel) (by decide +kernel) (by decide +kernel) (by rw [clm_all 31757755568855353 2 (430751 * 73726481352) 55 (by decide +kernel)]; decide +kernel) (by rw [clm_all 31757755568855353 2 73726481352 55 (by decide +kernel)]; decide +kernel) (by rw [clm_all 31757755568855353 2 (4153 * 7646943310584) 55 (by decide +kernel)]; decide +kernel) (by rw [clm_all 31757755568855353 2 7646943310584 55 (by decide +kernel)]; decide +kernel) (by decide +kernel) (by decide +kernel)
theorem p10 : Pr 74058212732561358302231226437062788676166966415465897661863160754340907 := prime_two (q := 75445702479781427272750846543864801) (r := 31757755568855353) (m := 981609426360740691344999861639072106) (k := 2331972502653487852620185443007392165117953542933313402) (a := 2) (b := 2) p6 p9 (by decide +kernel) (by decide +kernel) (by decide +kernel) (by rw [clm_all 74058212732561358302231226437062788676166966415465897661863160754340907 2 (75445702479781427272750846543864801 * 981609426360740691344999861639072106) 236 (by decide +kernel)]; decide +kernel) (by rw [clm_all 74058212732561358302231226437062788676166966415465897661863160754340907 2 981609426360740691344999861639072106 236 (by decide +kernel)]; decide +kernel) (by rw [clm_all 74058212732561358302231226437062788676166966415465897661863160754340907 2 (31757755568855353 * 2331972502653487852620185443007392165117953542933313402) 236 (by decide +kernel)]; decide +kernel) (by rw [clm_all 74058212732561358302231226437062788676166966415465897661863160754340907 2 2331972502653487852620185443007392165117953542933313402 236 (by decide +kernel)]; decide +kernel) (by decide +kernel) (by decide +kernel)
theorem p11 : Pr 57896044618658097711785492504343953926634992332820282019728792003956564819949 := prime_one (q := 74058212732561358302231226437062788676166966415465897661863160754340907) (m := 781764) (a := 2) p10 (by decide +kernel) (by rw [clm_all 57896044618658097711785492504343953926634992332820282019728792003956564819949 2 (74058212732561358302231226437062788676166966415465897661863160754340907 * 781764) 255 (by decide +kernel)]; decide +kernel) (by rw [clm_all 57896044618658097711785492504343953926634992332820282019728792003956564819949 2 781764 255 (by decide +kernel)]; decide +kernel) (by decide +kernel) (by decide +kernel)
theorem pp_prime : Pr pp := p11
end Nt
theorem inv_mul (x : Nat) (h : ¬ x = 0) (hlt : x < pp) : x * mpow x 57896044618658097711785492504343953926634992332820282019728792003956564819947 % pp = 1 := by
  have h1 := Nt.pp_prime.fermat x (fun hd => by have := Nat.le_of_dvd (by omega) hd; omega)
  have key : ∀ e, e + 1 = pp - 1 → x * mpow x e % pp = 1 := fun e he => by
    unfold mpow
    rw [Nat.mul_mod_mod, Nat.mul_comm, ← Nat.pow_succ, show e.succ = pp - 1 from he]
    exact h1
  exact key _ (by rw [pp_eq])

end Go.Proofs.YtmceebdaaegkeaaDoor
/- Roots modulo 2^255 - 19: which numbers have one, and that the program's reckoning finds it. -/
namespace Go.Proofs.YtmceebdaaegkeaaDoor

/-- What Q = (p - 1) / 4 is known by. -/
structure QOk (Q : Nat) : Prop where
  pp : pp = 4 * Q + 1
  big : 8 < Q
  odd : Q = 2 * 7237005577332262213973186563042994240829374041602535252466099000494570602493 + 1
  half : mpow 2 (2 * Q) = Go.Proofs.YtmceebdaaegkeaaDoor.pp - 1
  two : 2 * Q = 28948022309329048855892746252171976963317496166410141009864396001978282409974
theorem clm_half : Nt.clm 57896044618658097711785492504343953926634992332820282019728792003956564819949 2 28948022309329048855892746252171976963317496166410141009864396001978282409974 255 255 = 57896044618658097711785492504343953926634992332820282019728792003956564819948 := by decide +kernel
theorem mpow_clm (e r : Nat) (he : e < 2 ^ 255) (h : Nt.clm 57896044618658097711785492504343953926634992332820282019728792003956564819949 2 e 255 255 = r) : mpow 2 e = r := by
  unfold mpow
  rw [pp_eq, Nt.clm_all _ 2 e 255 he, h]
theorem half_val : mpow 2 28948022309329048855892746252171976963317496166410141009864396001978282409974 = 57896044618658097711785492504343953926634992332820282019728792003956564819948 := mpow_clm _ _ (by decide +kernel) clm_half
theorem qok : QOk 14474011154664524427946373126085988481658748083205070504932198000989141204987 where
  pp := by rw [pp_eq]
  big := by decide +kernel
  odd := by decide +kernel
  half := by
    rw [show 2 * 14474011154664524427946373126085988481658748083205070504932198000989141204987 = 28948022309329048855892746252171976963317496166410141009864396001978282409974 by decide +kernel, half_val, pp_eq]
  two := by decide +kernel
theorem has_Q : ∃ Q, QOk Q ∧ Q = 14474011154664524427946373126085988481658748083205070504932198000989141204987 := ⟨_, qok, rfl⟩
theorem pp_one : 1 < pp := by rw [pp_eq]; decide
theorem pp_two : 2 < pp := by rw [pp_eq]; decide
theorem not_dvd {x : Nat} (h : x % pp ≠ 0) : ¬ pp ∣ x := fun hd => h (Nat.mod_eq_zero_of_dvd hd)
theorem not_zero {x y : Nat} (hx : x % pp ≠ 0) (hy : y % pp ≠ 0) : x * y % pp ≠ 0 := fun h => by
  rcases Nt.pp_prime.dvd_mul (Nat.dvd_of_mod_eq_zero h) with h1 | h1
  · exact not_dvd hx h1
  · exact not_dvd hy h1
theorem not_zero_pow {x : Nat} (hx : x % pp ≠ 0) : ∀ n, x ^ n % pp ≠ 0
  | 0 => by rw [Nat.pow_zero, Nat.mod_eq_of_lt pp_one]; decide
  | n + 1 => by rw [Nat.pow_succ]; exact not_zero (not_zero_pow hx n) hx
theorem fermat4 {Q x : Nat} (q : QOk Q) (hx : x % pp ≠ 0) : x ^ (4 * Q) % pp = 1 := by
  have h := Nt.pp_prime.fermat x (not_dvd hx)
  have e : pp - 1 = 4 * Q := by have := q.pp; omega
  rw [e] at h
  exact h
/-- A number whose square is 1 is 1 or the one ahead of the prime. -/
theorem sq_one {z : Nat} (hz : z < pp) (h : z * z % pp = 1) : z = 1 ∨ z = pp - 1 := by
  have hp := pp_one
  rcases Nat.eq_zero_or_pos z with h0 | h0
  · subst h0
    simp at h
  · obtain ⟨y, rfl⟩ : ∃ y, z = y + 1 := ⟨z - 1, by omega⟩
    have e : (y + 1) * (y + 1) = y * (y + 2) + 1 := by
      simp only [Nat.add_mul, Nat.mul_add, Nat.mul_one, Nat.one_mul]
      omega
    rw [e] at h
    have hd : pp ∣ y * (y + 2) := by
      have h2 := Nat.sub_mod_eq_zero_of_mod_eq (show (y * (y + 2) + 1) % pp = 1 % pp by rw [h, Nat.mod_eq_of_lt hp])
      exact Nat.dvd_of_mod_eq_zero h2
    rcases Nt.pp_prime.dvd_mul hd with h1 | h1
    · left
      rcases Nat.eq_zero_or_pos y with h2 | h2
      · rw [h2]
      · have := Nat.le_of_dvd h2 h1
        omega
    · right
      have := Nat.le_of_dvd (by omega) h1
      omega
theorem cancel {x a b : Nat} (hx : x % pp ≠ 0) (ha : a < pp) (hb : b < pp) (h : x * a % pp = x * b % pp) : a = b := by
  have key : ∀ a b, a ≤ b → b < pp → x * a % pp = x * b % pp → a = b := fun a b hab hb h => by
    have h1 := Nat.sub_mod_eq_zero_of_mod_eq h.symm
    rw [← Nat.mul_sub] at h1
    rcases Nt.pp_prime.dvd_mul (Nat.dvd_of_mod_eq_zero h1) with h2 | h2
    · exact absurd h2 (not_dvd hx)
    · rcases Nat.eq_zero_or_pos (b - a) with h3 | h3
      · omega
      · have := Nat.le_of_dvd h3 h2
        omega
  rcases Nat.le_total a b with h1 | h1
  · exact key a b h1 hb h
  · exact (key b a h1 ha h.symm).symm
theorem neg_mul (x : Nat) (hx : x < pp) : x * (pp - 1) % pp = (pp - x) % pp := by
  have hp := pp_one
  rcases Nat.eq_zero_or_pos x with h0 | h0
  · subst h0
    simp
  · have e : x * (pp - 1) = (pp - x) + pp * (x - 1) := by
      obtain ⟨y, rfl⟩ : ∃ y, x = y + 1 := ⟨x - 1, by omega⟩
      rw [Nat.mul_sub, Nat.mul_one, Nat.add_sub_cancel, Nat.add_mul, Nat.one_mul, Nat.mul_comm y pp]
      omega
    rw [e, Nat.add_mul_mod_self_left]
theorem neg_neg (x : Nat) (hx : x < pp) : (pp - x) % pp * (pp - 1) % pp = x := by
  rw [neg_mul _ (Nat.mod_lt _ pp_pos)]
  rcases Nat.eq_zero_or_pos x with h0 | h0
  · subst h0
    rw [Nat.sub_zero, Nat.mod_self, Nat.sub_zero, Nat.mod_self]
  · rw [Nat.mod_eq_of_lt (show pp - x < pp by omega), show pp - (pp - x) = x by omega, Nat.mod_eq_of_lt hx]

/-- A root of -1: what the program takes for it. -/
structure IOk (I : Nat) : Prop where
  sq : I * I % pp = pp - 1
  lt : I < pp
  val : I = mpow 2 14474011154664524427946373126085988481658748083205070504932198000989141204987
theorem has_I : ∃ I, IOk I := by
  obtain ⟨Q, q, hQ⟩ := has_Q
  exact ⟨mpow 2 Q, by rw [mpow_double]; exact q.half, mpow_lt _ _, by rw [hQ]⟩

/-! What Root reckons. -/
def rY3 (Y : Nat) : Nat := Y * Y % pp * Y % pp
def rY7 (Y : Nat) : Nat := rY3 Y * rY3 Y % pp * Y % pp
def rRoot (X Y : Nat) : Nat := X * rY3 Y % pp * mpow (X * rY7 Y % pp) 7237005577332262213973186563042994240829374041602535252466099000494570602493 % pp
def rBack (X Y : Nat) : Nat := rRoot X Y * rRoot X Y % pp * Y % pp
def rUnit (Q X Y : Nat) : Nat := (X * Y ^ 7) ^ Q % pp
theorem rY7_eq (X Y : Nat) : X * rY7 Y % pp = X * Y ^ 7 % pp := by
  have e : X * Y ^ 7 = X * (Y * Y * Y * (Y * Y * Y) * Y) := by
    rw [show (7 : Nat) = 0 + 1 + 1 + 1 + 1 + 1 + 1 + 1 from rfl]
    simp only [Nat.pow_succ, Nat.pow_zero, Nat.one_mul, Nat.mul_assoc]
  rw [e]
  unfold rY7 rY3
  simp only [Nat.mod_mul_mod, Nat.mul_mod_mod]
theorem mono (x y t : Nat) : x * (y * y * y) * t * (x * (y * y * y) * t) * y = x * (t * t * (x * (y * y * y * (y * y * y) * y))) := by
  simp only [Nat.mul_assoc, Nat.mul_left_comm, Nat.mul_comm]
theorem rBack_eq {Q : Nat} (q : QOk Q) (X Y : Nat) : rBack X Y = X * rUnit Q X Y % pp := by
  have h7 : X * Y ^ 7 = X * (Y * Y * Y * (Y * Y * Y) * Y) := by
    rw [show (7 : Nat) = 0 + 1 + 1 + 1 + 1 + 1 + 1 + 1 from rfl]
    simp only [Nat.pow_succ, Nat.pow_zero, Nat.one_mul, Nat.mul_assoc]
  have key : ∀ E, Q = 2 * E + 1 → X * rY3 Y % pp * mpow (X * rY7 Y % pp) E % pp * (X * rY3 Y % pp * mpow (X * rY7 Y % pp) E % pp) % pp * Y % pp = X * rUnit Q X Y % pp := fun E hE => by
    have hp : ∀ u : Nat, u ^ (2 * E + 1) = u ^ E * u ^ E * u := fun u => by rw [Nat.pow_succ, Nat.two_mul, Nat.pow_add]
    unfold rUnit
    rw [rY7_eq, hE, hp]
    unfold mpow rY3
    rw [← Nat.pow_mod]
    simp only [Nat.mod_mul_mod, Nat.mul_mod_mod]
    rw [mono, h7]
  exact key _ q.odd
theorem rUnit_lt (Q X Y : Nat) : rUnit Q X Y < pp := Nat.mod_lt _ pp_pos
theorem rBack_lt (X Y : Nat) : rBack X Y < pp := Nat.mod_lt _ pp_pos

/-! The answers. -/
def rOk (X Y : Nat) : Bool := decide (rBack X Y = X) || decide (rBack X Y = (pp - X) % pp)
def rV (I X Y : Nat) : Nat := if rBack X Y = X then rRoot X Y else if rBack X Y = (pp - X) % pp then rRoot X Y * I % pp else 0
theorem rV_lt (I X Y : Nat) : rV I X Y < pp := by
  unfold rV
  split
  · exact Nat.mod_lt _ pp_pos
  · split
    · exact Nat.mod_lt _ pp_pos
    · exact pp_pos
theorem rV_off {I X Y : Nat} (h : rOk X Y = false) : rV I X Y = 0 := by
  unfold rOk at h
  rw [Bool.or_eq_false_iff, decide_eq_false_iff_not, decide_eq_false_iff_not] at h
  unfold rV
  rw [if_neg h.1, if_neg h.2]
/-- What Root finds is a root. -/
theorem rV_sq {I X Y : Nat} (hI : IOk I) (hX : X < pp) (h : rOk X Y = true) : rV I X Y * rV I X Y % pp * Y % pp = X := by
  unfold rOk at h
  rw [Bool.or_eq_true, decide_eq_true_eq, decide_eq_true_eq] at h
  unfold rV
  by_cases h1 : rBack X Y = X
  · rw [if_pos h1]
    exact h1
  · have h2 : rBack X Y = (pp - X) % pp := h.resolve_left h1
    rw [if_neg h1, if_pos h2]
    have e : rRoot X Y * I % pp * (rRoot X Y * I % pp) % pp * Y % pp = rBack X Y * (I * I % pp) % pp := by
      unfold rBack
      simp only [Nat.mod_mul_mod, Nat.mul_mod_mod]
      congr 1
      simp only [Nat.mul_assoc, Nat.mul_left_comm, Nat.mul_comm]
    rw [e, hI.sq, h2]
    exact neg_neg X hX
theorem one_ne : (1 : Nat) ≠ pp - 1 := by have := pp_two; omega
/-- The unit's square. -/
theorem rUnit_sq (Q X Y : Nat) : rUnit Q X Y * rUnit Q X Y % pp = (X * Y ^ 7) ^ (2 * Q) % pp := by
  unfold rUnit
  rw [← Nat.mul_mod, ← Nat.pow_add, Nat.two_mul]
theorem unit_case {Q X Y : Nat} (q : QOk Q) (hX : X < pp) (hx : X % pp ≠ 0) (hy : Y % pp ≠ 0) :
    (rOk X Y = true ↔ (X * Y ^ 7) ^ (2 * Q) % pp = 1) := by
  have hm : (pp - 1) * (pp - 1) % pp = 1 := by
    rw [neg_mul (pp - 1) (by have := pp_pos; omega), show pp - (pp - 1) = 1 by have := pp_pos; omega, Nat.mod_eq_of_lt pp_one]
  have hpos := pp_pos
  rw [← rUnit_sq]
  constructor
  · intro h
    unfold rOk at h
    rw [Bool.or_eq_true, decide_eq_true_eq, decide_eq_true_eq, rBack_eq q] at h
    have hu : rUnit Q X Y = 1 ∨ rUnit Q X Y = pp - 1 := by
      rcases h with h | h
      · left
        refine cancel hx (rUnit_lt Q X Y) pp_one ?_
        rw [h, Nat.mul_one, Nat.mod_eq_of_lt hX]
      · right
        refine cancel hx (rUnit_lt Q X Y) (by omega) ?_
        rw [h, neg_mul X hX]
    rcases hu with hu | hu
    · rw [hu, Nat.mul_one, Nat.mod_eq_of_lt pp_one]
    · rw [hu, hm]
  · intro h
    unfold rOk
    rw [Bool.or_eq_true, decide_eq_true_eq, decide_eq_true_eq, rBack_eq q]
    rcases sq_one (rUnit_lt Q X Y) h with hu | hu
    · left
      rw [hu, Nat.mul_one, Nat.mod_eq_of_lt hX]
    · right
      rw [hu, neg_mul X hX]
theorem rBack_zero (Y : Nat) : rBack 0 Y = 0 := by rw [rBack_eq qok, Nat.zero_mul, Nat.zero_mod]
theorem rOk_zero (Y : Nat) : rOk 0 Y = true := by
  unfold rOk
  rw [rBack_zero]
  rfl
theorem rOk_none {X : Nat} (hX : X < pp) (hx : X ≠ 0) : rOk X 0 = false := by
  have hb : rBack X 0 = 0 := by unfold rBack; rw [Nat.mul_zero, Nat.zero_mod]
  unfold rOk
  rw [hb, Bool.or_eq_false_iff, decide_eq_false_iff_not, decide_eq_false_iff_not, Nat.mod_eq_of_lt (show pp - X < pp by omega)]
  exact ⟨fun h => hx h.symm, by omega⟩
/-- What the reference asks: the number's power (p - 1) / 2. -/
def rSquare (A : Nat) : Bool := decide (mpow A 28948022309329048855892746252171976963317496166410141009864396001978282409974 = 1) || decide (mpow A 28948022309329048855892746252171976963317496166410141009864396001978282409974 = 0)
theorem over_pow {Q X Y : Nat} (q : QOk Q) (hy : Y % pp ≠ 0) : mpow (X * mpow Y (pp - 2) % pp) (2 * Q) = (X * Y ^ 7) ^ (2 * Q) % pp := by
  have hf := fermat4 q hy
  have hQ := q.big
  have he : pp - 2 = 4 * Q + 1 - 2 := by rw [← q.pp]
  unfold mpow
  rw [← Nat.pow_mod, Nat.mul_pow, Nat.mul_pow, Nat.mul_mod, Nat.mul_mod (X ^ (2 * Q))]
  congr 2
  rw [← Nat.pow_mod, he, ← Nat.pow_mul, ← Nat.pow_mul]
  have e : (4 * Q + 1 - 2) * (2 * Q) = 7 * (2 * Q) + 4 * Q * (2 * (Q - 2)) := by
    obtain ⟨R, rfl⟩ : ∃ R, Q = R + 2 := ⟨Q - 2, by omega⟩
    rw [show 4 * (R + 2) + 1 - 2 = 7 + 4 * R by omega, Nat.add_sub_cancel, Nat.add_mul]
    congr 1
    simp only [Nat.mul_assoc, Nat.mul_left_comm, Nat.mul_comm]
  rw [e, Nat.pow_add, Nat.pow_mul Y (4 * Q), Nat.mul_mod, Nat.pow_mod (Y ^ (4 * Q)), hf, Nat.one_pow, Nat.mod_eq_of_lt pp_one, Nat.mul_one, Nat.mod_mod]
theorem rOk_some {X Y : Nat} (hX : X < pp) (hx : X ≠ 0) (hY : Y < pp) (hy : Y ≠ 0) : rOk X Y = rSquare (X * mpow Y (pp - 2) % pp) := by
  have hx' : X % pp ≠ 0 := by rwa [Nat.mod_eq_of_lt hX]
  have hy' : Y % pp ≠ 0 := by rwa [Nat.mod_eq_of_lt hY]
  obtain ⟨Q, q, _⟩ := has_Q
  have h0 : (X * Y ^ 7) ^ (2 * Q) % pp ≠ 0 := not_zero_pow (not_zero hx' (not_zero_pow hy' 7)) _
  rw [Bool.eq_iff_iff, unit_case q hX hx' hy']
  unfold rSquare
  rw [← q.two, over_pow q hy', Bool.or_eq_true, decide_eq_true_eq, decide_eq_true_eq]
  exact ⟨Or.inl, fun h => h.resolve_right h0⟩
/-- Of a square over a square there always is one. -/
theorem rOk_squares {X Y : Nat} (hY : Y < pp) (hy : Y ≠ 0) : rOk (X * X % pp) (Y * Y % pp) = true := by
  have hy' : Y % pp ≠ 0 := by rwa [Nat.mod_eq_of_lt hY]
  by_cases hx : X % pp = 0
  · have : X * X % pp = 0 := by rw [Nat.mul_mod, hx, Nat.zero_mul, Nat.zero_mod]
    rw [this]
    exact rOk_zero _
  · have e : ∀ a, a % pp % pp ≠ 0 → a % pp % pp ≠ 0 := fun _ h => h
    obtain ⟨Q, q, _⟩ := has_Q
    rw [unit_case q (Nat.mod_lt _ pp_pos) (by rw [Nat.mod_mod]; exact not_zero hx hx) (by rw [Nat.mod_mod]; exact not_zero hy' hy')]
    have hz : X * Y ^ 7 % pp ≠ 0 := not_zero hx (not_zero_pow hy' 7)
    have h4 := fermat4 q hz
    have key : ∀ Q, (X * Y ^ 7) ^ (4 * Q) % pp = 1 → (X * X % pp * (Y * Y % pp) ^ 7) ^ (2 * Q) % pp = 1 := fun Q h => by
      have e2 : (X * X % pp * (Y * Y % pp) ^ 7) % pp = (X * Y ^ 7) ^ 2 % pp := by
        rw [Nat.mul_mod, Nat.mod_mod, ← Nat.pow_mod, ← Nat.mul_mod, Nat.mul_pow X, ← Nat.pow_two, ← Nat.pow_two, ← Nat.pow_mul, ← Nat.pow_mul]
      rw [Nat.pow_mod, e2, ← Nat.pow_mod, ← Nat.pow_mul, show 2 * (2 * Q) = 4 * Q by omega]
      exact h
    exact key Q h4

end Go.Proofs.YtmceebdaaegkeaaDoor
