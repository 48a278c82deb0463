/- Plain arithmetic of the field: five parts of 51 bits, masks, joins; nothing of the program is named here. -/
import Derived.WalkKit
import Derived.Lib.Mul64
namespace Go.Proofs.YtjaomgildhiddaaDoor
open Go.RowKit

/-- The prime 2^255 - 19. -/
def pp : Nat := 57896044618658097711785492504343953926634992332820282019728792003956564819949
theorem pp_eq : pp = 57896044618658097711785492504343953926634992332820282019728792003956564819949 := rfl
theorem pp_pos : 0 < pp := by rw [pp_eq]; decide

theorem and51 (x : Int) (h0 : 0 ≤ x) (h1 : x < 18446744073709551616) : bits .and .u64 x 2251799813685247 = x % 2251799813685248 := by
  obtain ⟨n, rfl⟩ := Int.eq_ofNat_of_zero_le h0
  have h := bits_and_u64_nat n 2251799813685247 (by omega) (by omega)
  have e : n &&& 2251799813685247 = n % 2251799813685248 := Nat.and_two_pow_sub_one_eq_mod n 51
  rw [e] at h
  exact h

theorem wraps_u64 (n : Int) (h₀ : 0 ≤ n) (h₁ : n < 2 ^ 64) : IntKind.u64.wrap n = n := by rw [IntKind.wrap_u64]; omega
/-- 'x | y' where y stands below all of x's bits. -/
theorem or64 (i : Nat) (x y : Int) (hx0 : 0 ≤ x) (hx : x % 2 ^ i = 0) (hx1 : x < 2 ^ 64) (h0 : 0 ≤ y) (h1 : y < 2 ^ i) (hi : (2 : Int) ^ i ≤ 2 ^ 64) : bits .or .u64 x y = x + y :=
  bits_join .u64 64 (by decide) wraps_u64 i x y hx0 hx hx1 h0 h1 (by omega)
theorem or_comm64 (x y : Int) : bits .or .u64 x y = bits .or .u64 y x := by simp only [bits, BitVec.or_comm]

/-- The number of five parts. -/
def val5 (a b c d e : Int) : Int := a + 2251799813685248 * b + 5070602400912917605986812821504 * c + 11417981541647679048466287755595961091061972992 * d + 25711008708143844408671393477458601640355247900524685364822016 * e

/-- A number as the code keeps it: five parts of 51 bits. -/
def El_cells (n : Nat) : Array Value := #[.int .u64 ((n : Int) % 2251799813685248), .int .u64 ((n : Int) / 2251799813685248 % 2251799813685248), .int .u64 ((n : Int) / 5070602400912917605986812821504 % 2251799813685248),
  .int .u64 ((n : Int) / 11417981541647679048466287755595961091061972992 % 2251799813685248), .int .u64 ((n : Int) / 25711008708143844408671393477458601640355247900524685364822016)]
def El (n : Nat) : Value := .agg (El_cells n)
theorem El_of (n : Nat) (a b c d e : Int) (h : (n : Int) = val5 a b c d e) (a0 : 0 ≤ a) (a1 : a < 2251799813685248) (b0 : 0 ≤ b) (b1 : b < 2251799813685248) (c0 : 0 ≤ c) (c1 : c < 2251799813685248) (d0 : 0 ≤ d) (d1 : d < 2251799813685248) :
    Value.agg #[.int .u64 a, .int .u64 b, .int .u64 c, .int .u64 d, .int .u64 e] = El n := by
  unfold val5 at h
  have e0 : (n : Int) % 2251799813685248 = a := by omega
  have e1 : (n : Int) / 2251799813685248 % 2251799813685248 = b := by omega
  have e2 : (n : Int) / 5070602400912917605986812821504 % 2251799813685248 = c := by omega
  have e3 : (n : Int) / 11417981541647679048466287755595961091061972992 % 2251799813685248 = d := by omega
  have e4 : (n : Int) / 25711008708143844408671393477458601640355247900524685364822016 = e := by omega
  unfold El El_cells
  rw [e0, e1, e2, e3, e4]

/-- The carries of five parts, and what is above them all. -/
theorem carry5 (a b c d e : Int) :
    val5 a b c d e = val5 (a % 2251799813685248) ((b + a / 2251799813685248) % 2251799813685248) ((c + (b + a / 2251799813685248) / 2251799813685248) % 2251799813685248)
      ((d + (c + (b + a / 2251799813685248) / 2251799813685248) / 2251799813685248) % 2251799813685248) ((e + (d + (c + (b + a / 2251799813685248) / 2251799813685248) / 2251799813685248) / 2251799813685248) % 2251799813685248)
      + 57896044618658097711785492504343953926634992332820282019728792003956564819968 * ((e + (d + (c + (b + a / 2251799813685248) / 2251799813685248) / 2251799813685248) / 2251799813685248) / 2251799813685248) := by
  unfold val5
  omega

theorem val5_bd (a b c d e : Int) (a0 : 0 ≤ a) (a1 : a < 2251799813685248) (b0 : 0 ≤ b) (b1 : b < 2251799813685248) (c0 : 0 ≤ c) (c1 : c < 2251799813685248) (d0 : 0 ≤ d) (d1 : d < 2251799813685248) (e0 : 0 ≤ e) (e1 : e < 2251799813685248) :
    0 ≤ val5 a b c d e ∧ val5 a b c d e < 57896044618658097711785492504343953926634992332820282019728792003956564819968 := by
  unfold val5; omega
theorem val5_add (a b c d e x : Int) : val5 (a + x) b c d e = val5 a b c d e + x := by unfold val5; omega
theorem reduce_num (n Q R S ab ac ad : Int) (e1 : n = Q + 57896044618658097711785492504343953926634992332820282019728792003956564819968 * ab)
    (e2 : Q + 19 * ab + 19 = R + 57896044618658097711785492504343953926634992332820282019728792003956564819968 * ac) (e3 : Q + 19 * ab + 19 * ac = S + 57896044618658097711785492504343953926634992332820282019728792003956564819968 * ad)
    (q0 : 0 ≤ Q) (q1 : Q < 57896044618658097711785492504343953926634992332820282019728792003956564819968) (r0 : 0 ≤ R) (r1 : R < 57896044618658097711785492504343953926634992332820282019728792003956564819968)
    (s0 : 0 ≤ S) (s1 : S < 57896044618658097711785492504343953926634992332820282019728792003956564819968) (a0 : 0 ≤ ab) (a1 : ab < 8192) (_c0 : 0 ≤ ac) (_d0 : 0 ≤ ad) :
    n % 57896044618658097711785492504343953926634992332820282019728792003956564819949 = S := by
  have hc : ac = 0 ∨ ac = 1 := by omega
  have hd : ad = ac := by rcases hc with rfl | rfl <;> omega
  subst hd
  have hS : S < 57896044618658097711785492504343953926634992332820282019728792003956564819949 := by rcases hc with rfl | rfl <;> omega
  have hn : n = S + 57896044618658097711785492504343953926634992332820282019728792003956564819949 * (ab + ad) := by omega
  rw [hn, Int.add_mul_emod_self_left]
  exact Int.emod_eq_of_lt s0 hS

theorem mul_expand (x0 x1 x2 x3 x4 y0 y1 y2 y3 y4 K : Int) :
   (x0 + K * x1 + K^2 * x2 + K^3 * x3 + K^4 * x4) * (y0 + K * y1 + K^2 * y2 + K^3 * y3 + K^4 * y4) =
    x0*y0 + K * (x0*y1 + x1*y0) + K^2 * (x0*y2 + x1*y1 + x2*y0) + K^3 * (x0*y3+x1*y2+x2*y1+x3*y0) + K^4 * (x0*y4+x1*y3+x2*y2+x3*y1+x4*y0)
   + K^5 * (x1*y4+x2*y3+x3*y2+x4*y1) + K^6 * (x2*y4+x3*y3+x4*y2) + K^7*(x3*y4+x4*y3) + K^8 * (x4*y4) := by
  grind
theorem mul_num (x0 x1 x2 x3 x4 y0 y1 y2 y3 y4 l0 l1 l2 l3 l4 c0 c1 c2 c3 c4 : Int)
  (h0 : x0*y0 + x1*(19*y4) + x2*(19*y3) + x3*(19*y2)+x4*(19*y1) = l0 + 2251799813685248 * c0)
  (h1 : c0 + x0*y1 + x1*y0 + x2*(19*y4) + x3*(19*y3)+x4*(19*y2) = l1 + 2251799813685248 * c1)
  (h2 : c1 + x0*y2 + x1*y1 + x2*y0 + x3*(19*y4)+x4*(19*y3) = l2 + 2251799813685248 * c2)
  (h3 : c2 + x0*y3 + x1*y2 + x2*y1 + x3*y0+x4*(19*y4) = l3 + 2251799813685248 * c3)
  (h4 : c3 + x0*y4 + x1*y3 + x2*y2 + x3*y1+x4*y0 = l4 + 2251799813685248 * c4) :
  val5 x0 x1 x2 x3 x4 * val5 y0 y1 y2 y3 y4 = val5 (l0 + 19 * c4) l1 l2 l3 l4 + 57896044618658097711785492504343953926634992332820282019728792003956564819949 * (c4 + x1*y4+x2*y3+x3*y2+x4*y1 + 2251799813685248 * (x2*y4+x3*y3+x4*y2) + 5070602400912917605986812821504 *(x3*y4+x4*y3) + 11417981541647679048466287755595961091061972992*(x4*y4)) := by
  have e := mul_expand x0 x1 x2 x3 x4 y0 y1 y2 y3 y4 2251799813685248
  unfold val5
  simp only [Int.reducePow] at e
  rw [e]
  simp only [show ∀ a b : Int, a * (19 * b) = 19 * (a * b) by intro a b; rw [Int.mul_left_comm]] at h0 h1 h2 h3
  generalize x0*y0 = p00 at *
  generalize x0*y1 = p01 at *
  generalize x0*y2 = p02 at *
  generalize x0*y3 = p03 at *
  generalize x0*y4 = p04 at *
  generalize x1*y0 = p10 at *
  generalize x1*y1 = p11 at *
  generalize x1*y2 = p12 at *
  generalize x1*y3 = p13 at *
  generalize x1*y4 = p14 at *
  generalize x2*y0 = p20 at *
  generalize x2*y1 = p21 at *
  generalize x2*y2 = p22 at *
  generalize x2*y3 = p23 at *
  generalize x2*y4 = p24 at *
  generalize x3*y0 = p30 at *
  generalize x3*y1 = p31 at *
  generalize x3*y2 = p32 at *
  generalize x3*y3 = p33 at *
  generalize x3*y4 = p34 at *
  generalize x4*y0 = p40 at *
  generalize x4*y1 = p41 at *
  generalize x4*y2 = p42 at *
  generalize x4*y3 = p43 at *
  generalize x4*y4 = p44 at *
  clear e
  omega

end Go.Proofs.YtjaomgildhiddaaDoor
