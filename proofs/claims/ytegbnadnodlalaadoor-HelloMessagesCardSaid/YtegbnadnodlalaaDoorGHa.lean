/- sha2's words: what a sum of 256 bits is reckoned with; the contracts of right64, either, majority. -/
import Derived.Test.YtegbnadnodlalaaDoorLl0Lo
namespace Go.Proofs.YtegbnadnodlalaaDoor.H5
open Go.RowKit
/-- A word of 64 bits turned right. -/
def rr (x n : Nat) : Nat := x * 2 ^ (64 - n) % 18446744073709551616 + x / 2 ^ n
theorem rr_lt (x n : Nat) (hx : x < 18446744073709551616) (h0 : 0 < n) (hn : n < 64) : rr x n < 18446744073709551616 := by
  unfold rr
  have h1 : x / 2 ^ n < 2 ^ (64 - n) := by
    rw [Nat.div_lt_iff_lt_mul (Nat.pow_pos (by decide)), ← Nat.pow_add, show 64 - n + n = 64 by omega]
    exact hx
  have h2 : x * 2 ^ (64 - n) % 18446744073709551616 + 2 ^ (64 - n) ≤ 18446744073709551616 := by
    have e : (18446744073709551616 : Nat) = 2 ^ (64 - n) * 2 ^ n := by rw [← Nat.pow_add, show 64 - n + n = 64 by omega]
    rw [e, Nat.mul_comm x, Nat.mul_mod_mul_left, ← Nat.mul_succ]
    exact Nat.mul_le_mul_left _ (Nat.mod_lt _ (Nat.pow_pos (by decide)))
  omega
theorem and_lt (a b : Nat) (ha : a < 18446744073709551616) : a &&& b < 18446744073709551616 := Nat.lt_of_le_of_lt Nat.and_le_left ha
theorem xor_lt (a b : Nat) (ha : a < 18446744073709551616) (hb : b < 18446744073709551616) : a ^^^ b < 18446744073709551616 := Nat.xor_lt_two_pow (n := 64) ha hb
def ei (e f g : Nat) : Nat := e &&& f ^^^ (18446744073709551615 ^^^ e) &&& g
def ma (a b c : Nat) : Nat := a &&& b ^^^ a &&& c ^^^ b &&& c
theorem wraps_u64x (n : Int) (h₀ : 0 ≤ n) (h₁ : n < 2 ^ 64) : IntKind.u64.wrap n = n := by rw [IntKind.wrap_u64]; omega
theorem or64x (i : Nat) (x y : Int) (hx0 : 0 ≤ x) (hx : x % 2 ^ i = 0) (hx1 : x < 2 ^ 64) (h0 : 0 ≤ y) (h1 : y < 2 ^ i) (hi : (2 : Int) ^ i ≤ 2 ^ 64) : bits .or .u64 x y = x + y :=
  bits_join .u64 64 (by decide) wraps_u64x i x y hx0 hx hx1 h0 h1 (by omega)
theorem or_rr (x n : Nat) (hx : x < 18446744073709551616) (h0 : 0 < n) (hn : n < 64) :
    bits .or .u64 (IntKind.u64.wrap ((x : Int) * 2 ^ (64 - n))) ((x : Int) / 2 ^ n) = ((rr x n : Nat) : Int) := by
  have e1 : IntKind.u64.wrap ((x : Int) * 2 ^ (64 - n)) = ((x * 2 ^ (64 - n) % 18446744073709551616 : Nat) : Int) := by
    rw [IntKind.wrap_u64, Int.natCast_emod, Int.natCast_mul, Int.natCast_pow]
    rfl
  have e2 : (x : Int) / 2 ^ n = ((x / 2 ^ n : Nat) : Int) := by simp
  have h1 : x / 2 ^ n < 2 ^ (64 - n) := by
    rw [Nat.div_lt_iff_lt_mul (Nat.pow_pos (by decide)), ← Nat.pow_add, show 64 - n + n = 64 by omega]
    exact hx
  have h3 : 2 ^ (64 - n) ∣ x * 2 ^ (64 - n) % 18446744073709551616 := by
    rw [Nat.dvd_mod_iff (Nat.pow_dvd_pow 2 (show 64 - n ≤ 64 by omega))]
    exact ⟨x, Nat.mul_comm _ _⟩
  have h4 : x * 2 ^ (64 - n) % 18446744073709551616 < 18446744073709551616 := Nat.mod_lt _ (by decide)
  have h5 : 2 ^ (64 - n) ≤ 2 ^ 64 := Nat.pow_le_pow_right (by decide) (by omega)
  have ep : (2 : Int) ^ (64 - n) = ((2 ^ (64 - n) : Nat) : Int) := by rw [Int.natCast_pow]; rfl
  rw [e1, e2]
  unfold rr
  generalize x * 2 ^ (64 - n) % 18446744073709551616 = A at *
  generalize x / 2 ^ n = D at *
  generalize hP : (2 : Nat) ^ (64 - n) = P at *
  rw [or64x (64 - n) _ _ (by omega) (by rw [ep, ← Int.natCast_emod, Nat.mod_eq_zero_of_dvd h3]; rfl) (by omega) (by omega) (by rw [ep]; omega) (by rw [ep]; omega)]
  omega
set_option maxHeartbeats 1000000 in
theorem right64_any (x n : Nat) (w : World) (hx : x < 18446744073709551616) (h0 : 0 < n) (hn : n < 64) : Calls Tryd.prog 94 #[.int .u64 x, .int .i64 n] w fun e w' => e = .returned (.int .u64 ((rr x n : Nat) : Int)) ∧ w = w' := by
  have hr := or_rr x n hx h0 hn
  have i1 : IntKind.i64.wrap (-(n : Int)) = -(n : Int) := by rw [IntKind.wrap_i64]; omega
  have i2 : IntKind.u64.wrap (-(n : Int)) = ((18446744073709551616 - n : Nat) : Int) := by rw [IntKind.wrap_u64]; omega
  have i3 : bits .and .u64 ((18446744073709551616 - n : Nat) : Int) 63 = ((64 - n : Nat) : Int) := by
    have h := u64_and_nat (18446744073709551616 - n) 63 (by omega) (by omega)
    have e : (18446744073709551616 - n) &&& 63 = (18446744073709551616 - n) % 64 := Nat.and_two_pow_sub_one_eq_mod _ 6
    rw [e] at h
    exact h.trans (by congr 1; omega)
  obtain ⟨s, hs⟩ : ∃ s, s = 64 - n := ⟨_, rfl⟩
  rw [← hs] at i3 hr
  have i4 : IntKind.u64.wrap (64 - (s : Int)) = (n : Int) := by rw [IntKind.wrap_u64]; omega
  have i5 : (0 : Int) ≤ (s : Int) := by omega
  have i6 : min s 64 = s := by omega
  have i7 : min n 64 = n := by omega
  rw [IntKind.wrap_u64] at hr
  have HR := Lib.hid hr
  clear hr hs
  go_enter Tryd.func94, Tryd.ntmps94
  go_wp2
  go_ret
  exact ⟨ret_int HR.out, rfl⟩
set_option maxHeartbeats 1000000 in
theorem either_any (e f g : Nat) (w : World) (he : e < 18446744073709551616) (hf : f < 18446744073709551616) (hg : g < 18446744073709551616) : Calls Tryd.prog 95 #[.int .u64 e, .int .u64 f, .int .u64 g] w fun r w' => r = .returned (.int .u64 ((ei e f g : Nat) : Int)) ∧ w = w' := by
  have lm : (18446744073709551615 : Nat) ^^^ e < 18446744073709551616 := xor_lt _ _ (by decide) he
  have e0 : bits .xor .u64 IntKind.u64.max (e : Int) = ((18446744073709551615 ^^^ e : Nat) : Int) := u64_xor_nat 18446744073709551615 e (by decide) he
  have e1 := u64_and_nat e f he hf
  have e2 := u64_and_nat _ g lm hg
  have e3 := u64_xor_nat _ _ (and_lt e f he) (and_lt _ g lm)
  have E : Hid (bits .xor .u64 (bits .and .u64 (e : Int) (f : Int)) (bits .and .u64 (bits .xor .u64 IntKind.u64.max (e : Int)) (g : Int)) = ((ei e f g : Nat) : Int)) := Lib.hid (by rw [e0, e1, e2, e3]; rfl)
  clear e0 e1 e2 e3 lm
  go_enter Tryd.func95, Tryd.ntmps95
  go_wp2
  go_ret
  exact ⟨ret_int E.out, rfl⟩
set_option maxHeartbeats 1000000 in
theorem majority_any (a b c : Nat) (w : World) (ha : a < 18446744073709551616) (hb : b < 18446744073709551616) (hc : c < 18446744073709551616) : Calls Tryd.prog 96 #[.int .u64 a, .int .u64 b, .int .u64 c] w fun r w' => r = .returned (.int .u64 ((ma a b c : Nat) : Int)) ∧ w = w' := by
  have e1 := u64_and_nat a b ha hb
  have e2 := u64_and_nat a c ha hc
  have e3 := u64_and_nat b c hb hc
  have e4 := u64_xor_nat _ _ (and_lt a b ha) (and_lt a c ha)
  have e5 := u64_xor_nat _ _ (xor_lt _ _ (and_lt a b ha) (and_lt a c ha)) (and_lt b c hb)
  have E : Hid (bits .xor .u64 (bits .xor .u64 (bits .and .u64 (a : Int) (b : Int)) (bits .and .u64 (a : Int) (c : Int))) (bits .and .u64 (b : Int) (c : Int)) = ((ma a b c : Nat) : Int)) := Lib.hid (by rw [e1, e2, e3, e4, e5]; rfl)
  clear e1 e2 e3 e4 e5
  go_enter Tryd.func96, Tryd.ntmps96
  go_wp2
  go_ret
  exact ⟨ret_int E.out, rfl⟩
end Go.Proofs.YtegbnadnodlalaaDoor.H5
