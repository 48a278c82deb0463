/- The reference's sums: words of 32 bits kept in 64. -/
import Derived.Test.YtjkocockbglenaaDoorHi
import Derived.Test.YtjkocockbglenaaDoorGa
namespace Go.Proofs.YtjkocockbglenaaDoor
open Go.RowKit

theorem and32_64 (x : Nat) (h : x < 18446744073709551616) : bits .and .u64 (x : Int) 4294967295 = ((x % 4294967296 : Nat) : Int) := by
  have h := bits_and_u64_nat x 4294967295 (by omega) (by omega)
  have e : x &&& 4294967295 = x % 4294967296 := Nat.and_two_pow_sub_one_eq_mod x 32
  rw [e] at h
  exact h
theorem cut32_any (x : Nat) (w : World) (hx : x < 18446744073709551616) : Calls Tryd.prog 27 #[.int .u64 (x : Int), .int .i64 32] w fun e w' => e = .returned (.int .u64 ((x % 4294967296 : Nat) : Int)) ∧ w = w' := by
  have h := and32_64 x hx
  have HR := Lib.hid h
  clear h
  go_enter Tryd.func27, Tryd.ntmps27
  go_wp2
  go_ret
  exact ⟨ret_int HR.out, rfl⟩
/-- Before the cut: both halves, side by side. -/
def rq (x n : Nat) : Nat := x * 2 ^ (32 - n) + x / 2 ^ n
theorem rq_lt (x n : Nat) (hx : x < 4294967296) (h0 : 0 < n) (hn : n < 32) : rq x n < 18446744073709551616 := by
  unfold rq
  have h1 : x / 2 ^ n ≤ x := Nat.div_le_self _ _
  have h2 : 2 ^ (32 - n) ≤ 2 ^ 31 := Nat.pow_le_pow_right (by decide) (by omega)
  have h3 : x * 2 ^ (32 - n) ≤ 4294967295 * 2 ^ 31 := Nat.mul_le_mul (by omega) h2
  omega
theorem rq_mod (x n : Nat) (hx : x < 4294967296) (h0 : 0 < n) (hn : n < 32) : rq x n % 4294967296 = rr x n := by
  have h := rr_lt x n hx h0 hn
  unfold rq
  unfold rr at h ⊢
  generalize x * 2 ^ (32 - n) = A at *
  generalize x / 2 ^ n = D at *
  omega
theorem or_rq (x n : Nat) (hx : x < 4294967296) (h0 : 0 < n) (hn : n < 32) :
    bits .or .u64 ((x : Int) / 2 ^ n) (IntKind.u64.wrap ((x : Int) * 2 ^ (32 - n))) = ((rq x n : Nat) : Int) := by
  have h2 : 2 ^ (32 - n) ≤ 2 ^ 31 := Nat.pow_le_pow_right (by decide) (by omega)
  have h3 : x * 2 ^ (32 - n) ≤ 4294967295 * 2 ^ 31 := Nat.mul_le_mul (by omega) h2
  have e1 : IntKind.u64.wrap ((x : Int) * 2 ^ (32 - n)) = ((x * 2 ^ (32 - n) : Nat) : Int) := by
    have e : (x : Int) * 2 ^ (32 - n) = ((x * 2 ^ (32 - n) : Nat) : Int) := by rw [Int.natCast_mul, Int.natCast_pow]; rfl
    rw [e, IntKind.wrap_u64]
    omega
  have e2 : (x : Int) / 2 ^ n = ((x / 2 ^ n : Nat) : Int) := by simp
  have h1 : x / 2 ^ n < 2 ^ (32 - n) := by
    rw [Nat.div_lt_iff_lt_mul (Nat.pow_pos (by decide)), ← Nat.pow_add, show 32 - n + n = 32 by omega]
    exact hx
  have h4 : 2 ^ (32 - n) ∣ x * 2 ^ (32 - n) := ⟨x, Nat.mul_comm _ _⟩
  have ep : (2 : Int) ^ (32 - n) = ((2 ^ (32 - n) : Nat) : Int) := by rw [Int.natCast_pow]; rfl
  rw [e1, e2]
  unfold rq
  generalize x * 2 ^ (32 - n) = A at *
  generalize x / 2 ^ n = D at *
  generalize hP : (2 : Nat) ^ (32 - n) = P at *
  rw [or_comm64, or64 (32 - n) _ _ (by omega) (by rw [ep, ← Int.natCast_emod, Nat.mod_eq_zero_of_dvd h4]; rfl) (by omega) (by omega) (by rw [ep]; omega) (by rw [ep]; omega)]
  omega

set_option maxHeartbeats 1000000 in
theorem turn32_any (x n : Nat) (w : World) (hx : x < 4294967296) (h0 : 0 < n) (hn : n < 32) : Calls Tryd.prog 26 #[.int .u64 (x : Int), .int .i64 (n : Int), .int .i64 32] w fun e w' => e = .returned (.int .u64 ((rr x n : Nat) : Int)) ∧ World.drew w = w' := by
  have hr := or_rq x n hx h0 hn
  have hc := cut32_any (rq x n) (World.drew w) (rq_lt x n hx h0 hn)
  rw [rq_mod x n hx h0 hn] at hc
  have HC := Lib.hid hc
  clear hc
  have i1 : IntKind.i64.wrap (32 - (n : Int)) = 32 - (n : Int) := by rw [IntKind.wrap_i64]; omega
  have i2 : (0 : Int) ≤ 32 - (n : Int) := by omega
  have i3 : (32 - (n : Int)).toNat = 32 - n := by omega
  have i4 : min (32 - n) 64 = 32 - n := by omega
  have i5 : min n 64 = n := by omega
  go_enter Tryd.func26, Tryd.ntmps26
  go_upto_region 1 with fail
  refine wp_region_still_tail 10 (by kernel_rfl) (by kernel_rfl) ?_
  simp only [List.take_succ_cons, List.take_zero, List.drop_succ_cons, List.drop_zero]
  change wpStill _ _ (World.drew w) (fun a' => wpList _ _ _ _ a' (World.drew w)) _ _
  repeat still_step
  refine wpStill_nil ?_
  go_wp2_with fail
  all_goals
    refine HC.out.mono ?_
    rintro _ w1 ⟨rfl, rfl⟩
    go_wp2
    go_ret
    exact ⟨rfl, rfl⟩
end Go.Proofs.YtjkocockbglenaaDoor
