/- Contracts of scalar's plusOrder, followed. The arithmetic of scalar's product: what the words hold behind each step. -/
import Derived.Test.YtegbnadnodlalaaGreatDoorGHi0GSa
namespace Go.Proofs.YtegbnadnodlalaaGreatDoor.Sc
open Go.RowKit
/-- The order. -/
def LL : Nat := 7237005577332262213973186563042994240857116359379907606001950938285454250989
theorem LL_eq : LL = 7237005577332262213973186563042994240857116359379907606001950938285454250989 := rfl
theorem LL_pos : 0 < LL := by decide
def sub64Entry : Array Value → Sem Value := fun args => do
 let (x, y, b) ← Extern.MathBitsCarry.three "Sub64" args
 pure (Extern.MathBitsCarry.pair ((x + Extern.MathBitsCarry.m64 - y - b) % Extern.MathBitsCarry.m64) (if x < y + b then 1 else 0))
theorem run_sub64 {P : Program} (x y c : Int) (hx : 0 ≤ x) (hy : 0 ≤ y) (hc0 : 0 ≤ c) (hc : c ≤ 1) (bx : x < 18446744073709551616) (bY : y < 18446744073709551616) (w : World) :
  (sub64Entry #[.int .u64 x, .int .u64 y, .int .u64 c]).run P w =
   .ok (.tuple #[.int .u64 ((x - y - c) % 18446744073709551616), .int .u64 (-((x - y - c) / 18446744073709551616))]) w := by
 have key : ∀ k : Nat, k ≤ 1 → (sub64Entry #[.int .u64 x, .int .u64 y, .int .u64 (k : Int)]).run P w =
   .ok (Extern.MathBitsCarry.pair ((x.toNat + Extern.MathBitsCarry.m64 - y.toNat - k) % Extern.MathBitsCarry.m64) (if x.toNat < y.toNat + k then 1 else 0)) w := by
  intro k hk
  have : k = 0 ∨ k = 1 := by omega
  rcases this with rfl | rfl <;> rfl
 obtain ⟨k, rfl⟩ := Int.eq_ofNat_of_zero_le hc0
 rw [key k (by omega)]
 obtain ⟨X, rfl⟩ := Int.eq_ofNat_of_zero_le hx
 obtain ⟨Y, rfl⟩ := Int.eq_ofNat_of_zero_le hy
 simp only [Extern.MathBitsCarry.pair, Extern.MathBitsCarry.m64, Int.toNat_natCast]
 congr 4
 · simp; omega
 · simp; split <;> simp <;> omega
theorem sub64_run (x y c : Int) (hx : 0 ≤ x) (hy : 0 ≤ y) (hc0 : 0 ≤ c) (hc : c ≤ 1) (bx : x < 18446744073709551616) (bY : y < 18446744073709551616) (w : World) :
  (callFunc 91 #[.int .u64 x, .int .u64 y, .int .u64 c]).run Tryz.prog w =
   .ok (.value (.tuple #[.int .u64 ((x - y - c) % 18446744073709551616), .int .u64 (-((x - y - c) / 18446744073709551616))])) w := by
 rw [run_callFunc_extern Tryz.func91 (by kernel_rfl) (by kernel_rfl) (by kernel_rfl) (e := sub64Entry) (by kernel_rfl), run_sub64 x y c hx hy hc0 hc bx bY]
 rfl
theorem sub64_run0 (x y : Int) (hx : 0 ≤ x) (hy : 0 ≤ y) (bx : x < 18446744073709551616) (bY : y < 18446744073709551616) (w : World) :
  (callFunc 91 #[.int .u64 x, .int .u64 y, .int .u64 0]).run Tryz.prog w =
   .ok (.value (.tuple #[.int .u64 ((x - y) % 18446744073709551616), .int .u64 (-((x - y) / 18446744073709551616))])) w := by
 rw [sub64_run x y 0 hx hy (by decide) (by decide) bx bY, Int.sub_zero]
/-- Four words, by value. -/
theorem Nm_of (n : Nat) (a b c d : Int) (h : (n : Int) = a + 18446744073709551616 * b + 340282366920938463463374607431768211456 * c + 6277101735386680763835789423207666416102355444464034512896 * d)
  (a0 : 0 ≤ a) (a1 : a < 18446744073709551616) (b0 : 0 ≤ b) (b1 : b < 18446744073709551616) (c0 : 0 ≤ c) (c1 : c < 18446744073709551616) (d0 : 0 ≤ d) (d1 : d < 18446744073709551616) :
  Nm_cells n = #[.int .u64 a, .int .u64 b, .int .u64 c, .int .u64 d] := by
 have e0 : ((wordAt n 0 : Nat) : Int) = a := by simp only [wordAt, Nat.reduceMul, Nat.reducePow]; omega
 have e1 : ((wordAt n 1 : Nat) : Int) = b := by simp only [wordAt, Nat.reduceMul, Nat.reducePow]; omega
 have e2 : ((wordAt n 2 : Nat) : Int) = c := by simp only [wordAt, Nat.reduceMul, Nat.reducePow]; omega
 have e3 : ((wordAt n 3 : Nat) : Int) = d := by simp only [wordAt, Nat.reduceMul, Nat.reducePow]; omega
 rw [← e0, ← e1, ← e2, ← e3]
 rfl
theorem nm_parts (n : Nat) (hn : n < 115792089237316195423570985008687907853269984665640564039457584007913129639936) : ∃ a b c d : Int, Nm_cells n = #[.int .u64 a, .int .u64 b, .int .u64 c, .int .u64 d] ∧
  (n : Int) = a + 18446744073709551616 * b + 340282366920938463463374607431768211456 * c + 6277101735386680763835789423207666416102355444464034512896 * d ∧
  0 ≤ a ∧ a < 18446744073709551616 ∧ 0 ≤ b ∧ b < 18446744073709551616 ∧ 0 ≤ c ∧ c < 18446744073709551616 ∧ 0 ≤ d ∧ d < 18446744073709551616 := by
 refine ⟨(n : Int) % 18446744073709551616, (n : Int) / 18446744073709551616 % 18446744073709551616, (n : Int) / 340282366920938463463374607431768211456 % 18446744073709551616, (n : Int) / 6277101735386680763835789423207666416102355444464034512896, ?_, by omega, by omega, by omega, by omega, by omega, by omega, by omega, by omega, by omega⟩
 exact Nm_of n _ _ _ _ (by omega) (by omega) (by omega) (by omega) (by omega) (by omega) (by omega) (by omega) (by omega)
set_option maxHeartbeats 2000000 in
set_option maxRecDepth 100000 in
theorem plusOrder1 (n : Nat) (w : World) (hn : n < 115792089237316195423570985008687907853269984665640564039457584007913129639936) :
  Calls Tryz.prog 92 #[Nm n, .int .u64 1] w fun e w' => e = .returned (Nm ((n + LL) % 115792089237316195423570985008687907853269984665640564039457584007913129639936)) ∧ Below w.heap.size w w' := by
 obtain ⟨a, b, c, d, en, hv, a0, a1, b0, b1, c0, c1, d0, d1⟩ := nm_parts n hn
 unfold Nm
 rw [en]
 have m1 : bits .and .u64 18446744073709551615 6346243789798364141 = 6346243789798364141 := by decide +kernel
 have m2 : bits .and .u64 18446744073709551615 1503914060200516822 = 1503914060200516822 := by decide +kernel
 have m3 : bits .and .u64 18446744073709551615 1152921504606846976 = 1152921504606846976 := by decide +kernel
 have hm : IntKind.u64.wrap (-1) = 18446744073709551615 := by decide +kernel
 obtain ⟨r0, hr0⟩ : ∃ r, r = (a + 6346243789798364141) % 18446744073709551616 := ⟨_, rfl⟩
 obtain ⟨q0, hq0⟩ : ∃ r, r = (a + 6346243789798364141) / 18446744073709551616 := ⟨_, rfl⟩
 obtain ⟨r1, hr1⟩ : ∃ r, r = (b + 1503914060200516822 + q0) % 18446744073709551616 := ⟨_, rfl⟩
 obtain ⟨q1, hq1⟩ : ∃ r, r = (b + 1503914060200516822 + q0) / 18446744073709551616 := ⟨_, rfl⟩
 obtain ⟨r2, hr2⟩ : ∃ r, r = (c + 0 + q1) % 18446744073709551616 := ⟨_, rfl⟩
 obtain ⟨q2, hq2⟩ : ∃ r, r = (c + 0 + q1) / 18446744073709551616 := ⟨_, rfl⟩
 obtain ⟨r3, hr3⟩ : ∃ r, r = (d + 1152921504606846976 + q2) % 18446744073709551616 := ⟨_, rfl⟩
 obtain ⟨q3, hq3⟩ : ∃ r, r = (d + 1152921504606846976 + q2) / 18446744073709551616 := ⟨_, rfl⟩
 have h0 := add64_run0 a 6346243789798364141 a0 (by decide)
 have h1 := add64_run b 1503914060200516822 q0 b0 (by decide) (by omega) (by omega)
 have h2 := add64_run c 0 q1 c0 (by decide) (by omega) (by omega)
 have h3 := add64_run d 1152921504606846976 q2 d0 (by decide) (by omega) (by omega)
 rw [← hr0, ← hq0] at h0
 rw [← hr1, ← hq1] at h1
 rw [← hr2, ← hq2] at h2
 rw [← hr3, ← hq3] at h3
 have eR : Nm_cells ((n + LL) % 115792089237316195423570985008687907853269984665640564039457584007913129639936) = #[.int .u64 r0, .int .u64 r1, .int .u64 r2, .int .u64 r3] := by
  rw [LL_eq]
  exact Nm_of _ _ _ _ _ (by omega) (by omega) (by omega) (by omega) (by omega) (by omega) (by omega) (by omega) (by omega)
 rw [eR]
 clear hr0 hq0 hr1 hq1 hr2 hq2 hr3 hq3 hv en eR
 go_enter Tryz.func92, Tryz.ntmps92
 go_wp2
 refine bodyPost_ret (v := .agg #[.int .u64 r0, .int .u64 r1, .int .u64 r2, .int .u64 r3]) (by simp [results, Tryz.results92, go_sem]) rfl ⟨rfl, ?_⟩
 repeat (first | exact Below.refl _ _ | refine Below.setCell ?_ (by simp) _ | refine Below.alloc ?_ (by simp) _ | refine Below.alloc ?_ (Nat.le_refl _) _)
set_option maxHeartbeats 2000000 in
set_option maxRecDepth 100000 in
theorem plusOrder0 (n : Nat) (w : World) (hn : n < 115792089237316195423570985008687907853269984665640564039457584007913129639936) :
  Calls Tryz.prog 92 #[Nm n, .int .u64 0] w fun e w' => e = .returned (Nm n) ∧ Below w.heap.size w w' := by
 obtain ⟨a, b, c, d, en, hv, a0, a1, b0, b1, c0, c1, d0, d1⟩ := nm_parts n hn
 unfold Nm
 rw [en]
 have m1 : bits .and .u64 0 6346243789798364141 = 0 := by decide +kernel
 have m2 : bits .and .u64 0 1503914060200516822 = 0 := by decide +kernel
 have m3 : bits .and .u64 0 1152921504606846976 = 0 := by decide +kernel
 have hm : IntKind.u64.wrap (-0) = 0 := by decide +kernel
 have hm' : IntKind.u64.wrap 0 = 0 := by decide +kernel
 have key : ∀ x : Int, 0 ≤ x → x < 18446744073709551616 → ∀ W, (callFunc 90 #[.int .u64 x, .int .u64 0, .int .u64 0]).run Tryz.prog W = .ok (.value (.tuple #[.int .u64 x, .int .u64 0])) W := fun x h0 h1 W => by
  rw [add64_run x 0 0 h0 (by decide) (by decide) (by decide), show (x + 0 + 0) % 18446744073709551616 = x by omega, show (x + 0 + 0) / 18446744073709551616 = 0 by omega]
 have h0 := key a a0 a1
 have h1 := key b b0 b1
 have h2 := key c c0 c1
 have h3 := key d d0 d1
 clear hv en key
 go_enter Tryz.func92, Tryz.ntmps92
 go_wp2
 refine bodyPost_ret (v := .agg #[.int .u64 a, .int .u64 b, .int .u64 c, .int .u64 d]) (by simp [results, Tryz.results92, go_sem]) rfl ⟨rfl, ?_⟩
 repeat (first | exact Below.refl _ _ | refine Below.setCell ?_ (by simp) _ | refine Below.alloc ?_ (by simp) _ | refine Below.alloc ?_ (Nat.le_refl _) _)
set_option maxRecDepth 100000 in
theorem plusOrder_v (m : Nat) (q : Int) (R : Nat) (w : World) (hm : m < 115792089237316195423570985008687907853269984665640564039457584007913129639936) (hq : q = 0 ∧ R = m ∨ q = 1 ∧ R = (m + LL) % 115792089237316195423570985008687907853269984665640564039457584007913129639936) :
  Calls Tryz.prog 92 #[Nm m, .int .u64 q] w fun e w' => e = .returned (Nm R) ∧ Below w.heap.size w w' := by
 rcases hq with ⟨h1, h2⟩ | ⟨h1, h2⟩
 ·
  rw [h1, h2]
  exact plusOrder0 _ w hm
 ·
  rw [h1, h2]
  exact plusOrder1 _ w hm
theorem shl_or (x y : Int) (hx0 : 0 ≤ x) (hx : x < 18446744073709551616) (hy0 : 0 ≤ y) (hy : y < 18446744073709551616) : bits .or .u64 (IntKind.u64.wrap (x * 4294967296)) (y / 4294967296) = x * 4294967296 % 18446744073709551616 + y / 4294967296 := by
 rw [IntKind.wrap_u64, or64 32 _ _ (by omega) (by omega) (by omega) (by omega) (by omega) (by decide)]
theorem and60 (x : Int) (h0 : 0 ≤ x) (h1 : x < 18446744073709551616) : bits .and .u64 x 1152921504606846975 = x % 1152921504606846976 := by
 obtain ⟨n, rfl⟩ := Int.eq_ofNat_of_zero_le h0
 have h := u64_and_nat n 1152921504606846975 (by omega) (by omega)
 have e : n &&& 1152921504606846975 = n % 1152921504606846976 := Nat.and_two_pow_sub_one_eq_mod n 60
 rw [e] at h
 exact h
theorem mod_of {N R L k : Nat} (h : N = R + L * k) (hR : R < L) : N % L = R := by
 rw [h, Nat.add_mul_mod_self_left, Nat.mod_eq_of_lt hR]
structure Rng (x : Int) (N : Int) : Prop where
 lo : 0 ≤ x
 hi : x < N
theorem lin_mod {x N r q : Int} (hr : r = x % N) (hq : q = x / N) (hN : 0 < N) : r = x - N * q ∧ 0 ≤ r ∧ r < N := by
 subst hr hq
 exact ⟨by rw [Int.emod_def], Int.emod_nonneg _ (by omega), Int.emod_lt_of_pos _ hN⟩
theorem lin_sub {x N r q : Int} (hr : r = x % N) (hq : q = -(x / N)) (hN : 0 < N) : r = x + N * q ∧ 0 ≤ r ∧ r < N := by
 subst hr hq
 refine ⟨?_, Int.emod_nonneg _ (by omega), Int.emod_lt_of_pos _ hN⟩
 rw [Int.emod_def, Int.mul_neg]
 omega
theorem borrow_bd {x y q r : Int} (h : r = x - y + 18446744073709551616 * q) (hx : 0 ≤ x) (hx1 : x < 18446744073709551616) (hy : 0 ≤ y) (hy1 : y ≤ 18446744073709551616) (r0 : 0 ≤ r) (r1 : r < 18446744073709551616) : 0 ≤ q ∧ q ≤ 1 := by omega
theorem follow_eq1 (ab g0 p0 g1 t1 p1 cy x0 x1 x2 x3 r0 q0 r1 q1 r2 q2 r3 q3 : Int)
  (e1 : p0 = ab * 6346243789798364141 - 18446744073709551616 * g0) (e2 : t1 = ab * 1503914060200516822 - 18446744073709551616 * g1) (e3 : p1 = t1 + g0 - 18446744073709551616 * cy)
  (f0 : r0 = x0 - p0 + 18446744073709551616 * q0) (f1 : r1 = x1 - p1 - q0 + 18446744073709551616 * q1) (f2 : r2 = x2 - (g1 + cy) - q1 + 18446744073709551616 * q2) (f3 : r3 = x3 - 0 - q2 + 18446744073709551616 * q3) :
  r0 + 18446744073709551616 * r1 + 340282366920938463463374607431768211456 * r2 + 6277101735386680763835789423207666416102355444464034512896 * r3 - 115792089237316195423570985008687907853269984665640564039457584007913129639936 * q3 =
   x0 + 18446744073709551616 * x1 + 340282366920938463463374607431768211456 * x2 + 6277101735386680763835789423207666416102355444464034512896 * x3 - ab * 27742317777372353535851937790883648493 := by
 subst e1 e2
 subst e3
 subst f0 f1 f2 f3
 omega
theorem shift_eq (a b c d low ab y3 z3 y2 z2 y1 z1 y0 z0 sa sb sc x3 : Int)
  (ha : a * 4294967296 = 18446744073709551616 * z0 + y0) (hb : b * 4294967296 = 18446744073709551616 * z1 + y1) (hc : c * 4294967296 = 18446744073709551616 * z2 + y2) (hd : d * 4294967296 + z2 = 1152921504606846976 * ab + x3) :
  (a + 18446744073709551616 * b + 340282366920938463463374607431768211456 * c + 6277101735386680763835789423207666416102355444464034512896 * d) * 4294967296 + low =
   (y0 + low) + 18446744073709551616 * (y1 + z0) + 340282366920938463463374607431768211456 * (y2 + z1) + 6277101735386680763835789423207666416102355444464034512896 * x3 + ab * 7237005577332262213973186563042994240829374041602535252466099000494570602496 := by
 omega
theorem shift_word {x : Int} (h0 : 0 ≤ x) (h1 : x < 18446744073709551616) : x * 4294967296 = 18446744073709551616 * (x / 4294967296) + x * 4294967296 % 18446744073709551616 ∧ 0 ≤ x / 4294967296 ∧ x / 4294967296 < 4294967296 ∧ 0 ≤ x * 4294967296 % 18446744073709551616 ∧ x * 4294967296 % 18446744073709551616 ≤ 18446744069414584320 := by omega
theorem shift_top {d z : Int} (h0 : 0 ≤ d) (h1 : d ≤ 1152921504606846976) (hz : 0 ≤ z) (hz1 : z < 4294967296) : d * 4294967296 + z = 1152921504606846976 * (d / 268435456) + (d * 4294967296 % 18446744073709551616 + z) % 1152921504606846976 ∧ 0 ≤ d / 268435456 ∧ d / 268435456 ≤ 4294967296 ∧ 0 ≤ (d * 4294967296 % 18446744073709551616 + z) % 1152921504606846976 ∧ (d * 4294967296 % 18446744073709551616 + z) % 1152921504606846976 < 1152921504606846976 := by omega
theorem top_small {n : Nat} {a b c d : Int} (hn : n < 7237005577332262213973186563042994240857116359379907606001950938285454250989) (hv : (n : Int) = a + 18446744073709551616 * b + 340282366920938463463374607431768211456 * c + 6277101735386680763835789423207666416102355444464034512896 * d)
  (a0 : 0 ≤ a) (b0 : 0 ≤ b) (c0 : 0 ≤ c) : d ≤ 1152921504606846976 := by omega
theorem follow_end (n low : Nat) (ab X r q3 : Int) (hq : 0 ≤ q3 ∧ q3 ≤ 1) (s1 : r - 115792089237316195423570985008687907853269984665640564039457584007913129639936 * q3 = X - ab * 27742317777372353535851937790883648493)
  (s2 : (n : Int) * 4294967296 + low = X + ab * 7237005577332262213973186563042994240829374041602535252466099000494570602496) (hX : 0 ≤ X ∧ X < 7237005577332262213973186563042994240829374041602535252466099000494570602496) (hab : 0 ≤ ab ∧ ab ≤ 4294967296)
  (hr : 0 ≤ r ∧ r < 115792089237316195423570985008687907853269984665640564039457584007913129639936) :
  ∃ m R : Nat, (m : Int) = r ∧ m < 115792089237316195423570985008687907853269984665640564039457584007913129639936 ∧ R = (n * 4294967296 + low) % LL ∧
   (q3 = 0 ∧ R = m ∨ q3 = 1 ∧ R = (m + LL) % 115792089237316195423570985008687907853269984665640564039457584007913129639936) := by
 refine ⟨r.toNat, (n * 4294967296 + low) % LL, by omega, by omega, rfl, ?_⟩
 rcases (show q3 = 0 ∨ q3 = 1 by omega) with h | h
 ·
  left
  refine ⟨h, ?_⟩
  subst h
  rw [LL_eq]
  exact mod_of (k := ab.toNat) (by omega) (by omega)
 ·
  right
  refine ⟨h, ?_⟩
  subst h
  rw [LL_eq]
  exact mod_of (k := ab.toNat - 1) (by omega) (by omega)
theorem sum4_bd {a b c d : Int} (a0 : 0 ≤ a) (a1 : a < 18446744073709551616) (b0 : 0 ≤ b) (b1 : b < 18446744073709551616) (c0 : 0 ≤ c) (c1 : c < 18446744073709551616) (d0 : 0 ≤ d) (N : Int) (d1 : d < N) :
  0 ≤ a + 18446744073709551616 * b + 340282366920938463463374607431768211456 * c + 6277101735386680763835789423207666416102355444464034512896 * d ∧ a + 18446744073709551616 * b + 340282366920938463463374607431768211456 * c + 6277101735386680763835789423207666416102355444464034512896 * d < 6277101735386680763835789423207666416102355444464034512896 * N := by omega
theorem follow_arith (n low : Nat) (a b c d ab g0 p0 g1 t1 p1 cy x3 x2 x1 x0 r0 q0 r1 q1 r2 q2 r3 q3 : Int) (hn : n < 7237005577332262213973186563042994240857116359379907606001950938285454250989) (hl : low < 4294967296)
  (hv : (n : Int) = a + 18446744073709551616 * b + 340282366920938463463374607431768211456 * c + 6277101735386680763835789423207666416102355444464034512896 * d)
  (ha : 0 ≤ a ∧ a < 18446744073709551616) (hb : 0 ≤ b ∧ b < 18446744073709551616) (hc : 0 ≤ c ∧ c < 18446744073709551616) (hd : 0 ≤ d ∧ d < 18446744073709551616)
  (hab : ab = d / 268435456) (hg0 : g0 = ab * 6346243789798364141 / 18446744073709551616) (hp0 : p0 = ab * 6346243789798364141 % 18446744073709551616) (hg1 : g1 = ab * 1503914060200516822 / 18446744073709551616) (ht1 : t1 = ab * 1503914060200516822 % 18446744073709551616)
  (hp1 : p1 = (t1 + g0) % 18446744073709551616) (hcy : cy = (t1 + g0) / 18446744073709551616) (hx3 : x3 = (d * 4294967296 % 18446744073709551616 + c / 4294967296) % 1152921504606846976)
  (hx2 : x2 = c * 4294967296 % 18446744073709551616 + b / 4294967296) (hx1 : x1 = b * 4294967296 % 18446744073709551616 + a / 4294967296) (hx0 : x0 = a * 4294967296 % 18446744073709551616 + (low : Int))
  (hr0 : r0 = (x0 - p0) % 18446744073709551616) (hq0 : q0 = -((x0 - p0) / 18446744073709551616)) (hr1 : r1 = (x1 - p1 - q0) % 18446744073709551616) (hq1 : q1 = -((x1 - p1 - q0) / 18446744073709551616))
  (hr2 : r2 = (x2 - (g1 + cy) - q1) % 18446744073709551616) (hq2 : q2 = -((x2 - (g1 + cy) - q1) / 18446744073709551616)) (hr3 : r3 = (x3 - 0 - q2) % 18446744073709551616) (hq3 : q3 = -((x3 - 0 - q2) / 18446744073709551616)) :
  (0 ≤ ab ∧ ab ≤ 4294967296) ∧ (0 ≤ x0 ∧ x0 < 18446744073709551616) ∧ (0 ≤ x1 ∧ x1 < 18446744073709551616) ∧ (0 ≤ x2 ∧ x2 < 18446744073709551616) ∧ (0 ≤ x3 ∧ x3 < 1152921504606846976) ∧ (0 ≤ p0 ∧ p0 < 18446744073709551616) ∧ (0 ≤ p1 ∧ p1 < 18446744073709551616) ∧
   (0 ≤ g1 ∧ g1 < 4294967297) ∧ (0 ≤ g0 ∧ g0 < 4294967297) ∧ (0 ≤ t1 ∧ t1 < 18446744073709551616) ∧ (0 ≤ cy ∧ cy ≤ 1) ∧ (0 ≤ q0 ∧ q0 ≤ 1) ∧ (0 ≤ q1 ∧ q1 ≤ 1) ∧ (0 ≤ q2 ∧ q2 ≤ 1) ∧ (0 ≤ q3 ∧ q3 ≤ 1) ∧
   (0 ≤ r0 ∧ r0 < 18446744073709551616) ∧ (0 ≤ r1 ∧ r1 < 18446744073709551616) ∧ (0 ≤ r2 ∧ r2 < 18446744073709551616) ∧ (0 ≤ r3 ∧ r3 < 18446744073709551616) ∧
   ∃ m R : Nat, (m : Int) = r0 + 18446744073709551616 * r1 + 340282366920938463463374607431768211456 * r2 + 6277101735386680763835789423207666416102355444464034512896 * r3 ∧ m < 115792089237316195423570985008687907853269984665640564039457584007913129639936 ∧
    R = (n * 4294967296 + low) % LL ∧ (q3 = 0 ∧ R = m ∨ q3 = 1 ∧ R = (m + LL) % 115792089237316195423570985008687907853269984665640564039457584007913129639936) := by
 have bd := top_small hn hv ha.1 hb.1 hc.1
 obtain ⟨ka, ka1, ka2, ka3, ka4⟩ := shift_word ha.1 ha.2
 obtain ⟨kb, kb1, kb2, kb3, kb4⟩ := shift_word hb.1 hb.2
 obtain ⟨kc, kc1, kc2, kc3, kc4⟩ := shift_word hc.1 hc.2
 obtain ⟨kd, kd1, kd2, kd3, kd4⟩ := shift_top hd.1 bd kc1 kc2
 have s2 := shift_eq a b c d low _ 0 0 _ _ _ _ _ _ 0 0 0 _ ka kb kc kd
 rw [← hv, ← hx0, ← hx1, ← hx2, ← hx3, ← hab] at s2
 rw [← hab] at kd1 kd2
 rw [← hx3] at kd3 kd4
 have bx0 : 0 ≤ x0 ∧ x0 < 18446744073709551616 := by clear s2; omega
 have bx1 : 0 ≤ x1 ∧ x1 < 18446744073709551616 := by clear s2; omega
 have bx2 : 0 ≤ x2 ∧ x2 < 18446744073709551616 := by clear s2; omega
 clear ka ka1 ka2 ka3 ka4 kb kb1 kb2 kb3 kb4 kc kc1 kc2 kc3 kc4 kd hx0 hx1 hx2 hx3 hab hv hn ha hb hc hd bd hl
 obtain ⟨e1, e1a, e1b⟩ := lin_mod hp0 hg0 (by decide)
 obtain ⟨e2, e2a, e2b⟩ := lin_mod ht1 hg1 (by decide)
 obtain ⟨e3, e3a, e3b⟩ := lin_mod hp1 hcy (by decide)
 obtain ⟨f0, f0a, f0b⟩ := lin_sub hr0 hq0 (by decide)
 obtain ⟨f1, f1a, f1b⟩ := lin_sub hr1 hq1 (by decide)
 obtain ⟨f2, f2a, f2b⟩ := lin_sub hr2 hq2 (by decide)
 obtain ⟨f3, f3a, f3b⟩ := lin_sub hr3 hq3 (by decide)
 clear hp0 hg0 ht1 hg1 hp1 hcy hr0 hq0 hr1 hq1 hr2 hq2 hr3 hq3
 have bg0 : 0 ≤ g0 ∧ g0 < 4294967297 := by clear s2 e2 e3 f0 f1 f2 f3; omega
 have bg1 : 0 ≤ g1 ∧ g1 < 4294967297 := by clear s2 e1 e3 f0 f1 f2 f3; omega
 have bcy : 0 ≤ cy ∧ cy ≤ 1 := by clear s2 e1 e2 f0 f1 f2 f3; omega
 have bq0 : 0 ≤ q0 ∧ q0 ≤ 1 := borrow_bd f0 bx0.1 bx0.2 e1a (by omega) f0a f0b
 have bq1 : 0 ≤ q1 ∧ q1 ≤ 1 := borrow_bd (y := p1 + q0) (by omega) bx1.1 bx1.2 (by omega) (by omega) f1a f1b
 have bq2 : 0 ≤ q2 ∧ q2 ≤ 1 := borrow_bd (y := g1 + cy + q1) (by omega) bx2.1 bx2.2 (by omega) (by omega) f2a f2b
 have bq3 : 0 ≤ q3 ∧ q3 ≤ 1 := borrow_bd (x := x3) (y := q2) (by omega) kd3 (by omega) (by omega) (by omega) f3a f3b
 have s1 := follow_eq1 ab g0 p0 g1 t1 p1 cy x0 x1 x2 x3 r0 q0 r1 q1 r2 q2 r3 q3 e1 e2 e3 f0 f1 f2 f3
 have hX := sum4_bd bx0.1 bx0.2 bx1.1 bx1.2 bx2.1 bx2.2 kd3 _ kd4
 have hr := sum4_bd f0a f0b f1a f1b f2a f2b f3a _ f3b
 exact ⟨⟨kd1, kd2⟩, bx0, bx1, bx2, ⟨kd3, kd4⟩, ⟨e1a, e1b⟩, ⟨e3a, e3b⟩, bg1, bg0, ⟨e2a, e2b⟩, bcy, bq0, bq1, bq2, bq3, ⟨f0a, f0b⟩, ⟨f1a, f1b⟩, ⟨f2a, f2b⟩, ⟨f3a, f3b⟩,
  follow_end n low ab _ _ q3 bq3 s1 s2 hX ⟨kd1, kd2⟩ hr⟩
theorem gc_bd {g cy : Int} (h : 0 ≤ g ∧ g < 4294967297) (h1 : 0 ≤ cy ∧ cy ≤ 1) : 0 ≤ g + cy ∧ g + cy < 18446744073709551616 := by omega
theorem low_bd {ab : Int} (h : 0 ≤ ab ∧ ab ≤ 4294967296) : ab < 18446744073709551616 := by omega
theorem top_lt {x : Int} (h : 0 ≤ x ∧ x < 1152921504606846976) : x < 18446744073709551616 := by omega
theorem tn_bd {d c : Int} (c0 : 0 ≤ c) (c1 : c < 18446744073709551616) : 0 ≤ d * 4294967296 % 18446744073709551616 + c / 4294967296 ∧ d * 4294967296 % 18446744073709551616 + c / 4294967296 < 18446744073709551616 := by omega
theorem or_low (a : Int) (low : Nat) (hl : low < 4294967296) : bits .or .u64 (IntKind.u64.wrap (a * 4294967296)) (low : Int) = a * 4294967296 % 18446744073709551616 + (low : Int) := by
 rw [IntKind.wrap_u64, or64 32 _ _ (by omega) (by omega) (by omega) (by omega) (by omega) (by decide)]
theorem wrap_low (low : Nat) (hl : low < 4294967296) : IntKind.u64.wrap (low : Int) = (low : Int) := by rw [IntKind.wrap_u64]; omega
end Go.Proofs.YtegbnadnodlalaaGreatDoor.Sc
namespace Go.Proofs.YtegbnadnodlalaaGreatDoor.Sc
open Go.RowKit
def pw (j : Nat) : Nat := 2 ^ (64 * j)
theorem pw_pos (j : Nat) : 0 < pw j := Nat.pow_pos (by decide)
theorem pw_succ (j : Nat) : pw (j + 1) = pw j * 18446744073709551616 := by
 unfold pw
 rw [show 64 * (j + 1) = 64 * j + 64 by omega, Nat.pow_add]
theorem pw_add (i j : Nat) : pw (i + j) = pw i * pw j := by
 unfold pw
 rw [show 64 * (i + j) = 64 * i + 64 * j by omega, Nat.pow_add]
theorem pw_zero : pw 0 = 1 := rfl
theorem pw_four : pw 4 = 115792089237316195423570985008687907853269984665640564039457584007913129639936 := by decide
theorem wordAt_pw (n j : Nat) : wordAt n j = n / pw j % 18446744073709551616 := rfl
theorem wordAt_lt (n j : Nat) : wordAt n j < 18446744073709551616 := Nat.mod_lt _ (by decide)
theorem mod_pw_succ (n j : Nat) : n % pw (j + 1) = n % pw j + pw j * wordAt n j := by
 rw [pw_succ, Nat.mod_mul, wordAt_pw]
theorem word_add_high (n m j p : Nat) (hp : p < j) : wordAt (n + m * pw j) p = wordAt n p := by
 obtain ⟨d, rfl⟩ : ∃ d, j = p + 1 + d := ⟨j - (p + 1), by omega⟩
 rw [wordAt_pw, wordAt_pw, pw_add (p + 1) d, pw_succ, show m * (pw p * 18446744073709551616 * pw d) = pw p * (18446744073709551616 * (m * pw d)) by simp only [Nat.mul_comm, Nat.mul_left_comm, Nat.mul_assoc], Nat.add_mul_div_left _ _ (pw_pos p), Nat.add_mul_mod_self_left]
theorem word_zero_of_lt (n j p : Nat) (h : n < pw j) (hp : j ≤ p) : wordAt n p = 0 := by
 have : pw j ≤ pw p := by
  obtain ⟨d, rfl⟩ : ∃ d, p = j + d := ⟨p - j, by omega⟩
  rw [pw_add]
  exact Nat.le_mul_of_pos_right _ (pw_pos d)
 rw [wordAt_pw, Nat.div_eq_of_lt (by omega)]
section
variable (A B C : Nat)
def Sk (k : Nat) : Nat := C + A % pw k * B
def Tk (k q : Nat) : Nat := Sk A B C k + wordAt A k * (B % pw q) * pw k
def mixW (k q p : Nat) : Nat := if p < k + q then wordAt (Tk A B C k q) p else wordAt (Sk A B C k) p
def abv (k q : Nat) : Nat := Tk A B C k q / pw (k + q) - Sk A B C k / pw (k + q)
theorem Tk_zero (k : Nat) : Tk A B C k 0 = Sk A B C k := by
 unfold Tk
 rw [pw_zero, Nat.mod_one, Nat.mul_zero, Nat.zero_mul, Nat.add_zero]
theorem Tk_succ (k q : Nat) : Tk A B C k (q + 1) = Tk A B C k q + wordAt A k * wordAt B q * pw (k + q) := by
 unfold Tk
 rw [mod_pw_succ, Nat.mul_add, Nat.add_mul, pw_add, ← Nat.add_assoc]
 congr 1
 simp only [Nat.mul_comm, Nat.mul_left_comm, Nat.mul_assoc]
theorem abv_zero (k : Nat) : abv A B C k 0 = 0 := by unfold abv; rw [Tk_zero, Nat.sub_self]
theorem mixW_zero (k p : Nat) : mixW A B C k 0 p = wordAt (Sk A B C k) p := by
 unfold mixW
 split
 · rw [Tk_zero]
 · rfl
theorem Sk_le_Tk (k q : Nat) : Sk A B C k ≤ Tk A B C k q := Nat.le_add_right _ _
/-- One step of the inner loop. -/
theorem inner_num (k q : Nat) : abv A B C k (q + 1) = (wordAt A k * wordAt B q + wordAt (Sk A B C k) (k + q) + abv A B C k q) / 18446744073709551616 ∧
  wordAt (Tk A B C k (q + 1)) (k + q) = (wordAt A k * wordAt B q + wordAt (Sk A B C k) (k + q) + abv A B C k q) % 18446744073709551616 := by
 have h1 : Tk A B C k (q + 1) / pw (k + q) = Tk A B C k q / pw (k + q) + wordAt A k * wordAt B q := by
  rw [Tk_succ, Nat.add_mul_div_right _ _ (pw_pos _)]
 have h2 : Sk A B C k / pw (k + q) ≤ Tk A B C k q / pw (k + q) := Nat.div_le_div_right (Sk_le_Tk A B C k q)
 have h3 : Tk A B C k (q + 1) / pw (k + (q + 1)) = Tk A B C k (q + 1) / pw (k + q) / 18446744073709551616 := by
  rw [Nat.div_div_eq_div_mul, ← pw_succ]
  rfl
 have h4 : Sk A B C k / pw (k + (q + 1)) = Sk A B C k / pw (k + q) / 18446744073709551616 := by
  rw [Nat.div_div_eq_div_mul, ← pw_succ]
  rfl
 unfold abv
 rw [h3, h4, wordAt_pw (Tk A B C k (q + 1)), wordAt_pw (Sk A B C k), h1]
 generalize Tk A B C k q / pw (k + q) = t at *
 generalize Sk A B C k / pw (k + q) = s at *
 generalize wordAt A k * wordAt B q = m
 omega
theorem abv_lt : ∀ k q, abv A B C k q < 18446744073709551616
 | k, 0 => by rw [abv_zero]; decide
 | k, q + 1 => by
  rw [(inner_num A B C k q).1]
  have h1 := abv_lt k q
  have h2 := wordAt_lt (Sk A B C k) (k + q)
  have h3 : wordAt A k * wordAt B q ≤ 18446744073709551615 * 18446744073709551615 := Nat.mul_le_mul (Nat.le_of_lt_succ (wordAt_lt A k)) (Nat.le_of_lt_succ (wordAt_lt B q))
  generalize wordAt A k * wordAt B q = m at *
  omega
theorem mixW_succ (k q p : Nat) : mixW A B C k (q + 1) p = if p = k + q then (wordAt A k * wordAt B q + wordAt (Sk A B C k) (k + q) + abv A B C k q) % 18446744073709551616 else mixW A B C k q p := by
 unfold mixW
 by_cases h : p = k + q
 · rw [if_pos h, if_pos (by omega), h, (inner_num A B C k q).2]
 ·
  rw [if_neg h]
  by_cases h2 : p < k + q
  · rw [if_pos (by omega), if_pos h2, Tk_succ, word_add_high _ _ _ _ h2]
  · rw [if_neg (by omega), if_neg h2]
theorem Tk_four (k : Nat) (hB : B < pw 4) : Tk A B C k 4 = Sk A B C (k + 1) := by
 unfold Tk Sk
 rw [Nat.mod_eq_of_lt hB, mod_pw_succ, Nat.add_mul, ← Nat.add_assoc]
 congr 1
 simp only [Nat.mul_comm, Nat.mul_left_comm, Nat.mul_assoc]
theorem Sk_lt (hB : B < pw 4) (hC : C < pw 4) (k : Nat) : Sk A B C k < pw (k + 4) := by
 unfold Sk
 have h1 : A % pw k ≤ pw k - 1 := by have := Nat.mod_lt A (pw_pos k); omega
 have h2 : A % pw k * B ≤ (pw k - 1) * (pw 4 - 1) := Nat.mul_le_mul h1 (by omega)
 rw [pw_add]
 have h3 := pw_pos k
 generalize pw k = x at *
 rw [pw_four] at *
 obtain ⟨y, rfl⟩ : ∃ y, x = y + 1 := ⟨x - 1, by omega⟩
 rw [Nat.add_sub_cancel] at h2
 omega
/-- The end of a round of the outer loop. -/
theorem outer_end (hB : B < pw 4) (hC : C < pw 4) (k p : Nat) : wordAt (Sk A B C (k + 1)) p = if p = k + 4 then abv A B C k 4 else mixW A B C k 4 p := by
 have hS := Sk_lt A B C hB hC k
 have hS1 := Sk_lt A B C hB hC (k + 1)
 by_cases h : p = k + 4
 ·
  rw [if_pos h, h, wordAt_pw]
  unfold abv
  rw [Nat.div_eq_of_lt hS, Nat.sub_zero, Tk_four A B C k hB]
  refine Nat.mod_eq_of_lt (Nat.div_lt_of_lt_mul ?_)
  rw [← pw_succ, show k + 4 + 1 = k + 1 + 4 by omega]
  exact hS1
 ·
  rw [if_neg h]
  unfold mixW
  by_cases h2 : p < k + 4
  · rw [if_pos h2, Tk_four A B C k hB]
  · rw [if_neg h2, word_zero_of_lt _ _ p hS (by omega), word_zero_of_lt _ _ p hS1 (by omega)]
theorem Sk_four (hA : A < pw 4) : Sk A B C 4 = A * B + C := by
 unfold Sk
 rw [Nat.mod_eq_of_lt hA, Nat.add_comm]
theorem Sk_zero : Sk A B C 0 = C := by
 unfold Sk
 rw [pw_zero, Nat.mod_one, Nat.zero_mul, Nat.add_zero]
end
/-- The three sums of a step, by value. -/
theorem step_num (x y s ab : Int) (x0 : 0 ≤ x) (x1 : x < 18446744073709551616) (y0 : 0 ≤ y) (y1 : y < 18446744073709551616) (s0 : 0 ≤ s) (s1 : s < 18446744073709551616) (a0 : 0 ≤ ab) (a1 : ab < 18446744073709551616) :
  ((x * y % 18446744073709551616 + s) % 18446744073709551616 + ab) % 18446744073709551616 = (x * y + s + ab) % 18446744073709551616 ∧
  x * y / 18446744073709551616 + (x * y % 18446744073709551616 + s) / 18446744073709551616 + ((x * y % 18446744073709551616 + s) % 18446744073709551616 + ab) / 18446744073709551616 = (x * y + s + ab) / 18446744073709551616 ∧
  0 ≤ x * y ∧ x * y ≤ 340282366920938463426481119284349108225 := by
 have h := prod_le x0 y0 (show x ≤ 18446744073709551615 by omega) (show y ≤ 18446744073709551615 by omega)
 generalize x * y = m at *
 omega
end Go.Proofs.YtegbnadnodlalaaGreatDoor.Sc
