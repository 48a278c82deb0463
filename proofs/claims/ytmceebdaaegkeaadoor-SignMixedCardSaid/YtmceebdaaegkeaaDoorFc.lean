/- Contracts of math/bits.Mul64, Add64 and of field.plus, carried, row, reduce: they turn no memory but what they make. -/
import Derived.Test.YtmceebdaaegkeaaDoorProg
import Derived.Test.YtmceebdaaegkeaaDoorFa
namespace Go.Proofs.YtmceebdaaegkeaaDoor
open Go.RowKit

theorem ret_int {k : IntKind} {a b : Int} (h : a = b) : Ending.returned (.int k a) = .returned (.int k b) := by rw [h]
theorem ret2_int {k l : IntKind} {a b c d : Int} (h : a = b) (g : c = d) : Ending.returned (.tuple #[.int k a, .int l c]) = .returned (.tuple #[.int k b, .int l d]) := by rw [h, g]

set_option maxHeartbeats 400000 in
theorem carried_any (p0 p1 p2 p3 p4 : Int) (w : World) (a0 : 0 ≤ p0) (a1 : 0 ≤ p1) (a2 : 0 ≤ p2) (a3 : 0 ≤ p3) (a4 : 0 ≤ p4)
    (h0 : p0 < 13835058055282163712) (h1 : p1 < 13835058055282163712) (h2 : p2 < 13835058055282163712) (h3 : p3 < 13835058055282163712) (h4 : p4 < 13835058055282163712) :
    Calls Tryd.prog 79 #[.int .u64 p0, .int .u64 p1, .int .u64 p2, .int .u64 p3, .int .u64 p4] w fun e w' =>
      e = .returned (.tuple #[.int .u64 (p0 % 2251799813685248), .int .u64 ((p1 + p0 / 2251799813685248) % 2251799813685248), .int .u64 ((p2 + (p1 + p0 / 2251799813685248) / 2251799813685248) % 2251799813685248),
        .int .u64 ((p3 + (p2 + (p1 + p0 / 2251799813685248) / 2251799813685248) / 2251799813685248) % 2251799813685248),
        .int .u64 ((p4 + (p3 + (p2 + (p1 + p0 / 2251799813685248) / 2251799813685248) / 2251799813685248) / 2251799813685248) % 2251799813685248),
        .int .u64 ((p4 + (p3 + (p2 + (p1 + p0 / 2251799813685248) / 2251799813685248) / 2251799813685248) / 2251799813685248) / 2251799813685248)]) ∧ w = w' := by
  go_enter Tryd.func79, Tryd.ntmps79
  go_wp2
  simp (disch := omega) only [and51]
  refine bodyPost_ret (v := .tuple #[_, _, _, _, _, _]) (by simp [results, Tryd.results79, go_sem]) rfl ⟨rfl, rfl⟩

/-- What carried does, without its words. -/
structure Carried (p0 p1 p2 p3 p4 q0 q1 q2 q3 q4 ab : Int) : Prop where
  eq : val5 p0 p1 p2 p3 p4 = val5 q0 q1 q2 q3 q4 + 57896044618658097711785492504343953926634992332820282019728792003956564819968 * ab
theorem carried_ex (p0 p1 p2 p3 p4 : Int) (w : World) (a0 : 0 ≤ p0) (a1 : 0 ≤ p1) (a2 : 0 ≤ p2) (a3 : 0 ≤ p3) (a4 : 0 ≤ p4)
    (h0 : p0 < 13835058055282163712) (h1 : p1 < 13835058055282163712) (h2 : p2 < 13835058055282163712) (h3 : p3 < 13835058055282163712) (h4 : p4 < 13835058055282163712) :
    Calls Tryd.prog 79 #[.int .u64 p0, .int .u64 p1, .int .u64 p2, .int .u64 p3, .int .u64 p4] w fun e w' =>
      ∃ q0 q1 q2 q3 q4 ab : Int, e = .returned (.tuple #[.int .u64 q0, .int .u64 q1, .int .u64 q2, .int .u64 q3, .int .u64 q4, .int .u64 ab]) ∧ w = w' ∧ Carried p0 p1 p2 p3 p4 q0 q1 q2 q3 q4 ab ∧
        0 ≤ q0 ∧ q0 < 2251799813685248 ∧ 0 ≤ q1 ∧ q1 < 2251799813685248 ∧ 0 ≤ q2 ∧ q2 < 2251799813685248 ∧ 0 ≤ q3 ∧ q3 < 2251799813685248 ∧ 0 ≤ q4 ∧ q4 < 2251799813685248 ∧ 0 ≤ ab ∧ ab < 8192 :=
  (carried_any p0 p1 p2 p3 p4 w a0 a1 a2 a3 a4 h0 h1 h2 h3 h4).mono fun e w' ⟨he, hw⟩ =>
    ⟨_, _, _, _, _, _, he, hw, ⟨carry5 p0 p1 p2 p3 p4⟩, by omega, by omega, by omega, by omega, by omega, by omega, by omega, by omega, by omega, by omega, by omega, by omega⟩

theorem m32N (a : Nat) (ha : a < 18446744073709551616) : bits .and .u64 (a : Int) 4294967295 = ((a % 4294967296 : Nat) : Int) := by
  have h := bits_and_u64_nat a 4294967295 ha (by omega)
  have e : a &&& 4294967295 = a % 4294967296 := Nat.and_two_pow_sub_one_eq_mod a 32
  rw [e] at h
  exact h
theorem d32N (a : Nat) : (a : Int) / 4294967296 = ((a / 4294967296 : Nat) : Int) := by omega
theorem wN (a : Nat) (ha : a < 18446744073709551616) : IntKind.u64.wrap (a : Int) = (a : Int) := by rw [IntKind.wrap_u64]; omega
theorem wM (a : Nat) : IntKind.u64.wrap (a : Int) = ((a % 18446744073709551616 : Nat) : Int) := by rw [IntKind.wrap_u64]; omega

set_option maxHeartbeats 1000000 in
theorem mul64_nat (x y : Nat) (hx : x < 18446744073709551616) (hy : y < 18446744073709551616) (w : World) :
    Calls Tryd.prog 62 #[.int .u64 x, .int .u64 y] w fun e w' => e = .returned (.tuple #[.int .u64 ((x * y / 18446744073709551616 : Nat) : Int), .int .u64 ((x * y % 18446744073709551616 : Nat) : Int)]) ∧ w = w' := by
  obtain ⟨bd, bt, bw, hhi⟩ := Lib.mul64_hi x y hx hy
  have ba := Lib.half_mul_le (a := x / 4294967296) (b := y / 4294967296) (by omega) (by omega)
  have bb := Lib.half_mul_le (a := x / 4294967296) (b := y % 4294967296) (by omega) (by omega)
  have bc := Lib.half_mul_le (a := x % 4294967296) (b := y / 4294967296) (by omega) (by omega)
  have ba' : x / 4294967296 * (y / 4294967296) < 18446744073709551616 := by omega
  have bb' : x / 4294967296 * (y % 4294967296) < 18446744073709551616 := by omega
  have bc' : x % 4294967296 * (y / 4294967296) < 18446744073709551616 := by omega
  have bh1 : x / 4294967296 * (y / 4294967296) + (x / 4294967296 * (y % 4294967296) + x % 4294967296 * (y % 4294967296) / 4294967296) / 4294967296 < 18446744073709551616 := by omega
  have bh : x / 4294967296 * (y / 4294967296) + (x / 4294967296 * (y % 4294967296) + x % 4294967296 * (y % 4294967296) / 4294967296) / 4294967296 + ((x / 4294967296 * (y % 4294967296) + x % 4294967296 * (y % 4294967296) / 4294967296) % 4294967296 + x % 4294967296 * (y / 4294967296)) / 4294967296 < 18446744073709551616 := by omega
  go_enter Tryd.func62, Tryd.ntmps62
  go_wp2
  simp only [m32N x hx, m32N y hy, d32N, ← Int.natCast_mul, ← Int.natCast_add, wN _ bd, wN _ bb', wN _ bt, m32N _ bt, wN _ bc', wN _ bw, wN _ ba', wN _ bh1, wN _ bh, wM (x * y)]
  rw [hhi]
  go_ret2
  exact ⟨rfl, rfl⟩

theorem mul64_any (x y : Int) (hx0 : 0 ≤ x) (hy0 : 0 ≤ y) (hx : x < 18446744073709551616) (hy : y < 18446744073709551616) (w : World) :
    Calls Tryd.prog 62 #[.int .u64 x, .int .u64 y] w fun e w' => e = .returned (.tuple #[.int .u64 (x * y / 18446744073709551616), .int .u64 (x * y % 18446744073709551616)]) ∧ w = w' := by
  obtain ⟨a, rfl⟩ := Int.eq_ofNat_of_zero_le hx0
  obtain ⟨b, rfl⟩ := Int.eq_ofNat_of_zero_le hy0
  refine (mul64_nat a b (by omega) (by omega) w).mono fun e w' ⟨he, hw⟩ => ⟨?_, hw⟩
  rw [he, ← Int.natCast_mul]
  rfl

theorem add64_run (x y c : Int) (hx : 0 ≤ x) (hy : 0 ≤ y) (hc0 : 0 ≤ c) (hc : c ≤ 1) (w : World) :
    (callFunc 63 #[.int .u64 x, .int .u64 y, .int .u64 c]).run Tryd.prog w =
      .ok (.value (.tuple #[.int .u64 ((x + y + c) % 18446744073709551616), .int .u64 ((x + y + c) / 18446744073709551616)])) w := by
  rw [run_callFunc_extern Tryd.func63 (by kernel_rfl) (by kernel_rfl) (by kernel_rfl) (e := add64Entry) (by kernel_rfl), run_add64 x y c hx hy hc0 hc]
  rfl

theorem add64_run0 (x y : Int) (hx : 0 ≤ x) (hy : 0 ≤ y) (w : World) :
    (callFunc 63 #[.int .u64 x, .int .u64 y, .int .u64 0]).run Tryd.prog w =
      .ok (.value (.tuple #[.int .u64 ((x + y) % 18446744073709551616), .int .u64 ((x + y) / 18446744073709551616)])) w := by
  rw [add64_run x y 0 hx hy (by decide) (by decide), Int.add_zero]

set_option maxHeartbeats 1000000 in
/-- plus: a number of two words and a product. -/
theorem plus_any (hi lo x y : Int) (w : World) (a0 : 0 ≤ hi) (a1 : 0 ≤ lo) (a2 : 0 ≤ x) (a3 : 0 ≤ y) (b0 : hi < 18446744073709551616) (b1 : lo < 18446744073709551616) (b2 : x < 18446744073709551616) (b3 : y < 18446744073709551616)
    (hT : hi * 18446744073709551616 + lo + x * y < 340282366920938463463374607431768211456) :
    Calls Tryd.prog 78 #[.int .u64 hi, .int .u64 lo, .int .u64 x, .int .u64 y] w fun e w' =>
      e = .returned (.tuple #[.int .u64 ((hi * 18446744073709551616 + lo + x * y) / 18446744073709551616), .int .u64 ((hi * 18446744073709551616 + lo + x * y) % 18446744073709551616)]) ∧ w = w' := by
  have hxy : 0 ≤ x * y := Int.mul_nonneg a2 a3
  have h1 := add64_run0 lo (x * y % 18446744073709551616) a1 (by omega)
  have h2 := add64_run hi (x * y / 18446744073709551616) ((lo + x * y % 18446744073709551616) / 18446744073709551616) a0 (by omega) (by omega) (by omega)
  go_enter Tryd.func78, Tryd.ntmps78
  go_wp2_with (go_at_call 62; refine (mul64_any _ _ a2 a3 b2 b3 _).mono ?_; rintro e w' ⟨rfl, rfl⟩)
  go_ret2
  exact ⟨ret2_int (by omega) (by omega), rfl⟩

theorem plus_0 (lo x y : Int) (w : World) (a1 : 0 ≤ lo) (a2 : 0 ≤ x) (a3 : 0 ≤ y) (b1 : lo < 18446744073709551616) (b2 : x < 18446744073709551616) (b3 : y < 18446744073709551616)
    (hT : lo + x * y < 340282366920938463463374607431768211456) :
    Calls Tryd.prog 78 #[.int .u64 0, .int .u64 lo, .int .u64 x, .int .u64 y] w fun e w' =>
      e = .returned (.tuple #[.int .u64 ((lo + x * y) / 18446744073709551616), .int .u64 ((lo + x * y) % 18446744073709551616)]) ∧ w = w' := by
  have h := plus_any 0 lo x y w (by decide) a1 a2 a3 (by decide) b1 b2 b3 (by omega)
  rw [Int.zero_mul, Int.zero_add] at h
  exact h
theorem plus_T (T x y : Int) (w : World) (a1 : 0 ≤ T) (a2 : 0 ≤ x) (a3 : 0 ≤ y) (b2 : x < 18446744073709551616) (b3 : y < 18446744073709551616)
    (hT : T + x * y < 340282366920938463463374607431768211456) :
    Calls Tryd.prog 78 #[.int .u64 (T / 18446744073709551616), .int .u64 (T % 18446744073709551616), .int .u64 x, .int .u64 y] w fun e w' =>
      e = .returned (.tuple #[.int .u64 ((T + x * y) / 18446744073709551616), .int .u64 ((T + x * y) % 18446744073709551616)]) ∧ w = w' := by
  have hxy : 0 ≤ x * y := Int.mul_nonneg a2 a3
  have h := plus_any (T / 18446744073709551616) (T % 18446744073709551616) x y w (by omega) (by omega) a2 a3 (by omega) (by omega) b2 b3 (by omega)
  rw [show T / 18446744073709551616 * 18446744073709551616 + T % 18446744073709551616 = T by omega] at h
  exact h

theorem prod_le {x y a b : Int} (h0 : 0 ≤ x) (h1 : 0 ≤ y) (hx : x ≤ a) (hy : y ≤ b) : 0 ≤ x * y ∧ x * y ≤ a * b :=
  ⟨Int.mul_nonneg h0 h1, Int.mul_le_mul hx hy h1 (Int.le_trans h0 hx)⟩

set_option maxHeartbeats 1000000 in
/-- row: a carry and the products of the parts that stand under one another. -/
theorem row_any (carry x0 x1 x2 x3 x4 y0 y1 y2 y3 y4 : Int) (b : Nat) (w : World) (hx : Five w b x0 x1 x2 x3 x4)
    (p0 : 0 ≤ x0) (p1 : 0 ≤ x1) (p2 : 0 ≤ x2) (p3 : 0 ≤ x3) (p4 : 0 ≤ x4) (q0 : x0 < 2251799813685248) (q1 : x1 < 2251799813685248) (q2 : x2 < 2251799813685248) (q3 : x3 < 2251799813685248) (q4 : x4 < 2251799813685248)
    (r0 : 0 ≤ y0) (r1 : 0 ≤ y1) (r2 : 0 ≤ y2) (r3 : 0 ≤ y3) (r4 : 0 ≤ y4) (s0 : y0 ≤ 42784196460019712) (s1 : y1 ≤ 42784196460019712) (s2 : y2 ≤ 42784196460019712) (s3 : y3 ≤ 42784196460019712) (s4 : y4 ≤ 42784196460019712)
    (c0 : 0 ≤ carry) (c1 : carry < 18446744073709551616) :
    Calls Tryd.prog 59 #[.int .u64 carry, .pointer (some ⟨b, 0, none⟩), .int .u64 y0, .int .u64 y1, .int .u64 y2, .int .u64 y3, .int .u64 y4] w fun e w' =>
      e = .returned (.tuple #[.int .u64 ((carry + x0 * y0 + x1 * y1 + x2 * y2 + x3 * y3 + x4 * y4) % 2251799813685248), .int .u64 ((carry + x0 * y0 + x1 * y1 + x2 * y2 + x3 * y3 + x4 * y4) / 2251799813685248)]) ∧ w = w' := by
  obtain ⟨d0, d1, d2, d3, d4⟩ := hx
  have z0 := prod_le p0 r0 (Int.le_of_lt q0) s0
  have z1 := prod_le p1 r1 (Int.le_of_lt q1) s1
  have z2 := prod_le p2 r2 (Int.le_of_lt q2) s2
  have z3 := prod_le p3 r3 (Int.le_of_lt q3) s3
  have z4 := prod_le p4 r4 (Int.le_of_lt q4) s4
  simp only [Int.reduceMul] at z0 z1 z2 z3 z4
  go_enter Tryd.func59, Tryd.ntmps59
  go_wp2_with fail
  refine (plus_0 _ _ _ _ c0 p0 r0 c1 (by omega) (by omega) (by omega)).mono ?_
  rintro e w' ⟨rfl, rfl⟩
  go_wp2_with fail
  refine (plus_T _ _ _ _ (by omega) p1 r1 (by omega) (by omega) (by omega)).mono ?_
  rintro e w' ⟨rfl, rfl⟩
  go_wp2_with fail
  refine (plus_T _ _ _ _ (by omega) p2 r2 (by omega) (by omega) (by omega)).mono ?_
  rintro e w' ⟨rfl, rfl⟩
  go_wp2_with fail
  refine (plus_T _ _ _ _ (by omega) p3 r3 (by omega) (by omega) (by omega)).mono ?_
  rintro e w' ⟨rfl, rfl⟩
  go_wp2_with fail
  refine (plus_T _ _ _ _ (by omega) p4 r4 (by omega) (by omega) (by omega)).mono ?_
  rintro e w' ⟨rfl, rfl⟩
  go_wp2
  go_ret2
  refine ⟨ret2_int ?_ ?_, rfl⟩
  · rw [and51 _ (by omega) (by omega)]; omega
  · rw [or64 13 _ _ (by omega) (by omega) (by omega) (by omega) (by omega) (by decide)]; omega



end Go.Proofs.YtmceebdaaegkeaaDoor
/- The contract of field.reduce: five parts below 2^63 become the Element of their number modulo 2^255 - 19; nothing that was there turns. -/
namespace Go.Proofs.YtmceebdaaegkeaaDoor
open Go.RowKit

set_option maxHeartbeats 1000000 in
theorem reduce_any (p0 p1 p2 p3 p4 : Int) (n : Nat) (w : World) (a0 : 0 ≤ p0) (a1 : 0 ≤ p1) (a2 : 0 ≤ p2) (a3 : 0 ≤ p3) (a4 : 0 ≤ p4)
    (h0 : p0 < 9223372036854775808) (h1 : p1 < 9223372036854775808) (h2 : p2 < 9223372036854775808) (h3 : p3 < 9223372036854775808) (h4 : p4 < 9223372036854775808) (hn : val5 p0 p1 p2 p3 p4 = n) :
    Calls Tryd.prog 60 #[.int .u64 p0, .int .u64 p1, .int .u64 p2, .int .u64 p3, .int .u64 p4] w fun e w' => e = .returned (El (n % pp)) ∧ Below w.heap.size w w' := by
  have H := Lib.hid hn
  clear hn
  go_enter Tryd.func60, Tryd.ntmps60
  go_wp2_with fail
  refine (carried_ex _ _ _ _ _ _ a0 a1 a2 a3 a4 (by omega) (by omega) (by omega) (by omega) (by omega)).mono ?_
  rintro e w' ⟨q0, q1, q2, q3, q4, ab, rfl, rfl, C1, b0, b0', b1, b1', b2, b2', b3, b3', b4, b4', b5, b5'⟩
  go_wp2_with fail
  refine (carried_ex _ _ _ _ _ _ (by omega) b1 b2 b3 b4 (by omega) (by omega) (by omega) (by omega) (by omega)).mono ?_
  rintro e w' ⟨r0, r1, r2, r3, r4, ac, rfl, rfl, C2, c0, c0', c1, c1', c2, c2', c3, c3', c4, c4', c5, c5'⟩
  go_wp2_with fail
  refine (carried_ex _ _ _ _ _ _ (by omega) b1 b2 b3 b4 (by omega) (by omega) (by omega) (by omega) (by omega)).mono ?_
  rintro e w' ⟨s0, s1, s2, s3, s4, ad, rfl, rfl, C3, d0, d0', d1, d1', d2, d2', d3, d3', d4, d4', d5, d5'⟩
  go_wp2
  have key : ((n % pp : Nat) : Int) = val5 s0 s1 s2 s3 s4 := by
    have e1 := C1.eq; have e2 := C2.eq; have e3 := C3.eq; have e0 := H.out
    rw [val5_add, val5_add] at e2
    rw [val5_add, val5_add] at e3
    have q := val5_bd q0 q1 q2 q3 q4 b0 b0' b1 b1' b2 b2' b3 b3' b4 b4'
    have r := val5_bd r0 r1 r2 r3 r4 c0 c0' c1 c1' c2 c2' c3 c3' c4 c4'
    have s := val5_bd s0 s1 s2 s3 s4 d0 d0' d1 d1' d2 d2' d3 d3' d4 d4'
    rw [Int.natCast_emod, pp_eq]
    exact reduce_num _ _ _ _ _ _ _ (e0.symm.trans e1) e2 e3 q.1 q.2 r.1 r.2 s.1 s.2 b5 b5' c5 d5
  have hE := El_of _ _ _ _ _ _ key d0 d0' d1 d1' d2 d2' d3 d3'
  refine bodyPost_ret (v := El (n % pp)) ?_ rfl ⟨rfl, ?_⟩
  · rw [← hE]; simp [results, Tryd.results60, go_sem]
  · exact ((Below.refl _ _).alloc (Nat.le_refl _) _)


end Go.Proofs.YtmceebdaaegkeaaDoor
