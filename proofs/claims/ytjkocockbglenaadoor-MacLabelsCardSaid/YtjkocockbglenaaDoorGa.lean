/- Numbers, keys, bytes: what speaks of no function of the program. -/
import Derived.Test.YtjkocockbglenaaDoorProg
import Derived.Test.YtjkocockbglenaaDoorLf
import Derived.Lib.Mul64
import Derived.Deep.QuietTactic
import Derived.BigQuiet
import Derived.Deep.RegionHeld3
namespace Go.Proofs.YtjkocockbglenaaDoor
open Go.RowKit
theorem and51 (x : Int) (h0 : 0 ≤ x) (h1 : x < 18446744073709551616) : bits .and .u64 x 2251799813685247 = x % 2251799813685248 := by
  obtain ⟨n, rfl⟩ := Int.eq_ofNat_of_zero_le h0
  have h := bits_and_u64_nat n 2251799813685247 (by omega) (by omega)
  have e : n &&& 2251799813685247 = n % 2251799813685248 := Nat.and_two_pow_sub_one_eq_mod n 51
  rw [e] at h
  exact h

theorem wraps_u64 (n : Int) (h₀ : 0 ≤ n) (h₁ : n < 2 ^ 64) : IntKind.u64.wrap n = n := by rw [IntKind.wrap_u64]; omega

/-- 'x | y' where y stands below all of x's bits. -/
theorem or64 (i : Nat) (x y : Int) (hx0 : 0 ≤ x) (hx : x % 2 ^ i = 0) (hx1 : x < 2 ^ 64) (h0 : 0 ≤ y) (h1 : y < 2 ^ i) (hi : (2 : Int) ^ i ≤ 2 ^ 64) : bits .or .u64 x y = x + y :=
  bits_join .u64 64 (by decide) wraps_u64 i x y hx0 hx hx1 h0 h1 (by omega)

theorem or_comm64 (x y : Int) : bits .or .u64 x y = bits .or .u64 y x := by simp only [bits, BitVec.or_comm]

/-- The number of five parts. -/
def val5 (a b c d e : Int) : Int := a + 2251799813685248 * b + 5070602400912917605986812821504 * c + 11417981541647679048466287755595961091061972992 * d + 25711008708143844408671393477458601640355247900524685364822016 * e

/-- A number as the code keeps it: five parts of 51 bits. -/
def El_cells (n : Nat) : Array Value := #[.int .u64 ((n : Int) % 2251799813685248), .int .u64 ((n : Int) / 2251799813685248 % 2251799813685248), .int .u64 ((n : Int) / 5070602400912917605986812821504 % 2251799813685248),
  .int .u64 ((n : Int) / 11417981541647679048466287755595961091061972992 % 2251799813685248), .int .u64 ((n : Int) / 25711008708143844408671393477458601640355247900524685364822016)]

/-- The carries of five parts, and what is above them all. -/
theorem carry5 (a b c d e : Int) :
    val5 a b c d e = val5 (a % 2251799813685248) ((b + a / 2251799813685248) % 2251799813685248) ((c + (b + a / 2251799813685248) / 2251799813685248) % 2251799813685248)
      ((d + (c + (b + a / 2251799813685248) / 2251799813685248) / 2251799813685248) % 2251799813685248) ((e + (d + (c + (b + a / 2251799813685248) / 2251799813685248) / 2251799813685248) / 2251799813685248) % 2251799813685248)
      + 57896044618658097711785492504343953926634992332820282019728792003956564819968 * ((e + (d + (c + (b + a / 2251799813685248) / 2251799813685248) / 2251799813685248) / 2251799813685248) / 2251799813685248) := by
  unfold val5
  omega

theorem val5_bd (a b c d e : Int) (a0 : 0 ≤ a) (a1 : a < 2251799813685248) (b0 : 0 ≤ b) (b1 : b < 2251799813685248) (c0 : 0 ≤ c) (c1 : c < 2251799813685248) (d0 : 0 ≤ d) (d1 : d < 2251799813685248) (e0 : 0 ≤ e) (e1 : e < 2251799813685248) :
    0 ≤ val5 a b c d e ∧ val5 a b c d e < 57896044618658097711785492504343953926634992332820282019728792003956564819968 := by
  unfold val5; omega

theorem val5_add (a b c d e x : Int) : val5 (a + x) b c d e = val5 a b c d e + x := by unfold val5; omega

theorem reduce_num (n Q R S ab ac ad : Int) (e1 : n = Q + 57896044618658097711785492504343953926634992332820282019728792003956564819968 * ab)
    (e2 : Q + 19 * ab + 19 = R + 57896044618658097711785492504343953926634992332820282019728792003956564819968 * ac) (e3 : Q + 19 * ab + 19 * ac = S + 57896044618658097711785492504343953926634992332820282019728792003956564819968 * ad)
    (q0 : 0 ≤ Q) (q1 : Q < 57896044618658097711785492504343953926634992332820282019728792003956564819968) (r0 : 0 ≤ R) (r1 : R < 57896044618658097711785492504343953926634992332820282019728792003956564819968)
    (s0 : 0 ≤ S) (s1 : S < 57896044618658097711785492504343953926634992332820282019728792003956564819968) (a0 : 0 ≤ ab) (a1 : ab < 8192) (_c0 : 0 ≤ ac) (_d0 : 0 ≤ ad) :
    n % 57896044618658097711785492504343953926634992332820282019728792003956564819949 = S := by
  have hc : ac = 0 ∨ ac = 1 := by omega
  have hd : ad = ac := by rcases hc with rfl | rfl <;> omega
  subst hd
  have hS : S < 57896044618658097711785492504343953926634992332820282019728792003956564819949 := by rcases hc with rfl | rfl <;> omega
  have hn : n = S + 57896044618658097711785492504343953926634992332820282019728792003956564819949 * (ab + ad) := by omega
  rw [hn, Int.add_mul_emod_self_left]
  exact Int.emod_eq_of_lt s0 hS

theorem mul_expand (x0 x1 x2 x3 x4 y0 y1 y2 y3 y4 K : Int) :
   (x0 + K * x1 + K^2 * x2 + K^3 * x3 + K^4 * x4) * (y0 + K * y1 + K^2 * y2 + K^3 * y3 + K^4 * y4) =
    x0*y0 + K * (x0*y1 + x1*y0) + K^2 * (x0*y2 + x1*y1 + x2*y0) + K^3 * (x0*y3+x1*y2+x2*y1+x3*y0) + K^4 * (x0*y4+x1*y3+x2*y2+x3*y1+x4*y0)
   + K^5 * (x1*y4+x2*y3+x3*y2+x4*y1) + K^6 * (x2*y4+x3*y3+x4*y2) + K^7*(x3*y4+x4*y3) + K^8 * (x4*y4) := by
  grind

theorem mul_num (x0 x1 x2 x3 x4 y0 y1 y2 y3 y4 l0 l1 l2 l3 l4 c0 c1 c2 c3 c4 : Int)
  (h0 : x0*y0 + x1*(19*y4) + x2*(19*y3) + x3*(19*y2)+x4*(19*y1) = l0 + 2251799813685248 * c0)
  (h1 : c0 + x0*y1 + x1*y0 + x2*(19*y4) + x3*(19*y3)+x4*(19*y2) = l1 + 2251799813685248 * c1)
  (h2 : c1 + x0*y2 + x1*y1 + x2*y0 + x3*(19*y4)+x4*(19*y3) = l2 + 2251799813685248 * c2)
  (h3 : c2 + x0*y3 + x1*y2 + x2*y1 + x3*y0+x4*(19*y4) = l3 + 2251799813685248 * c3)
  (h4 : c3 + x0*y4 + x1*y3 + x2*y2 + x3*y1+x4*y0 = l4 + 2251799813685248 * c4) :
  val5 x0 x1 x2 x3 x4 * val5 y0 y1 y2 y3 y4 = val5 (l0 + 19 * c4) l1 l2 l3 l4 + 57896044618658097711785492504343953926634992332820282019728792003956564819949 * (c4 + x1*y4+x2*y3+x3*y2+x4*y1 + 2251799813685248 * (x2*y4+x3*y3+x4*y2) + 5070602400912917605986812821504 *(x3*y4+x4*y3) + 11417981541647679048466287755595961091061972992*(x4*y4)) := by
  have e := mul_expand x0 x1 x2 x3 x4 y0 y1 y2 y3 y4 2251799813685248
  unfold val5
  simp only [Int.reducePow] at e
  rw [e]
  simp only [show ∀ a b : Int, a * (19 * b) = 19 * (a * b) by intro a b; rw [Int.mul_left_comm]] at h0 h1 h2 h3
  generalize x0*y0 = p00 at *
  generalize x0*y1 = p01 at *
  generalize x0*y2 = p02 at *
  generalize x0*y3 = p03 at *
  generalize x0*y4 = p04 at *
  generalize x1*y0 = p10 at *
  generalize x1*y1 = p11 at *
  generalize x1*y2 = p12 at *
  generalize x1*y3 = p13 at *
  generalize x1*y4 = p14 at *
  generalize x2*y0 = p20 at *
  generalize x2*y1 = p21 at *
  generalize x2*y2 = p22 at *
  generalize x2*y3 = p23 at *
  generalize x2*y4 = p24 at *
  generalize x3*y0 = p30 at *
  generalize x3*y1 = p31 at *
  generalize x3*y2 = p32 at *
  generalize x3*y3 = p33 at *
  generalize x3*y4 = p34 at *
  generalize x4*y0 = p40 at *
  generalize x4*y1 = p41 at *
  generalize x4*y2 = p42 at *
  generalize x4*y3 = p43 at *
  generalize x4*y4 = p44 at *
  clear e
  omega

theorem ret_int {k : IntKind} {a b : Int} (h : a = b) : Ending.returned (.int k a) = .returned (.int k b) := by rw [h]

theorem ret2_int {k l : IntKind} {a b c d : Int} (h : a = b) (g : c = d) : Ending.returned (.tuple #[.int k a, .int l c]) = .returned (.tuple #[.int k b, .int l d]) := by rw [h, g]

/-- What carried does, without its words. -/
structure Carried (p0 p1 p2 p3 p4 q0 q1 q2 q3 q4 ab : Int) : Prop where
  eq : val5 p0 p1 p2 p3 p4 = val5 q0 q1 q2 q3 q4 + 57896044618658097711785492504343953926634992332820282019728792003956564819968 * ab

theorem m32N (a : Nat) (ha : a < 18446744073709551616) : bits .and .u64 (a : Int) 4294967295 = ((a % 4294967296 : Nat) : Int) := by
  have h := bits_and_u64_nat a 4294967295 ha (by omega)
  have e : a &&& 4294967295 = a % 4294967296 := Nat.and_two_pow_sub_one_eq_mod a 32
  rw [e] at h
  exact h

theorem d32N (a : Nat) : (a : Int) / 4294967296 = ((a / 4294967296 : Nat) : Int) := by omega

theorem wN (a : Nat) (ha : a < 18446744073709551616) : IntKind.u64.wrap (a : Int) = (a : Int) := by rw [IntKind.wrap_u64]; omega

theorem wM (a : Nat) : IntKind.u64.wrap (a : Int) = ((a % 18446744073709551616 : Nat) : Int) := by rw [IntKind.wrap_u64]; omega

theorem prod_le {x y a b : Int} (h0 : 0 ≤ x) (h1 : 0 ≤ y) (hx : x ≤ a) (hy : y ≤ b) : 0 ≤ x * y ∧ x * y ≤ a * b :=
  ⟨Int.mul_nonneg h0 h1, Int.mul_le_mul hx hy h1 (Int.le_trans h0 hx)⟩

/-- What row does, without its words. -/
structure RowEq (T lo c : Int) : Prop where
  eq : T = lo + 2251799813685248 * c

theorem row_num (carry x0 x1 x2 x3 x4 y0 y1 y2 y3 y4 : Int)
    (p0 : 0 ≤ x0) (p1 : 0 ≤ x1) (p2 : 0 ≤ x2) (p3 : 0 ≤ x3) (p4 : 0 ≤ x4) (q0 : x0 < 2251799813685248) (q1 : x1 < 2251799813685248) (q2 : x2 < 2251799813685248) (q3 : x3 < 2251799813685248) (q4 : x4 < 2251799813685248)
    (r0 : 0 ≤ y0) (r1 : 0 ≤ y1) (r2 : 0 ≤ y2) (r3 : 0 ≤ y3) (r4 : 0 ≤ y4) (s0 : y0 ≤ 42784196460019712) (s1 : y1 ≤ 42784196460019712) (s2 : y2 ≤ 42784196460019712) (s3 : y3 ≤ 42784196460019712) (s4 : y4 ≤ 42784196460019712)
    (c0 : 0 ≤ carry) (c1 : carry < 18446744073709551616) :
    ∃ lo c : Int, RowEq (carry + x0 * y0 + x1 * y1 + x2 * y2 + x3 * y3 + x4 * y4) lo c ∧ 0 ≤ lo ∧ lo < 2251799813685248 ∧ 0 ≤ c ∧ c < 288230376151711744 := by
  have z0 := prod_le p0 r0 (Int.le_of_lt q0) s0
  have z1 := prod_le p1 r1 (Int.le_of_lt q1) s1
  have z2 := prod_le p2 r2 (Int.le_of_lt q2) s2
  have z3 := prod_le p3 r3 (Int.le_of_lt q3) s3
  have z4 := prod_le p4 r4 (Int.le_of_lt q4) s4
  simp only [Int.reduceMul] at z0 z1 z2 z3 z4
  exact ⟨(carry + x0 * y0 + x1 * y1 + x2 * y2 + x3 * y3 + x4 * y4) % 2251799813685248, (carry + x0 * y0 + x1 * y1 + x2 * y2 + x3 * y3 + x4 * y4) / 2251799813685248, ⟨by omega⟩, by omega, by omega, by omega, by omega⟩

theorem quiet_left {P : Program} {f : FuncId} {args : Array Value} {w : World} {n : Nat} {v : Value}
    (h : Calls P f args (w.drewN n) fun e w' => e = .returned v ∧ w.drewN n = w') : Calls P f args (w.drewN n) fun e w'' => e = .returned v ∧ ∃ m, w'' = w.drewN m :=
  h.mono fun _ _ ⟨he, hw⟩ => ⟨he, n, hw.symm⟩

theorem val_El (a : Nat) : val5 ((a : Int) % 2251799813685248) ((a : Int) / 2251799813685248 % 2251799813685248) ((a : Int) / 5070602400912917605986812821504 % 2251799813685248) ((a : Int) / 11417981541647679048466287755595961091061972992 % 2251799813685248) ((a : Int) / 25711008708143844408671393477458601640355247900524685364822016) = a := by
  unfold val5; omega

theorem eq_keys (l1 l2 : List Int) (h1 : l1.length = 32) (h2 : l2.length = 32) (w : World) :
    (Op.equalIn 10000 25 (.agg (Iv .u8 l1)) (.agg (Iv .u8 l2))).run Tryd.prog w = .ok (decide (l1 = l2)) w := by
  obtain ⟨i, hi⟩ : ∃ i, Tryd.prog.info? 5 = some i := info_of_underlying Tryd.underlying5
  exact run_eq_ints w 9998 (n := 32) (e := 5) Tryd.underlying25 hi Tryd.underlying5 (by kernel_rfl) (by kernel_rfl) l1 l2 h1 h2

theorem eql_keys (l1 l2 : List Int) (h1 : l1.length = 32) (h2 : l2.length = 32) (w : World) :
    (binOp .eql 25 (.agg (Iv .u8 l1)) (.agg (Iv .u8 l2))).run Tryd.prog w = .ok (.bool (decide (l1 = l2))) w := by
  rw [run_eql_struct, eq_keys l1 l2 h1 h2]
  rfl

theorem El_Iv (n : Nat) : El_cells n = Iv .u64 [(n : Int) % 2251799813685248, (n : Int) / 2251799813685248 % 2251799813685248, (n : Int) / 5070602400912917605986812821504 % 2251799813685248, (n : Int) / 11417981541647679048466287755595961091061972992 % 2251799813685248, (n : Int) / 25711008708143844408671393477458601640355247900524685364822016] := rfl

theorem ret_bool {a b : Bool} (h : a = b) : Ending.returned (.bool a) = .returned (.bool b) := by rw [h]

theorem and1 (x : Int) (h0 : 0 ≤ x) (h1 : x < 18446744073709551616) : bits .and .u64 x 1 = x % 2 := by
  obtain ⟨n, rfl⟩ := Int.eq_ofNat_of_zero_le h0
  have h := bits_and_u64_nat n 1 (by omega) (by omega)
  have e : n &&& 1 = n % 2 := Nat.and_two_pow_sub_one_eq_mod n 1
  rw [e] at h
  exact h

/-- Byte i of a number. -/
def byteAt (n i : Nat) : Nat := n / 256 ^ i % 256

/-- The 32 bytes of a number, the lowest first, as a Key. -/
def keyOf (n : Nat) : List Int := (List.range 32).map fun i => ((byteAt n i : Nat) : Int)

def Key (l : List Int) : Value := .agg (Iv .u8 l)

theorem keyOf_length (n : Nat) : (keyOf n).length = 32 := by simp [keyOf]

theorem byte_word (n k : Nat) : n / 2 ^ (64 * (k / 8)) % 2 ^ 64 / 2 ^ (k % 8 * 8) % 256 = byteAt n k := by
  have e : (2 : Nat) ^ 64 = 2 ^ (k % 8 * 8) * 2 ^ (64 - k % 8 * 8) := by rw [← Nat.pow_add]; congr 1; omega
  have d : (256 : Nat) ∣ 2 ^ (64 - k % 8 * 8) := by
    have : (256 : Nat) = 2 ^ 8 := rfl
    rw [this]
    exact Nat.pow_dvd_pow 2 (by omega)
  rw [e, Nat.mod_mul_right_div_self, Nat.mod_mod_of_dvd _ d, Nat.div_div_eq_div_mul, ← Nat.pow_add]
  unfold byteAt
  have : (256 : Nat) ^ k = 2 ^ (8 * k) := by rw [Nat.pow_mul]
  rw [this]
  congr 3
  omega

theorem word0 (n : Nat) : bits .or .u64 ((n : Int) % 2251799813685248) (IntKind.u64.wrap ((n : Int) / 2251799813685248 % 2251799813685248 * 2251799813685248)) = (n : Int) % 18446744073709551616 := by
  rw [IntKind.wrap_u64, or_comm64, or64 51 _ _ (by omega) (by omega) (by omega) (by omega) (by omega) (by decide)]; omega

theorem word1 (n : Nat) : bits .or .u64 ((n : Int) / 2251799813685248 % 2251799813685248 / 8192) (IntKind.u64.wrap ((n : Int) / 5070602400912917605986812821504 % 2251799813685248 * 274877906944)) = (n : Int) / 18446744073709551616 % 18446744073709551616 := by
  rw [IntKind.wrap_u64, or_comm64, or64 38 _ _ (by omega) (by omega) (by omega) (by omega) (by omega) (by decide)]; omega

theorem word2 (n : Nat) : bits .or .u64 ((n : Int) / 5070602400912917605986812821504 % 2251799813685248 / 67108864) (IntKind.u64.wrap ((n : Int) / 11417981541647679048466287755595961091061972992 % 2251799813685248 * 33554432)) = (n : Int) / 340282366920938463463374607431768211456 % 18446744073709551616 := by
  rw [IntKind.wrap_u64, or_comm64, or64 25 _ _ (by omega) (by omega) (by omega) (by omega) (by omega) (by decide)]; omega

theorem word3 (n : Nat) (hn : n < 57896044618658097711785492504343953926634992332820282019728792003956564819949) : bits .or .u64 ((n : Int) / 11417981541647679048466287755595961091061972992 % 2251799813685248 / 549755813888) ((n : Int) / 25711008708143844408671393477458601640355247900524685364822016 * 4096) = (n : Int) / 6277101735386680763835789423207666416102355444464034512896 % 18446744073709551616 := by
  rw [or_comm64, or64 12 _ _ (by omega) (by omega) (by omega) (by omega) (by omega) (by decide)]; omega

/-- Word j of a number. -/
def wordAt (n j : Nat) : Nat := n / 2 ^ (64 * j) % 2 ^ 64

theorem words_eq (n : Nat) : [(n : Int) % 18446744073709551616, (n : Int) / 18446744073709551616 % 18446744073709551616, (n : Int) / 340282366920938463463374607431768211456 % 18446744073709551616, (n : Int) / 6277101735386680763835789423207666416102355444464034512896 % 18446744073709551616] =
    (List.range 4).map fun j => ((wordAt n j : Nat) : Int) := by
  simp only [List.range, List.range.loop, List.map_cons, List.map_nil, wordAt, Nat.reduceMul, Nat.reducePow, Nat.div_one]
  simp only [Int.natCast_emod, Int.natCast_ediv]
  rfl

theorem info_key (l : List Int) (h : l.length = 32) : (Tryd.prog.info? 25).map (·.size) = some (Iv .u8 l).size := by
  have i : (Tryd.prog.info? 25).map (·.size) = some 32 := by kernel_rfl
  rw [i, Iv_size, h]

/-- The number of the first k bytes, the lowest first. -/
def leTo (f : Nat → Nat) : Nat → Nat
  | 0 => 0
  | k + 1 => leTo f k + f k * 256 ^ k

theorem leTo_lt (f : Nat → Nat) (hf : ∀ i, f i < 256) : ∀ k, leTo f k < 256 ^ k
  | 0 => by simp [leTo]
  | k + 1 => by
    have ih := leTo_lt f hf k
    have h := hf k
    have h2 : f k * 256 ^ k ≤ 255 * 256 ^ k := Nat.mul_le_mul_right _ (by omega)
    have h3 : (256 : Nat) ^ (k + 1) = 256 * 256 ^ k := by rw [Nat.pow_succ, Nat.mul_comm]
    simp only [leTo]
    omega

/-- The bytes of an argument. -/
structure Bytes32 (l : List Int) (f : Nat → Nat) : Prop where
  len : l.length = 32
  get : ∀ i, i < 32 → l.getD i 0 = ((f i : Nat) : Int)
  lt : ∀ i, f i < 256

theorem word_same (v b k j : Nat) (hj : j < k / 8) : wordAt (v + b * 256 ^ k) j = wordAt v j := by
  unfold wordAt
  have e : (256 : Nat) ^ k = 2 ^ (64 * j) * (2 ^ 64 * 2 ^ (8 * k - 64 * j - 64)) := by
    rw [← Nat.pow_add, ← Nat.pow_add]
    have : (256 : Nat) = 2 ^ 8 := rfl
    rw [this, ← Nat.pow_mul]
    congr 1
    omega
  have e2 : b * 256 ^ k = 2 ^ (64 * j) * (2 ^ 64 * (b * 2 ^ (8 * k - 64 * j - 64))) := by
    rw [e, ← Nat.mul_assoc, ← Nat.mul_assoc, Nat.mul_comm b, Nat.mul_assoc, Nat.mul_assoc, Nat.mul_left_comm b]
  rw [e2, Nat.add_mul_div_left _ _ (Nat.two_pow_pos _), Nat.add_mul_mod_self_left]

theorem word_high (v k j : Nat) (hv : v < 256 ^ k) (hj : k ≤ 8 * j) : wordAt v j = 0 := by
  unfold wordAt
  have : v < 2 ^ (64 * j) := Nat.lt_of_lt_of_le hv (by
    have : (256 : Nat) = 2 ^ 8 := rfl
    rw [this, ← Nat.pow_mul]
    exact Nat.pow_le_pow_right (by decide) (by omega))
  rw [Nat.div_eq_of_lt this]

theorem word_add (v b k : Nat) (hv : v < 256 ^ k) (hb : b < 256) : wordAt (v + b * 256 ^ k) (k / 8) = wordAt v (k / 8) + b * 2 ^ (k % 8 * 8) ∧ wordAt v (k / 8) < 2 ^ (k % 8 * 8) := by
  unfold wordAt
  have e : (256 : Nat) ^ k = 2 ^ (64 * (k / 8)) * 2 ^ (k % 8 * 8) := by
    rw [← Nat.pow_add]
    have : (256 : Nat) = 2 ^ 8 := rfl
    rw [this, ← Nat.pow_mul]
    congr 1
    omega
  have e2 : b * 256 ^ k = 2 ^ (64 * (k / 8)) * (b * 2 ^ (k % 8 * 8)) := by rw [e, Nat.mul_left_comm]
  have hq : v / 2 ^ (64 * (k / 8)) < 2 ^ (k % 8 * 8) := by
    rw [Nat.div_lt_iff_lt_mul (Nat.two_pow_pos _), Nat.mul_comm, ← e]
    exact hv
  have hp : 2 ^ (k % 8 * 8) * 256 ≤ 2 ^ 64 := by
    have : (256 : Nat) = 2 ^ 8 := rfl
    rw [this, ← Nat.pow_add]
    exact Nat.pow_le_pow_right (by decide) (by omega)
  have hbm : b * 2 ^ (k % 8 * 8) ≤ 255 * 2 ^ (k % 8 * 8) := Nat.mul_le_mul_right _ (by omega)
  rw [e2, Nat.add_mul_div_left _ _ (Nat.two_pow_pos _), Nat.mod_eq_of_lt (a := v / 2 ^ (64 * (k / 8))) (by omega), Nat.mod_eq_of_lt (by omega)]
  exact ⟨rfl, hq⟩

/-- What '|=' does to the word at hand. -/
theorem or_byte (v b k : Nat) (hv : v < 256 ^ k) (hb : b < 256) :
    bits .or .u64 ((wordAt v (k / 8) : Nat) : Int) (IntKind.u64.wrap ((b : Int) * 2 ^ (k % 8 * 8))) = ((wordAt (v + b * 256 ^ k) (k / 8) : Nat) : Int) := by
  obtain ⟨h1, h2⟩ := word_add v b k hv hb
  have hbm : b * 2 ^ (k % 8 * 8) ≤ 255 * 2 ^ (k % 8 * 8) := Nat.mul_le_mul_right _ (by omega)
  have hp : 2 ^ (k % 8 * 8) * 256 ≤ 2 ^ 64 := by
    have : (256 : Nat) = 2 ^ 8 := rfl
    rw [this, ← Nat.pow_add]
    exact Nat.pow_le_pow_right (by decide) (by omega)
  have ec : (b : Int) * 2 ^ (k % 8 * 8) = ((b * 2 ^ (k % 8 * 8) : Nat) : Int) := by
    rw [Int.natCast_mul, Int.natCast_pow]
    rfl
  have ep : (2 : Int) ^ (k % 8 * 8) = ((2 ^ (k % 8 * 8) : Nat) : Int) := by
    rw [Int.natCast_pow]
    rfl
  rw [ec, wraps_u64 _ (by omega) (by omega), or_comm64, or64 (k % 8 * 8) _ _ (by omega) (by
    rw [ep, ← Int.natCast_emod, Nat.mul_mod_left]; rfl) (by omega) (by omega) (by rw [ep]; omega) (by rw [ep]; omega), h1]
  omega

theorem word_int (v j : Nat) : ((wordAt v j : Nat) : Int) = (v : Int) / ((2 ^ (64 * j) : Nat) : Int) % 18446744073709551616 := by
  unfold wordAt
  rw [Int.natCast_emod, Int.natCast_ediv]
  rfl

theorem part0 (v : Nat) : bits .and .u64 ((wordAt v 0 : Nat) : Int) 2251799813685247 = (v : Int) % 2251799813685248 := by
  have := word_int v 0
  simp only [Nat.reduceMul, Nat.reducePow] at this
  rw [and51 _ (by omega) (by omega)]; omega

theorem part1 (v : Nat) : bits .and .u64 (bits .or .u64 (((wordAt v 0 : Nat) : Int) / 2251799813685248) (IntKind.u64.wrap (((wordAt v 1 : Nat) : Int) * 8192))) 2251799813685247 = (v : Int) / 2251799813685248 % 2251799813685248 := by
  have h0 := word_int v 0
  have h1 := word_int v 1
  simp only [Nat.reduceMul, Nat.reducePow] at h0 h1
  rw [IntKind.wrap_u64, or_comm64, or64 13 _ _ (by omega) (by omega) (by omega) (by omega) (by omega) (by decide), and51 _ (by omega) (by omega)]; omega

theorem part2 (v : Nat) : bits .and .u64 (bits .or .u64 (((wordAt v 1 : Nat) : Int) / 274877906944) (IntKind.u64.wrap (((wordAt v 2 : Nat) : Int) * 67108864))) 2251799813685247 = (v : Int) / 5070602400912917605986812821504 % 2251799813685248 := by
  have h0 := word_int v 1
  have h1 := word_int v 2
  simp only [Nat.reduceMul, Nat.reducePow] at h0 h1
  rw [IntKind.wrap_u64, or_comm64, or64 26 _ _ (by omega) (by omega) (by omega) (by omega) (by omega) (by decide), and51 _ (by omega) (by omega)]; omega

theorem part3 (v : Nat) : bits .and .u64 (bits .or .u64 (((wordAt v 2 : Nat) : Int) / 33554432) (IntKind.u64.wrap (((wordAt v 3 : Nat) : Int) * 549755813888))) 2251799813685247 = (v : Int) / 11417981541647679048466287755595961091061972992 % 2251799813685248 := by
  have h0 := word_int v 2
  have h1 := word_int v 3
  simp only [Nat.reduceMul, Nat.reducePow] at h0 h1
  rw [IntKind.wrap_u64, or_comm64, or64 39 _ _ (by omega) (by omega) (by omega) (by omega) (by omega) (by decide), and51 _ (by omega) (by omega)]; omega

theorem part4 (v : Nat) (hv : v < 115792089237316195423570985008687907853269984665640564039457584007913129639936) : bits .and .u64 (((wordAt v 3 : Nat) : Int) / 4096) 2251799813685247 = (v : Int) / 25711008708143844408671393477458601640355247900524685364822016 % 2251799813685248 := by
  have h0 := word_int v 3
  simp only [Nat.reduceMul, Nat.reducePow] at h0
  rw [and51 _ (by omega) (by omega)]; omega

theorem and_all (x : Nat) (hx : x < 18446744073709551616) : bits .and .u64 18446744073709551615 ((x : Nat) : Int) = ((x : Nat) : Int) := by
  have h := u64_and_nat 18446744073709551615 x (by omega) hx
  have e : 18446744073709551615 &&& x = x := by
    rw [Nat.and_comm]
    have := Nat.and_two_pow_sub_one_eq_mod x 64
    simp only [Nat.reducePow, Nat.reduceSub] at this
    rw [this]
    omega
  rw [e] at h
  exact h

theorem and_none (x : Nat) (hx : x < 18446744073709551616) : bits .and .u64 0 ((x : Nat) : Int) = 0 := by
  have h := u64_and_nat 0 x (by omega) hx
  rw [Nat.zero_and] at h
  exact h

/-- The mask of a swap. -/
def maskOf (s : Nat) : Int := IntKind.u64.wrap (-(bits .and .u64 (s : Int) 1))

theorem maskOf_odd (s : Nat) (hs : s < 18446744073709551616) (h : s % 2 = 1) : maskOf s = 18446744073709551615 := by
  unfold maskOf
  rw [and1 _ (by omega) (by omega), IntKind.wrap_u64]; omega

theorem maskOf_even (s : Nat) (hs : s < 18446744073709551616) (h : s % 2 = 0) : maskOf s = 0 := by
  unfold maskOf
  rw [and1 _ (by omega) (by omega), IntKind.wrap_u64]; omega

theorem swap_one (s x y : Nat) (hs : s < 18446744073709551616) (hx : x < 18446744073709551616) (hy : y < 18446744073709551616) :
    bits .xor .u64 (x : Int) (bits .and .u64 (maskOf s) (bits .xor .u64 (x : Int) (y : Int))) = ((if s % 2 = 1 then y else x : Nat) : Int) ∧
    bits .xor .u64 (y : Int) (bits .and .u64 (maskOf s) (bits .xor .u64 (x : Int) (y : Int))) = ((if s % 2 = 1 then x else y : Nat) : Int) := by
  have hxy : x ^^^ y < 18446744073709551616 := Nat.xor_lt_two_pow (n := 64) hx hy
  rw [u64_xor_nat x y hx hy]
  by_cases h : s % 2 = 1
  · rw [maskOf_odd s hs h, and_all _ hxy, u64_xor_nat _ _ hx hxy, u64_xor_nat _ _ hy hxy, if_pos h, if_pos h, ← Nat.xor_assoc, Nat.xor_self, Nat.zero_xor, Nat.xor_comm x y, ← Nat.xor_assoc, Nat.xor_self, Nat.zero_xor]
    exact ⟨rfl, rfl⟩
  · rw [maskOf_even s hs (by omega), and_none _ hxy, if_neg h, if_neg h]
    have h1 := u64_xor_nat x 0 hx (by omega)
    have h2 := u64_xor_nat y 0 hy (by omega)
    rw [Nat.xor_zero] at h1 h2
    exact ⟨h1, h2⟩

/-- The first k of n numbers are f's, the others g's. -/
def mix (n : Nat) (f g : Nat → Nat) (k : Nat) : List Int := (List.range n).map fun i => ((if i < k then f i else g i : Nat) : Int)

theorem mix_set (n : Nat) (f g : Nat → Nat) (k : Nat) : (mix n f g k).set k ((f k : Nat) : Int) = mix n f g (k + 1) := by
  apply List.ext_getElem (by simp [mix])
  intro i h1 h2
  simp only [mix, List.length_map, List.length_range] at h2
  simp only [mix, List.getElem_set, List.getElem_map, List.getElem_range]
  by_cases h : k = i
  · subst h; simp
  · rw [if_neg h]
    by_cases h3 : i < k
    · rw [if_pos h3, if_pos (by omega)]
    · rw [if_neg h3, if_neg (by omega)]

theorem mix_length (n : Nat) (f g : Nat → Nat) (k : Nat) : (mix n f g k).length = n := by simp [mix]

theorem mix_getD (n : Nat) (f g : Nat → Nat) (k i : Nat) (h : i < n) : (mix n f g k).getD i 0 = ((if i < k then f i else g i : Nat) : Int) := by simp [mix, h]

/-- Part i of a number. -/
def partAt (n i : Nat) : Nat := if i < 4 then n / 2 ^ (51 * i) % 2 ^ 51 else n / 2 ^ 204

theorem El_mix (n : Nat) (g : Nat → Nat) : El_cells n = Iv .u64 (mix 5 (partAt n) g 5) := by
  rw [El_Iv]
  simp only [mix, List.range, List.range.loop, List.map_cons, List.map_nil, partAt]
  simp only [Nat.reduceMul, Nat.reducePow, Nat.reduceLT, if_true, if_false, Int.natCast_emod, Int.natCast_ediv, Nat.div_one]
  rfl

theorem El_mix0 (n : Nat) (f : Nat → Nat) : El_cells n = Iv .u64 (mix 5 f (partAt n) 0) := by
  rw [El_Iv]
  simp only [mix, List.range, List.range.loop, List.map_cons, List.map_nil, partAt]
  simp only [Nat.reduceMul, Nat.reducePow, Nat.reduceLT, if_true, if_false, Int.natCast_emod, Int.natCast_ediv, Nat.div_one, Nat.not_lt_zero]
  rfl

/-- The first of two, or the second, if s is odd. -/
def swapped (s a b : Nat) : Nat := if s % 2 = 1 then b else a

/-- 32 bytes 255, but for the lowest and the highest one. -/
def onesOf (lo hi i : Nat) : Nat := if i = 0 then lo else if i = 31 then hi else 255

theorem info_uint8 : (Tryd.prog.info? 5).map (·.size) = some 1 := by kernel_rfl

structure OnesW (w wr : World) (k : Nat) : Prop where
  res : Blk wr w.heap.size 25 (Iv .u8 (List.replicate 32 0))
  key : Blk wr (w.heap.size + 1) 25 (Iv .u8 (fill 32 (fun _ => 255) k))
  b : Below w.heap.size w wr

theorem OnesW.step {w wr : World} {k : Nat} (h : OnesW w wr k) : OnesW w (wr.setCell ⟨w.heap.size + 1, k, none⟩ (.int .u8 255)) (k + 1) := by
  refine ⟨h.res.far (by simp) _, ?_, h.b.setCell (by simp) _⟩
  have := h.key.set k (.int .u8 255)
  rw [Iv_set, fill_set 32 (fun _ => 255) k] at this
  exact this

theorem ones_list (lo hi : Nat) : ((fill 32 (fun _ => 255) 32).set 0 ((lo : Nat) : Int)).set 31 ((hi : Nat) : Int) = (List.range 32).map fun i => ((onesOf lo hi i : Nat) : Int) := by
  simp [fill, List.range, List.range.loop, onesOf]

theorem leTo_byte (f : Nat → Nat) (hf : ∀ i, f i < 256) : ∀ n i, i < n → leTo f n / 256 ^ i % 256 = f i
  | 0, i, h => by omega
  | n + 1, i, h => by
    by_cases hi : i < n
    · have ih := leTo_byte f hf n i hi
      have e : f n * 256 ^ n = 256 ^ i * (256 * (f n * 256 ^ (n - i - 1))) := by
        have : (256 : Nat) ^ n = 256 ^ i * (256 * 256 ^ (n - i - 1)) := by
          rw [← Nat.pow_succ', ← Nat.pow_add]
          congr 1
          omega
        rw [this, Nat.mul_left_comm (f n), Nat.mul_left_comm (f n)]
      simp only [leTo]
      rw [e, Nat.add_mul_div_left _ _ (Nat.pow_pos (by decide)), Nat.add_mul_mod_self_left]
      exact ih
    · have hin : i = n := by omega
      subst hin
      have h1 := leTo_lt f hf i
      simp only [leTo]
      rw [Nat.add_mul_div_right _ _ (Nat.pow_pos (by decide)), Nat.div_eq_of_lt h1, Nat.zero_add, Nat.mod_eq_of_lt (hf i)]

theorem leTo_bit (f : Nat → Nat) (hf : ∀ i, f i < 256) (n j : Nat) (h : j / 8 < n) : f (j / 8) / 2 ^ (j % 8) % 2 = leTo f n / 2 ^ j % 2 := by
  rw [← leTo_byte f hf n (j / 8) h]
  have e : (256 : Nat) = 2 ^ (j % 8) * 2 ^ (8 - j % 8) := by
    rw [← Nat.pow_add, show j % 8 + (8 - j % 8) = 8 by omega]
  have d : (2 : Nat) ∣ 2 ^ (8 - j % 8) := by
    have := Nat.pow_dvd_pow 2 (show 1 ≤ 8 - j % 8 by omega)
    simpa using this
  have h8 : (256 : Nat) ^ (j / 8) = 2 ^ (8 * (j / 8)) := by rw [Nat.pow_mul]
  rw [h8]
  conv => lhs; rw [e]
  rw [Nat.mod_mul_right_div_self, Nat.mod_mod_of_dvd _ d, Nat.div_div_eq_div_mul, ← Nat.pow_add]
  congr 3
  omega

theorem swapped_mod {s t : Nat} (h : s % 2 = t % 2) (a b : Nat) : swapped s a b = swapped t a b := by unfold swapped; rw [h]

theorem key_18 : Iv .u8 (keyOf 18) = #[.int .u8 18, .int .u8 0, .int .u8 0, .int .u8 0, .int .u8 0, .int .u8 0, .int .u8 0, .int .u8 0, .int .u8 0, .int .u8 0, .int .u8 0, .int .u8 0, .int .u8 0, .int .u8 0, .int .u8 0, .int .u8 0, .int .u8 0, .int .u8 0, .int .u8 0, .int .u8 0, .int .u8 0, .int .u8 0, .int .u8 0, .int .u8 0, .int .u8 0, .int .u8 0, .int .u8 0, .int .u8 0, .int .u8 0, .int .u8 0, .int .u8 0, .int .u8 0] := by
  simp [keyOf, Iv, byteAt, List.range, List.range.loop]

theorem key_1 : Iv .u8 (keyOf 1) = #[.int .u8 1, .int .u8 0, .int .u8 0, .int .u8 0, .int .u8 0, .int .u8 0, .int .u8 0, .int .u8 0, .int .u8 0, .int .u8 0, .int .u8 0, .int .u8 0, .int .u8 0, .int .u8 0, .int .u8 0, .int .u8 0, .int .u8 0, .int .u8 0, .int .u8 0, .int .u8 0, .int .u8 0, .int .u8 0, .int .u8 0, .int .u8 0, .int .u8 0, .int .u8 0, .int .u8 0, .int .u8 0, .int .u8 0, .int .u8 0, .int .u8 0, .int .u8 0] := by
  simp [keyOf, Iv, byteAt, List.range, List.range.loop]

theorem eql_key_self (n : Nat) (W : World) : (binOp .eql 25 (.agg (Iv .u8 (keyOf n))) (.agg (Iv .u8 (keyOf n)))).run Tryd.prog W = .ok (.bool true) W := by
  rw [eql_keys _ _ (keyOf_length n) (keyOf_length n)]
  simp

theorem eql_key_18 (W : World) : (binOp .eql 25 (.agg (Iv .u8 (keyOf 18))) (.agg #[.int .u8 18, .int .u8 0, .int .u8 0, .int .u8 0, .int .u8 0, .int .u8 0, .int .u8 0, .int .u8 0, .int .u8 0, .int .u8 0, .int .u8 0, .int .u8 0, .int .u8 0, .int .u8 0, .int .u8 0, .int .u8 0, .int .u8 0, .int .u8 0, .int .u8 0, .int .u8 0, .int .u8 0, .int .u8 0, .int .u8 0, .int .u8 0, .int .u8 0, .int .u8 0, .int .u8 0, .int .u8 0, .int .u8 0, .int .u8 0, .int .u8 0, .int .u8 0])).run Tryd.prog W = .ok (.bool true) W := by
  rw [← key_18]
  exact eql_key_self 18 W

theorem eql_key_1 (W : World) : (binOp .eql 25 (.agg (Iv .u8 (keyOf 1))) (.agg #[.int .u8 1, .int .u8 0, .int .u8 0, .int .u8 0, .int .u8 0, .int .u8 0, .int .u8 0, .int .u8 0, .int .u8 0, .int .u8 0, .int .u8 0, .int .u8 0, .int .u8 0, .int .u8 0, .int .u8 0, .int .u8 0, .int .u8 0, .int .u8 0, .int .u8 0, .int .u8 0, .int .u8 0, .int .u8 0, .int .u8 0, .int .u8 0, .int .u8 0, .int .u8 0, .int .u8 0, .int .u8 0, .int .u8 0, .int .u8 0, .int .u8 0, .int .u8 0])).run Tryd.prog W = .ok (.bool true) W := by
  rw [← key_1]
  exact eql_key_self 1 W

structure AwakeW (w wr : World) (k : Nat) : Prop where
  key : Blk wr w.heap.size 25 (Iv .u8 (fill 32 (fun _ => 255) k))
  b : Below w.heap.size w wr

theorem AwakeW.step {w wr : World} {k : Nat} (h : AwakeW w wr k) : AwakeW w (wr.setCell ⟨w.heap.size, k, none⟩ (.int .u8 255)) (k + 1) := by
  refine ⟨?_, h.b.setCell (by simp) _⟩
  have := h.key.set k (.int .u8 255)
  rw [Iv_set, fill_set 32 (fun _ => 255) k] at this
  exact this

theorem bytes_255 : Bytes32 (fill 32 (fun _ => 255) 32) (fun _ => 255) := ⟨by simp [fill], fun i h => by rw [fill_getD _ _ _ _ h, if_pos h]; rfl, fun i => by decide⟩

end Go.Proofs.YtjkocockbglenaaDoor
