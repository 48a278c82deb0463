/- GCM's blocks as pairs of words of 64 bits: the program's reckoning against the reference's. A polynomial in two words: the program's plus, timesX, bits: their contracts. The program's read: a block as a polynomial; its contract. -/
import Derived.Test.YtpihgljdbpnehaaDoorBj0Ga
import Derived.Test.YtpihgljdbpnehaaDoorPd0Pf
import Derived.Laws.BitsLemmas
namespace Go.Proofs.YtpihgljdbpnehaaDoor
open Go
/-- Bytes as a number, from place o on, the greatest first. -/
def wB (f : Nat → Nat) (o : Nat) : Nat → Nat
 | 0 => 0
 | n + 1 => wB f o n * 256 + f (o + n)
theorem wB_lt {f : Nat → Nat} (h : ∀ i, f i < 256) (o : Nat) : ∀ n, wB f o n < 256 ^ n
 | 0 => by show 0 < 1; decide
 | n + 1 => by
  have := wB_lt h o n
  have := h (o + n)
  show wB f o n * 256 + f (o + n) < 256 ^ (n + 1)
  rw [Nat.pow_succ]
  omega
theorem wB_lt8 {f : Nat → Nat} (h : ∀ i, f i < 256) (o : Nat) : wB f o 8 < 18446744073709551616 := wB_lt h o 8
theorem wB_congr {f g : Nat → Nat} (o : Nat) : ∀ n, (∀ i, i < n → f (o + i) = g (o + i)) → wB f o n = wB g o n
 | 0, _ => rfl
 | n + 1, h => by
  show wB f o n * 256 + f (o + n) = wB g o n * 256 + g (o + n)
  rw [wB_congr o n (fun i hi => h i (by omega)), h n (by omega)]
theorem xor_join (x y a b : Nat) (ha : a < 256) (hb : b < 256) : (x * 256 + a) ^^^ (y * 256 + b) = (x ^^^ y) * 256 + (a ^^^ b) := by
 have hab : a ^^^ b < 256 := Nat.xor_lt_two_pow (n := 8) ha hb
 have h1 : ((x * 256 + a) ^^^ (y * 256 + b)) / 256 = x ^^^ y := by
  have := Nat.shiftRight_xor_distrib (a := x * 256 + a) (b := y * 256 + b) (i := 8)
  rw [Nat.shiftRight_eq_div_pow, Nat.shiftRight_eq_div_pow, Nat.shiftRight_eq_div_pow] at this
  rw [show (256 : Nat) = 2 ^ 8 from rfl, this]
  congr 1 <;> omega
 have h2 : ((x * 256 + a) ^^^ (y * 256 + b)) % 256 = a ^^^ b := by
  have := Nat.xor_mod_two_pow (a := x * 256 + a) (b := y * 256 + b) (n := 8)
  rw [show (256 : Nat) = 2 ^ 8 from rfl, this]
  congr 1 <;> omega
 omega
theorem wB_xor {f g : Nat → Nat} (hf : ∀ i, f i < 256) (hg : ∀ i, g i < 256) (o : Nat) : ∀ n, wB (fun i => f i ^^^ g i) o n = wB f o n ^^^ wB g o n
 | 0 => (Nat.xor_self 0).symm
 | n + 1 => by
  show wB (fun i => f i ^^^ g i) o n * 256 + (f (o + n) ^^^ g (o + n)) = (wB f o n * 256 + f (o + n)) ^^^ (wB g o n * 256 + g (o + n))
  rw [wB_xor hf hg o n, xor_join _ _ _ _ (hf _) (hg _)]
/-- A number's byte. -/
theorem wB_byte {f : Nat → Nat} (h : ∀ i, f i < 256) (o : Nat) : ∀ n j, j < n → wB f o n / 256 ^ (n - 1 - j) % 256 = f (o + j)
 | 0, j, hj => by omega
 | n + 1, j, hj => by
  have h1 := h (o + n)
  show (wB f o n * 256 + f (o + n)) / 256 ^ (n + 1 - 1 - j) % 256 = f (o + j)
  by_cases e : j = n
  ·
   subst e
   rw [show j + 1 - 1 - j = 0 by omega, Nat.pow_zero]
   omega
  ·
   have := wB_byte h o n j (by omega)
   rw [show n + 1 - 1 - j = 1 + (n - 1 - j) by omega, Nat.pow_add, ← Nat.div_div_eq_div_mul, Nat.pow_one, show (wB f o n * 256 + f (o + n)) / 256 = wB f o n by omega, this]
theorem wB_zero (o : Nat) : ∀ n, wB (fun _ => 0) o n = 0
 | 0 => rfl
 | n + 1 => by
  show wB (fun _ => 0) o n * 256 + 0 = 0
  rw [wB_zero o n]
theorem bit_mod (x r : Nat) (hr : r < 8) : x / 2 ^ r % 2 = x % 256 / 2 ^ r % 2 := by
 have : r = 0 ∨ r = 1 ∨ r = 2 ∨ r = 3 ∨ r = 4 ∨ r = 5 ∨ r = 6 ∨ r = 7 := by omega
 rcases this with rfl | rfl | rfl | rfl | rfl | rfl | rfl | rfl <;> omega
/-- A word's bit, of the byte where it stands. -/
theorem wB_bit {f : Nat → Nat} (h : ∀ i, f i < 256) (o t : Nat) (ht : t < 64) : wB f o 8 / 2 ^ (63 - t) % 2 = f (o + t / 8) / 2 ^ (7 - t % 8) % 2 := by
 rw [show 63 - t = 8 * (8 - 1 - t / 8) + (7 - t % 8) by omega, Nat.pow_add, Nat.pow_mul, ← Nat.div_div_eq_div_mul, bit_mod _ _ (by omega), show (2 : Nat) ^ 8 = 256 from rfl, wB_byte h o 8 (t / 8) (by omega)]
theorem shF_zero (f : Nat → Nat) : shF f 0 = f 0 / 2 := by
 unfold shF
 rw [if_pos rfl]
 omega
theorem shF_succ (f : Nat → Nat) (k : Nat) : shF f (k + 1) = f (k + 1) / 2 + f k % 2 * 128 := by
 unfold shF
 rw [if_neg (by omega)]
 rfl
theorem sh_one {f : Nat → Nat} (h : ∀ i, f i < 256) : wB (shF f) 0 8 = wB f 0 8 / 2 := by
 simp only [wB, Nat.zero_add, shF_zero, shF_succ]
 have := h 1; have := h 2; have := h 3; have := h 4; have := h 5; have := h 6; have := h 7
 generalize f 0 = a0 at *; generalize f 1 = a1 at *; generalize f 2 = a2 at *; generalize f 3 = a3 at *
 generalize f 4 = a4 at *; generalize f 5 = a5 at *; generalize f 6 = a6 at *; generalize f 7 = a7 at *
 omega
theorem sh_two {f : Nat → Nat} (h : ∀ i, f i < 256) : wB (shF f) 8 8 = f 7 % 2 * 9223372036854775808 + wB f 8 8 / 2 := by
 simp only [wB, Nat.add_zero, Nat.reduceAdd]
 rw [shF_succ f 7, shF_succ f 8, shF_succ f 9, shF_succ f 10, shF_succ f 11, shF_succ f 12, shF_succ f 13, shF_succ f 14]
 simp only [Nat.reduceAdd]
 have := h 9; have := h 10; have := h 11; have := h 12; have := h 13; have := h 14; have := h 15
 generalize f 7 = a7 at *; generalize f 8 = a0 at *; generalize f 9 = a1 at *; generalize f 10 = a2 at *; generalize f 11 = a3 at *
 generalize f 12 = a4 at *; generalize f 13 = a5 at *; generalize f 14 = a6 at *; generalize f 15 = a8 at *
 omega
theorem wB_odd (f : Nat → Nat) (o : Nat) : wB f o 8 % 2 = f (o + 7) % 2 := by
 show (wB f o 7 * 256 + f (o + 7)) % 2 = _
 omega
theorem turn_one {f : Nat → Nat} (h : ∀ i, f i < 256) : wB (gturnF f) 0 8 = wB f 0 8 / 2 ^^^ (wB f 8 8 % 2) * 16212958658533785600 := by
 rw [wB_odd, ← sh_one h]
 by_cases e : f 15 % 2 = 1
 ·
  have : wB (gturnF f) 0 8 = wB (fun i => shF f i ^^^ (if i = 0 then 225 else 0)) 0 8 := wB_congr 0 8 fun i hi => by
   rw [Nat.zero_add]
   unfold gturnF
   by_cases h0 : i = 0
   ·
    subst h0
    rw [if_pos ⟨rfl, e⟩, if_pos rfl]
   · rw [if_neg (fun h => h0 h.1), if_neg h0, Nat.xor_zero]
  rw [this, wB_xor (shF_lt h) (fun i => by split <;> omega)]
  show _ ^^^ 16212958658533785600 = _ ^^^ f 15 % 2 * 16212958658533785600
  rw [e]
 ·
  have : wB (gturnF f) 0 8 = wB (shF f) 0 8 := wB_congr 0 8 fun i hi => by
   unfold gturnF
   rw [if_neg (fun h => e h.2)]
  rw [this]
  show _ = _ ^^^ f 15 % 2 * 16212958658533785600
  rw [show f 15 % 2 = 0 by omega, Nat.zero_mul, Nat.xor_zero]
theorem turn_two {f : Nat → Nat} (h : ∀ i, f i < 256) : wB (gturnF f) 8 8 = wB f 0 8 % 2 * 9223372036854775808 + wB f 8 8 / 2 := by
 have : wB (gturnF f) 8 8 = wB (shF f) 8 8 := wB_congr 8 8 fun i hi => by
  unfold gturnF
  rw [if_neg (by omega)]
 rw [this, sh_two h, wB_odd]
end Go.Proofs.YtpihgljdbpnehaaDoor
namespace Go.Proofs.YtpihgljdbpnehaaDoor
open Go.RowKit
/-- A polynomial's cells. -/
def pc (a b : Nat) : Array Value := #[.int .u64 (a : Int), .int .u64 (b : Int)]
theorem info_pc (a b : Nat) : (Tryd.prog.info? 119).map (·.size) = some (pc a b).size := by kernel_rfl
theorem pc_one (a b : Nat) : (pc a b).all (·.oneCell') = true := by simp [pc, Value.oneCell']
theorem wraps_u64y (n : Int) (h₀ : 0 ≤ n) (h₁ : n < 2 ^ 64) : IntKind.u64.wrap n = n := by rw [IntKind.wrap_u64]; omega
theorem or64y (i : Nat) (x y : Int) (hx0 : 0 ≤ x) (hx : x % 2 ^ i = 0) (hx1 : x < 2 ^ 64) (h0 : 0 ≤ y) (h1 : y < 2 ^ i) (hi : (2 : Int) ^ i ≤ 2 ^ 64) : bits .or .u64 x y = x + y :=
 bits_join .u64 64 (by decide) wraps_u64y i x y hx0 hx hx1 h0 h1 (by omega)
set_option maxHeartbeats 1000000 in
theorem plus_w (a b c d : Nat) (ha : a < 18446744073709551616) (hb : b < 18446744073709551616) (hc : c < 18446744073709551616) (hd : d < 18446744073709551616) (w : World) :
  Calls Tryd.prog 69 #[.agg (pc a b), .agg (pc c d)] w fun e w' => e = .returned (.agg (pc (a ^^^ c) (b ^^^ d))) ∧ Below w.heap.size w w' := by
 have e1 := u64_xor_nat a c ha hc
 have e2 := u64_xor_nat b d hb hd
 unfold pc
 go_enter Tryd.func69, Tryd.ntmps69
 go_wp2
 generalize hW : World.alloc (World.alloc (World.alloc w _) _) _ = W
 have K : Blk W (w.heap.size + 1 + 1) 119 (pc (a ^^^ c) (b ^^^ d)) := hW ▸ Blk.new' (by simp) _ _
 have B : Below w.heap.size w W := hW ▸ (((Below.refl w.heap.size w).alloc (Nat.le_refl _) _).alloc (by simp) _).alloc (by simp; omega) _
 exact bodyPost_ret (results_cell_row rfl _ _ _ 119 _ (0, 0) _ rfl K Tryd.underlying119 rfl (info_pc _ _)) rfl ⟨rfl, B⟩
set_option maxHeartbeats 1000000 in
theorem bits_w (p : Option Addr) (n c : Nat) (hn : n < 1000000) (w : World) :
  Calls Tryd.prog 70 #[.slice p n c] w fun e w' => e = .returned (.int .u64 ((n * 8 : Nat) : Int)) ∧ Below w.heap.size w w' := by
 have i1 : IntKind.u64.wrap (n : Int) = (n : Int) := by rw [IntKind.wrap_u64]; omega
 have i2 : IntKind.u64.wrap (8 * (n : Int)) = ((n * 8 : Nat) : Int) := by rw [IntKind.wrap_u64]; omega
 go_enter Tryd.func70, Tryd.ntmps70
 go_wp2
 go_ret
 exact ⟨rfl, Below.refl _ _⟩
set_option maxHeartbeats 1000000 in
theorem timesX_w (a b : Nat) (ha : a < 18446744073709551616) (hb : b < 18446744073709551616) (w : World) :
  Calls Tryd.prog 80 #[.agg (pc a b)] w fun e w' => e = .returned (.agg (pc (a / 2 ^^^ (b % 2) * 16212958658533785600) (a % 2 * 9223372036854775808 + b / 2))) ∧ Below w.heap.size w w' := by
 obtain ⟨o, ho⟩ : ∃ o, o = b % 2 := ⟨_, rfl⟩
 obtain ⟨m, hm⟩ : ∃ m, m = o * 16212958658533785600 := ⟨_, rfl⟩
 obtain ⟨x, hx⟩ : ∃ x, x = a / 2 := ⟨_, rfl⟩
 obtain ⟨r, hr⟩ : ∃ r, r = b / 2 := ⟨_, rfl⟩
 obtain ⟨t, ht⟩ : ∃ t, t = a % 2 * 9223372036854775808 := ⟨_, rfl⟩
 have f1 : bits .and .u64 (b : Int) 1 = (o : Int) := by
  have h := u64_and_nat b 1 hb (by decide)
  rw [show b &&& 1 = b % 2 from Nat.and_two_pow_sub_one_eq_mod _ 1] at h
  rw [ho]
  exact h
 have f2 : IntKind.u64.wrap ((o : Int) * 16212958658533785600) = (m : Int) := by rw [IntKind.wrap_u64]; omega
 have q1 : (a : Int) / 2 = (x : Int) := by omega
 have q2 : (b : Int) / 2 = (r : Int) := by omega
 have f3 : bits .xor .u64 (x : Int) (m : Int) = ((x ^^^ m : Nat) : Int) := u64_xor_nat x m (by omega) (by omega)
 have f4 : IntKind.u64.wrap ((a : Int) * 9223372036854775808) = (t : Int) := by rw [IntKind.wrap_u64]; omega
 have f6 : bits .or .u64 (t : Int) (r : Int) = ((t + r : Nat) : Int) := by
  rw [or64y 63 _ _ (by omega) (by omega) (by omega) (by omega) (by omega) (by decide)]
  omega
 rw [← ho, ← hm, ← hx, ← hr, ← ht]
 clear ho hm hx hr ht
 unfold pc
 go_enter Tryd.func80, Tryd.ntmps80
 go_wp2
 generalize hW : World.alloc (World.alloc w _) _ = W
 have K : Blk W (w.heap.size + 1) 119 (pc (x ^^^ m) (t + r)) := hW ▸ Blk.new' (by simp) _ _
 have B : Below w.heap.size w W := hW ▸ ((Below.refl w.heap.size w).alloc (Nat.le_refl _) _).alloc (by simp) _
 exact bodyPost_ret (results_cell_row rfl _ _ _ 119 _ (0, 0) _ rfl K Tryd.underlying119 rfl (info_pc _ _)) rfl ⟨rfl, B⟩
/-- A polynomial in block g. -/
def PB (w : World) (g : Nat) (a b : Nat) : Prop := Blk w g 119 (pc a b)
theorem PB.c0 {w : World} {g a b : Nat} (h : PB w g a b) : w.cell? ⟨g, 0, none⟩ = some (.int .u64 (a : Int)) := Blk.cell h 0
theorem PB.c1 {w : World} {g a b : Nat} (h : PB w g a b) : w.cell? ⟨g, 1, none⟩ = some (.int .u64 (b : Int)) := Blk.cell h 1
theorem PB.set0 {w : World} {g a b : Nat} (h : PB w g a b) (x : Nat) : PB (w.setCell ⟨g, 0, none⟩ (.int .u64 (x : Int))) g x b := Blk.set h 0 _
theorem PB.set1 {w : World} {g a b : Nat} (h : PB w g a b) (x : Nat) : PB (w.setCell ⟨g, 1, none⟩ (.int .u64 (x : Int))) g a x := Blk.set h 1 _
end Go.Proofs.YtpihgljdbpnehaaDoor
namespace Go.Proofs.YtpihgljdbpnehaaDoor
open Go.RowKit
theorem pow256 (k : Nat) (hk : k < 8) : 256 ^ k ≤ 72057594037927936 := by
 have : 256 ^ k ≤ 256 ^ 7 := Nat.pow_le_pow_right (by decide) (by omega)
 exact this
theorem wB_lt7 {f : Nat → Nat} (h : ∀ i, f i < 256) (o k : Nat) (hk : k < 8) : wB f o k < 72057594037927936 := Nat.lt_of_lt_of_le (wB_lt h o k) (pow256 k hk)
theorem or_byte (x y : Nat) (hx : x < 72057594037927936) (hy : y < 256) : bits .or .u64 (IntKind.u64.wrap ((x : Int) * 256)) (y : Int) = ((x * 256 + y : Nat) : Int) := by
 have e : IntKind.u64.wrap ((x : Int) * 256) = ((x * 256 : Nat) : Int) := by rw [IntKind.wrap_u64]; omega
 rw [e, or64y 8 _ _ (by omega) (by omega) (by omega) (by omega) (by omega) (by decide)]
 omega
set_option maxHeartbeats 4000000 in
set_option maxRecDepth 100000 in
theorem read_w (f : Nat → Nat) (fa : ∀ i, f i < 256) (w : World) :
  Calls Tryd.prog 67 #[.agg (Iv .u8 (NI (LB f)))] w fun e w' => e = .returned (.agg (pc (wB f 0 8) (wB f 8 8))) ∧ Below w.heap.size w w' := by
 go_enter Tryd.func67, Tryd.ntmps67
 go_upto_region 3 with fail
 generalize hW : World.alloc (World.alloc (World.alloc w _) _) _ = W
 have B0 : Below w.heap.size w W := hW ▸ (((Below.refl w.heap.size w).alloc (Nat.le_refl _) _).alloc (by simp) _).alloc (by simp; omega) _
 have K0 : BB W w.heap.size f := hW ▸ ((Blk.new w 27 (Iv .u8 (NI (LB f)))).alloc _).alloc _
 have K1 : PB W (w.heap.size + 1) 0 0 := hW ▸ (Blk.new' (by simp) _ (pc 0 0)).alloc _
 have K2 : PB W (w.heap.size + 1 + 1) (wB f 0 0) (wB f 8 0) := hW ▸ Blk.new' (by simp) _ (pc 0 0)
 clear hW
 go_loopw [5] (fun i wr => ∃ k : Nat, k ≤ 8 ∧ i = .int .i64 (k : Int) ∧ BB wr w.heap.size f ∧ PB wr (w.heap.size + 1) 0 0 ∧ PB wr (w.heap.size + 1 + 1) (wB f 0 k) (wB f 8 k) ∧ Below w.heap.size w wr) (fun i _ => (8 - intOf i).toNat)
 case atStart => exact ⟨0, by omega, rfl, K0, K1, K2, B0⟩
 case round =>
  clear K0 K1 K2 B0
  obtain ⟨k, hk, rfl, K0, K1, K2, hB⟩ := hrel
  by_cases h8 : k = 8
  ·
   subst h8
   go_wp2_with (first | (refine wpList_load_row rfl 119 _ rfl (w.heap.size + 1 + 1) rfl 119 _ (0, 0) _ K2 Tryd.underlying119 rfl (info_pc _ _) ?_) | (refine wpList_store_row rfl 119 _ _ rfl (w.heap.size + 1) (pc (wB f 0 8) (wB f 8 8)) rfl rfl 119 _ K1 (info_pc _ _) rfl (pc_one _ _) ?_))
   exact bodyPost_ret (results_cell_row rfl _ _ _ 119 _ (0, 0) _ rfl (Blk.row K1 (pc (wB f 0 8) (wB f 8 8))) Tryd.underlying119 rfl (info_pc _ _)) rfl ⟨rfl, below_setRow hB (by omega) _⟩
  ·
   have i1 : (k : Int) < 8 := by omega
   have i0 : (0 : Int) ≤ (k : Int) := by omega
   have i2 : (k : Int) < 16 := by omega
   obtain ⟨x, hx⟩ : ∃ x, x = wB f 0 k := ⟨_, rfl⟩
   obtain ⟨y, hy⟩ : ∃ y, y = wB f 8 k := ⟨_, rfl⟩
   have lx : x < 72057594037927936 := hx ▸ wB_lt7 fa 0 k (by omega)
   have ly : y < 72057594037927936 := hy ▸ wB_lt7 fa 8 k (by omega)
   have nx : wB f 0 (k + 1) = x * 256 + f k := by
    show wB f 0 k * 256 + f (0 + k) = _
    rw [Nat.zero_add, hx]
   have ny : wB f 8 (k + 1) = y * 256 + f (8 + k) := by
    show wB f 8 k * 256 + f (8 + k) = _
    rw [hy]
   rw [← hx, ← hy] at K2
   have la := fa k
   have lb := fa (8 + k)
   have ca := K0.cell k (by omega)
   have cb := K0.cell (8 + k) (by omega)
   generalize f k = a at *
   generalize f (8 + k) = b at *
   have o1 := or_byte x a lx la
   have o2 := or_byte y b ly lb
   generalize x * 256 + a = s1 at *
   generalize y * 256 + b = s2 at *
   have d1 : (a : Int) % 256 = (a : Int) := by omega
   have g1 : IntKind.u64.wrap (a : Int) = (a : Int) := by rw [IntKind.wrap_u64]; omega
   have g2 : IntKind.u64.wrap (b : Int) = (b : Int) := by rw [IntKind.wrap_u64]; omega
   have j1 : IntKind.i64.wrap (8 + (k : Int)) = ((8 + k : Nat) : Int) := by rw [IntKind.wrap_i64]; omega
   have j2 : ((8 + k : Nat) : Int) < 16 := by omega
   have j3 : (0 : Int) ≤ ((8 + k : Nat) : Int) := by omega
   generalize 8 + k = q at *
   clear hx hy
   go_upto_region 5 with fail
   rename_i aK
   refine wp_region_still_tail 9 (by kernel_rfl) (by kernel_rfl) ?_
   simp only [List.take_succ_cons, List.take_zero, List.drop_succ_cons, List.drop_zero]
   change wpStill _ _ (World.drew wr) (fun a' => wpList _ _ _ _ a' (World.drew wr)) _ _
   replace K0 : BB wr.drew _ _ := K0.of_block rfl
   replace K1 : PB wr.drew _ _ _ := K1.drew
   replace K2 : PB wr.drew _ _ _ := K2.drew
   replace hB := below_drew hB
   replace ca : wr.drew.cell? ⟨w.heap.size, k, none⟩ = _ := ca
   replace cb : wr.drew.cell? ⟨w.heap.size, q, none⟩ = _ := cb
   generalize World.drew wr = V at *
   have c0 := K2.c0
   have f2 := Blk.frozen K2 0
   have K0' : BB (V.setCell ⟨w.heap.size + 1 + 1, 0, none⟩ (.int .u64 (s1 : Int))) _ _ := Blk.far (p := ⟨w.heap.size + 1 + 1, 0, none⟩) K0 (by dsimp only; omega) _
   have K1' : PB (V.setCell ⟨w.heap.size + 1 + 1, 0, none⟩ (.int .u64 (s1 : Int))) _ _ _ := Blk.far (p := ⟨w.heap.size + 1 + 1, 0, none⟩) K1 (by dsimp only; omega) _
   have K2' := K2.set0 s1
   have hB' := hB.setCell (p := ⟨w.heap.size + 1 + 1, 0, none⟩) (by dsimp only; omega) (.int .u64 (s1 : Int))
   have cb' : (V.setCell ⟨w.heap.size + 1 + 1, 0, none⟩ (.int .u64 (s1 : Int))).cell? ⟨w.heap.size, q, none⟩ = _ := (cell_congr (heap_setCell_other V _ _ _ (by dsimp only; omega))).trans cb
   clear K0 K1 K2 hB cb
   repeat still_step
   refine wpStill_nil ?_
   go_wp2_with fail
   clear c0 f2 ca
   generalize World.setCell V _ _ = V1 at *
   have K0 := K0'
   have K1 := K1'
   have K2 := K2'
   have hB := hB'
   have cb := cb'
   clear K0' K1' K2' hB' cb'
   go_upto_region 6 with fail
   rename_i aK
   refine wp_region_still_tail 10 (by kernel_rfl) (by kernel_rfl) ?_
   simp only [List.take_succ_cons, List.take_zero, List.drop_succ_cons, List.drop_zero]
   change wpStill _ _ (World.drew V1) (fun a' => wpList _ _ _ _ a' (World.drew V1)) _ _
   replace K0 : BB V1.drew _ _ := K0.of_block rfl
   replace K1 : PB V1.drew _ _ _ := K1.drew
   replace K2 : PB V1.drew _ _ _ := K2.drew
   replace hB := below_drew hB
   replace cb : V1.drew.cell? ⟨w.heap.size, q, none⟩ = _ := cb
   generalize World.drew V1 = V2 at *
   have c1 := K2.c1
   have f2 := Blk.frozen K2 1
   have K0' : BB (V2.setCell ⟨w.heap.size + 1 + 1, 1, none⟩ (.int .u64 (s2 : Int))) _ _ := Blk.far (p := ⟨w.heap.size + 1 + 1, 1, none⟩) K0 (by dsimp only; omega) _
   have K1' : PB (V2.setCell ⟨w.heap.size + 1 + 1, 1, none⟩ (.int .u64 (s2 : Int))) _ _ _ := Blk.far (p := ⟨w.heap.size + 1 + 1, 1, none⟩) K1 (by dsimp only; omega) _
   have K2' := K2.set1 s2
   have hB' := hB.setCell (p := ⟨w.heap.size + 1 + 1, 1, none⟩) (by dsimp only; omega) (.int .u64 (s2 : Int))
   clear K0 K1 K2 hB
   repeat still_step
   refine wpStill_nil ?_
   go_wp2
   exact ⟨⟨k + 1, by omega, rfl, K0', K1', by rw [nx, ny]; exact K2', hB'⟩, by simp only [intOf]; omega⟩
end Go.Proofs.YtpihgljdbpnehaaDoor
