/- Chapter 8's reckoning as plain arithmetic, as the document's answer has it: products of bytes, Sub, the rounds' keys, a block through the rounds. Lists of bytes. The reference's Byte, func4: their contracts. -/
import Derived.Test.YtpihgljdbpnehaaDoorProg
import Derived.Test.YtpihgljdbpnehaaDoorLq0Nb
import Derived.Test.YtpihgljdbpnehaaDoorLk0Lo
namespace Go.Proofs.YtpihgljdbpnehaaDoor
open Go
/-- One step of a product: doubled modulo the polynomial, joined where the bit is told. -/
def bstep (a b p i : Nat) : Nat := if b / 2 ^ i % 2 = 1 then (if 255 < p * 2 then (p * 2) ^^^ 283 else p * 2) ^^^ a else (if 255 < p * 2 then (p * 2) ^^^ 283 else p * 2)
def byteF (a b : Nat) : Nat → Nat
 | 0 => 0
 | k + 1 => bstep a b (byteF a b k) (7 - k)
/-- The product of two bytes. -/
def gm (a b : Nat) : Nat := byteF a b 8
theorem dbl_lt : ∀ p : Fin 256, (if 255 < p.val * 2 then (p.val * 2) ^^^ 283 else p.val * 2) < 256 := by decide +kernel
theorem xor_256 {a b : Nat} (ha : a < 256) (hb : b < 256) : a ^^^ b < 256 := Nat.xor_lt_two_pow (n := 8) ha hb
theorem bstep_lt {a p : Nat} (b i : Nat) (ha : a < 256) (hp : p < 256) : bstep a b p i < 256 := by
 have h := dbl_lt ⟨p, hp⟩
 unfold bstep
 split
 · exact xor_256 h ha
 · exact h
theorem byteF_lt {a : Nat} (b : Nat) (ha : a < 256) : ∀ k, byteF a b k < 256
 | 0 => by show 0 < 256; decide
 | k + 1 => bstep_lt _ _ ha (byteF_lt b ha k)
theorem gm_lt {a : Nat} (b : Nat) (ha : a < 256) : gm a b < 256 := byteF_lt b ha 8
/-- The byte whose product with x is 1, the last of them. -/
def invF (x : Nat) : Nat → Nat
 | 0 => 0
 | k + 1 => if gm x (k + 1) = 1 then k + 1 else invF x k
theorem invF_le (x : Nat) : ∀ k, invF x k ≤ k
 | 0 => Nat.le_refl _
 | k + 1 => by
  unfold invF
  split
  · exact Nat.le_refl _
  · exact Nat.le_succ_of_le (invF_le x k)
def inv8 (x : Nat) : Nat := if x = 0 then 0 else invF x 255
theorem inv8_lt (x : Nat) : inv8 x < 256 := by
 unfold inv8
 split
 · decide
 ·
  have := invF_le x 255
  omega
def sbit (y i : Nat) : Nat := (y / 2 ^ i ^^^ y / 2 ^ ((i + 4) % 8) ^^^ y / 2 ^ ((i + 5) % 8) ^^^ y / 2 ^ ((i + 6) % 8) ^^^ y / 2 ^ ((i + 7) % 8)) % 2
def outF (y : Nat) : Nat → Nat
 | 0 => 99
 | k + 1 => outF y k ^^^ (sbit y k * 2 ^ k)
theorem outF_lt (y : Nat) : ∀ k, k ≤ 8 → outF y k < 256
 | 0, _ => by show 99 < 256; decide
 | k + 1, h => by
  refine xor_256 (outF_lt y k (by omega)) ?_
  have h1 : sbit y k < 2 := Nat.mod_lt _ (by decide)
  have h2 : 2 ^ k ≤ 2 ^ 7 := Nat.pow_le_pow_right (by decide) (by omega)
  have h3 : sbit y k * 2 ^ k ≤ 1 * 2 ^ k := Nat.mul_le_mul_right _ (by omega)
  omega
/-- A byte for a byte. -/
def subN (x : Nat) : Nat := outF (inv8 x) 8
theorem subN_lt (x : Nat) : subN x < 256 := outF_lt _ 8 (Nat.le_refl _)
def boxL : List Nat := (List.range 256).map subN
theorem boxL_length : boxL.length = 256 := by simp [boxL]
theorem boxL_bytes : ∀ x ∈ boxL, x < 256 := fun x h => by
 unfold boxL at h
 obtain ⟨i, _, rfl⟩ := List.mem_map.1 h
 exact subN_lt i
/-- Four bytes of a key, as they are joined: B is the table, n how many there are. -/
def kw (B ks : List Nat) (c n j : Nat) : Nat :=
 if n % 16 = 0 then (if j = 0 then B.getD (ks.getD (n - 3) 0) 0 ^^^ c else B.getD (ks.getD (n - 4 + (j + 1) % 4) 0) 0) else ks.getD (n - 4 + j) 0
def kc (c n : Nat) : Nat := if n % 16 = 0 then gm c 2 else c
/-- The keys' bytes behind so many fours, and the power. -/
def keysF (B k : List Nat) : Nat → List Nat × Nat
 | 0 => (k, 1)
 | i + 1 => ((keysF B k i).1 ++ (List.range 4).map (fun j => (keysF B k i).1.getD (4 * i + j) 0 ^^^ kw B (keysF B k i).1 (keysF B k i).2 (16 + 4 * i) j), kc (keysF B k i).2 (16 + 4 * i))
def keysL (B k : List Nat) : List Nat := (keysF B k 40).1
theorem keysF_length (B k : List Nat) (h : k.length = 16) : ∀ i, (keysF B k i).1.length = 16 + 4 * i
 | 0 => h
 | i + 1 => by
  show ((keysF B k i).1 ++ _).length = _
  rw [List.length_append, keysF_length B k h i, List.length_map, List.length_range]
  omega
theorem keysF_c (B k : List Nat) : ∀ i, (keysF B k i).2 < 256
 | 0 => by show 1 < 256; decide
 | i + 1 => by
  show kc _ _ < 256
  unfold kc
  split
  · exact gm_lt _ (keysF_c B k i)
  · exact keysF_c B k i
theorem getD_lt {l : List Nat} (h : ∀ x ∈ l, x < 256) (i : Nat) : l.getD i 0 < 256 := by
 rw [List.getD_eq_getElem?_getD]
 by_cases hi : i < l.length
 ·
  rw [List.getElem?_eq_getElem hi]
  exact h _ (List.getElem_mem hi)
 ·
  rw [List.getElem?_eq_none (by omega)]
  decide
theorem kw_lt {B ks : List Nat} {c : Nat} (hB : ∀ x ∈ B, x < 256) (hk : ∀ x ∈ ks, x < 256) (hc : c < 256) (n j : Nat) : kw B ks c n j < 256 := by
 unfold kw
 split
 ·
  split
  · exact xor_256 (getD_lt hB _) hc
  · exact getD_lt hB _
 · exact getD_lt hk _
theorem keysF_bytes {B k : List Nat} (hB : ∀ x ∈ B, x < 256) (hk : ∀ x ∈ k, x < 256) : ∀ i, ∀ x ∈ (keysF B k i).1, x < 256
 | 0 => hk
 | i + 1 => fun x hx => by
  rcases List.mem_append.1 (show x ∈ (keysF B k i).1 ++ _ from hx) with h | h
  · exact keysF_bytes hB hk i x h
  ·
   obtain ⟨j, _, rfl⟩ := List.mem_map.1 h
   exact xor_256 (getD_lt (keysF_bytes hB hk i) _) (kw_lt hB (keysF_bytes hB hk i) (keysF_c B k i) _ _)
/-- A round's block: Subbed and moved; mixed; joined with the round's key. -/
def shiftB (B b : List Nat) (i : Nat) : Nat := B.getD (b.getD ((i + 4 * (i % 4)) % 16) 0) 0
def mixB (s : Nat → Nat) (i : Nat) : Nat := gm (s i) 2 ^^^ gm (s (i - i % 4 + (i + 1) % 4)) 3 ^^^ s (i - i % 4 + (i + 2) % 4) ^^^ s (i - i % 4 + (i + 3) % 4)
def roundB (B ks b : List Nat) (r : Nat) : List Nat := (List.range 16).map fun i => (if r < 10 then mixB (shiftB B b) i else shiftB B b i) ^^^ ks.getD (16 * r + i) 0
def blockF (B ks b : List Nat) : Nat → List Nat
 | 0 => (List.range 16).map fun i => b.getD i 0 ^^^ ks.getD i 0
 | r + 1 => roundB B ks (blockF B ks b r) (r + 1)
/-- A block, by a key. -/
def encL (B k b : List Nat) : List Nat := blockF B (keysL B k) b 10
theorem blockF_length (B ks b : List Nat) : ∀ r, (blockF B ks b r).length = 16
 | 0 => by simp [blockF]
 | r + 1 => by show (roundB _ _ _ _).length = _; simp [roundB]
end Go.Proofs.YtpihgljdbpnehaaDoor
namespace Go.Proofs.YtpihgljdbpnehaaDoor
open Go.RowKit
theorem i64_small (j : Nat) (hj : j ≤ 62) (n : Int) (h0 : 0 ≤ n) (h1 : n < 2 ^ j) : IntKind.i64.wrap n = n := by
 rw [IntKind.wrap_i64]
 have : (2 : Int) ^ j ≤ 2 ^ 62 := by exact_mod_cast Nat.pow_le_pow_right (by decide) hj
 omega
theorem ofInt_i64 (a : Nat) (ha : a < 65536) : (BitVec.ofInt 64 (a : Int)).toNat = a := by
 rw [BitVec.ofInt_natCast, BitVec.toNat_ofNat]; exact Nat.mod_eq_of_lt (by omega)
theorem i64_xor (a b : Nat) (ha : a < 65536) (hb : b < 65536) : bits .xor .i64 (a : Int) (b : Int) = ((a ^^^ b : Nat) : Int) := by
 have hx : a ^^^ b < 2 ^ 16 := Nat.xor_lt_two_pow (by omega) (by omega)
 show IntKind.i64.wrap ((BitVec.ofInt 64 (a : Int) ^^^ BitVec.ofInt 64 (b : Int)).toNat : Int) = _
 rw [BitVec.toNat_xor, ofInt_i64 a ha, ofInt_i64 b hb]
 exact i64_small 16 (by decide) _ (by omega) (by omega)
theorem i64_and1 (a : Nat) (ha : a < 65536) : bits .and .i64 (a : Int) 1 = ((a % 2 : Nat) : Int) := by
 have h := (bits_nat .i64 16 (by decide) (fun n h0 h1 => i64_small 16 (by decide) n h0 h1) a 1 (by omega) (by decide)).1
 rw [show ((1 : Nat) : Int) = 1 from rfl] at h
 rw [h, Nat.and_one_is_mod]
set_option maxHeartbeats 2000000 in
set_option maxRecDepth 100000 in
theorem rbyte_any (a b : Nat) (ha : a < 256) (hb : b < 256) (w : World) :
  Calls Tryd.prog 53 #[.int .i64 (a : Int), .int .i64 (b : Int)] w fun e w' => e = .returned (.int .i64 ((gm a b : Nat) : Int)) ∧ Below w.heap.size w w' := by
 go_enter Tryd.func53, Tryd.ntmps53
 go_wp2
 go_loopw [5, 6] (fun p i wr => ∃ k : Nat, k ≤ 8 ∧ i = .int .i64 (7 - (k : Int)) ∧ p = .int .i64 ((byteF a b k : Nat) : Int) ∧ Below w.heap.size w wr) (fun _ i _ => (intOf i + 1).toNat)
 case atStart => exact ⟨0, by omega, rfl, rfl, Below.refl _ _⟩
 case round =>
  obtain ⟨k, hk, rfl, rfl, hB⟩ := hrel
  by_cases h8 : k = 8
  ·
   subst h8
   go_wp2
   go_ret
   exact ⟨rfl, hB⟩
  ·
   have i1 : (0 : Int) ≤ 7 - (k : Int) := by omega
   have hP := byteF_lt b ha k
   have hn : byteF a b (k + 1) = bstep a b (byteF a b k) (7 - k) := rfl
   unfold bstep at hn
   generalize byteF a b k = P at *
   obtain ⟨D, hD⟩ : ∃ D, D = P * 2 := ⟨_, rfl⟩
   have lD : D < 512 := by omega
   have lE : D ^^^ 283 < 512 := Nat.xor_lt_two_pow (n := 9) (by omega) (by decide)
   rw [← hD] at hn
   have e1 : wrap64 ((P : Int) * 2) = (D : Int) := by
    unfold wrap64
    omega
   have e2 : bits .and .i64 ((b : Int) / 2 ^ (7 - k)) 1 = ((b / 2 ^ (7 - k) % 2 : Nat) : Int) := by
    have h := i64_and1 (b / 2 ^ (7 - k)) (Nat.lt_of_le_of_lt (Nat.div_le_self _ _) (by omega))
    rw [← h]
    congr 1
   have e3 := i64_xor D 283 (by omega) (by decide)
   have e4 := i64_xor D a (by omega) (by omega)
   have e5 := i64_xor (D ^^^ 283) a (by omega) (by omega)
   rw [show ((283 : Nat) : Int) = 283 from rfl] at e3
   have l2 : b / 2 ^ (7 - k) % 2 < 2 := Nat.mod_lt _ (by decide)
   generalize b / 2 ^ (7 - k) % 2 = C at *
   generalize D ^^^ 283 = E at *
   obtain ⟨G, hG⟩ : ∃ G, G = D ^^^ a := ⟨_, rfl⟩
   obtain ⟨J, hJ⟩ : ∃ J, J = E ^^^ a := ⟨_, rfl⟩
   rw [← hG] at e4
   rw [← hJ] at e5
   have fin : ∀ V : Nat, byteF a b (k + 1) = V → (∃ k_1 : Nat, k_1 ≤ 8 ∧ Value.int IntKind.i64 (7 - (k : Int) - 1) = Value.int IntKind.i64 (7 - (k_1 : Int)) ∧ Value.int IntKind.i64 (V : Int) = Value.int IntKind.i64 ((byteF a b k_1 : Nat) : Int) ∧ Below w.heap.size w wr) ∧ (intOf (Value.int IntKind.i64 (7 - (k : Int) - 1)) + 1).toNat < (intOf (Value.int IntKind.i64 (7 - (k : Int))) + 1).toNat := fun V hV =>
    ⟨⟨k + 1, by omega, by congr 1; omega, by rw [hV], hB⟩, by simp only [intOf]; omega⟩
   clear hD hP
   by_cases g2 : C = 1
   ·
    subst g2
    by_cases g1 : 255 < D
    ·
     have g1' : (255 : Int) < (D : Int) := by omega
     rw [if_pos rfl, if_pos g1, ← hJ] at hn
     have H := Lib.hid hn
     clear hn hG hJ
     go_wp2
     first | exact fin _ H.out | (rw [e1]; exact fin _ H.out)
    ·
     have g1' : ¬ (255 : Int) < (D : Int) := by omega
     rw [if_pos rfl, if_neg g1, ← hG] at hn
     have H := Lib.hid hn
     clear hn hG hJ
     go_wp2
     first | exact fin _ H.out | (rw [e1]; exact fin _ H.out)
   ·
    obtain rfl : C = 0 := by omega
    by_cases g1 : 255 < D
    ·
     have g1' : (255 : Int) < (D : Int) := by omega
     rw [if_neg (by decide), if_pos g1] at hn
     have H := Lib.hid hn
     clear hn hG hJ
     go_wp2
     first | exact fin _ H.out | (rw [e1]; exact fin _ H.out)
    ·
     have g1' : ¬ (255 : Int) < (D : Int) := by omega
     rw [if_neg (by decide), if_neg g1] at hn
     have H := Lib.hid hn
     clear hn hG hJ
     go_wp2
     first | exact fin _ H.out | (rw [e1]; exact fin _ H.out)
theorem func4_any (i : Nat) (hi : i < 16) (w : World) : Calls Tryd.prog 54 #[.int .i64 (i : Int)] w fun e w' => e = .returned (.int .i64 ((i - i % 4 : Nat) : Int)) ∧ Below w.heap.size w w' := by
 have i0 : (0 : Int) ≤ (i : Int) := by omega
 go_enter Tryd.func54, Tryd.ntmps54
 go_wp2
 go_ret
 exact ⟨ret_int (by omega), Below.refl _ _⟩
end Go.Proofs.YtpihgljdbpnehaaDoor
