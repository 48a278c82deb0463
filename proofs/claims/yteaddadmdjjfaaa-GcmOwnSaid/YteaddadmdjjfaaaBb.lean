/- The reference's Byte, func4: their contracts. -/
import Derived.Test.YteaddadmdjjfaaaLo
import Derived.Test.YteaddadmdjjfaaaAa
namespace Go.Proofs.Yteaddadmdjjfaaa
open Go.RowKit

theorem i64_small (j : Nat) (hj : j ≤ 62) (n : Int) (h0 : 0 ≤ n) (h1 : n < 2 ^ j) : IntKind.i64.wrap n = n := by
  rw [IntKind.wrap_i64]
  have : (2 : Int) ^ j ≤ 2 ^ 62 := by exact_mod_cast Nat.pow_le_pow_right (by decide) hj
  omega
theorem ofInt_i64 (a : Nat) (ha : a < 65536) : (BitVec.ofInt 64 (a : Int)).toNat = a := by
  rw [BitVec.ofInt_natCast, BitVec.toNat_ofNat]; exact Nat.mod_eq_of_lt (by omega)
theorem i64_xor (a b : Nat) (ha : a < 65536) (hb : b < 65536) : bits .xor .i64 (a : Int) (b : Int) = ((a ^^^ b : Nat) : Int) := by
  have hx : a ^^^ b < 2 ^ 16 := Nat.xor_lt_two_pow (by omega) (by omega)
  show IntKind.i64.wrap ((BitVec.ofInt 64 (a : Int) ^^^ BitVec.ofInt 64 (b : Int)).toNat : Int) = _
  rw [BitVec.toNat_xor, ofInt_i64 a ha, ofInt_i64 b hb]
  exact i64_small 16 (by decide) _ (by omega) (by omega)
theorem i64_and1 (a : Nat) (ha : a < 65536) : bits .and .i64 (a : Int) 1 = ((a % 2 : Nat) : Int) := by
  have h := (bits_nat .i64 16 (by decide) (fun n h0 h1 => i64_small 16 (by decide) n h0 h1) a 1 (by omega) (by decide)).1
  rw [show ((1 : Nat) : Int) = 1 from rfl] at h
  rw [h, Nat.and_one_is_mod]
set_option maxHeartbeats 2000000 in
set_option maxRecDepth 100000 in
theorem rbyte_any (a b : Nat) (ha : a < 256) (hb : b < 256) (w : World) :
    Calls Try.prog 31 #[.int .i64 (a : Int), .int .i64 (b : Int)] w fun e w' => e = .returned (.int .i64 ((gm a b : Nat) : Int)) ∧ Below w.heap.size w w' := by
  go_enter Try.func31, Try.ntmps31
  go_wp2
  go_loopw [5, 6] (fun p i wr => ∃ k : Nat, k ≤ 8 ∧ i = .int .i64 (7 - (k : Int)) ∧ p = .int .i64 ((byteF a b k : Nat) : Int) ∧ Below w.heap.size w wr) (fun _ i _ => (intOf i + 1).toNat)
  case atStart => exact ⟨0, by omega, rfl, rfl, Below.refl _ _⟩
  case round =>
    obtain ⟨k, hk, rfl, rfl, hB⟩ := hrel
    by_cases h8 : k = 8
    · subst h8
      go_wp2
      go_ret
      exact ⟨rfl, hB⟩
    · have i1 : (0 : Int) ≤ 7 - (k : Int) := by omega
      have hP := byteF_lt b ha k
      have hn : byteF a b (k + 1) = bstep a b (byteF a b k) (7 - k) := rfl
      unfold bstep at hn
      generalize byteF a b k = P at *
      obtain ⟨D, hD⟩ : ∃ D, D = P * 2 := ⟨_, rfl⟩
      have lD : D < 512 := by omega
      have lE : D ^^^ 283 < 512 := Nat.xor_lt_two_pow (n := 9) (by omega) (by decide)
      rw [← hD] at hn
      have e1 : wrap64 ((P : Int) * 2) = (D : Int) := by
        unfold wrap64
        omega
      have e2 : bits .and .i64 ((b : Int) / 2 ^ (7 - k)) 1 = ((b / 2 ^ (7 - k) % 2 : Nat) : Int) := by
        have h := i64_and1 (b / 2 ^ (7 - k)) (Nat.lt_of_le_of_lt (Nat.div_le_self _ _) (by omega))
        rw [← h]
        congr 1
      have e3 := i64_xor D 283 (by omega) (by decide)
      have e4 := i64_xor D a (by omega) (by omega)
      have e5 := i64_xor (D ^^^ 283) a (by omega) (by omega)
      rw [show ((283 : Nat) : Int) = 283 from rfl] at e3
      have l2 : b / 2 ^ (7 - k) % 2 < 2 := Nat.mod_lt _ (by decide)
      generalize b / 2 ^ (7 - k) % 2 = C at *
      generalize D ^^^ 283 = E at *
      obtain ⟨G, hG⟩ : ∃ G, G = D ^^^ a := ⟨_, rfl⟩
      obtain ⟨J, hJ⟩ : ∃ J, J = E ^^^ a := ⟨_, rfl⟩
      rw [← hG] at e4
      rw [← hJ] at e5
      have fin : ∀ V : Nat, byteF a b (k + 1) = V → (∃ k_1 : Nat, k_1 ≤ 8 ∧ Value.int IntKind.i64 (7 - (k : Int) - 1) = Value.int IntKind.i64 (7 - (k_1 : Int)) ∧ Value.int IntKind.i64 (V : Int) = Value.int IntKind.i64 ((byteF a b k_1 : Nat) : Int) ∧ Below w.heap.size w wr) ∧ (intOf (Value.int IntKind.i64 (7 - (k : Int) - 1)) + 1).toNat < (intOf (Value.int IntKind.i64 (7 - (k : Int))) + 1).toNat := fun V hV =>
        ⟨⟨k + 1, by omega, by congr 1; omega, by rw [hV], hB⟩, by simp only [intOf]; omega⟩
      clear hD hP
      by_cases g2 : C = 1
      · subst g2
        by_cases g1 : 255 < D
        · have g1' : (255 : Int) < (D : Int) := by omega
          rw [if_pos rfl, if_pos g1, ← hJ] at hn
          have H := Lib.hid hn
          clear hn hG hJ
          go_wp2
          first | exact fin _ H.out | (rw [e1]; exact fin _ H.out)
        · have g1' : ¬ (255 : Int) < (D : Int) := by omega
          rw [if_pos rfl, if_neg g1, ← hG] at hn
          have H := Lib.hid hn
          clear hn hG hJ
          go_wp2
          first | exact fin _ H.out | (rw [e1]; exact fin _ H.out)
      · obtain rfl : C = 0 := by omega
        by_cases g1 : 255 < D
        · have g1' : (255 : Int) < (D : Int) := by omega
          rw [if_neg (by decide), if_pos g1] at hn
          have H := Lib.hid hn
          clear hn hG hJ
          go_wp2
          first | exact fin _ H.out | (rw [e1]; exact fin _ H.out)
        · have g1' : ¬ (255 : Int) < (D : Int) := by omega
          rw [if_neg (by decide), if_neg g1] at hn
          have H := Lib.hid hn
          clear hn hG hJ
          go_wp2
          first | exact fin _ H.out | (rw [e1]; exact fin _ H.out)
theorem ret_int {k : IntKind} {a b : Int} (h : a = b) : Ending.returned (.int k a) = .returned (.int k b) := by rw [h]
theorem func4_any (i : Nat) (hi : i < 16) (w : World) : Calls Try.prog 32 #[.int .i64 (i : Int)] w fun e w' => e = .returned (.int .i64 ((i - i % 4 : Nat) : Int)) ∧ Below w.heap.size w w' := by
  have i0 : (0 : Int) ≤ (i : Int) := by omega
  go_enter Try.func32, Try.ntmps32
  go_wp2
  go_ret
  exact ⟨ret_int (by omega), Below.refl _ _⟩
end Go.Proofs.Yteaddadmdjjfaaa
