/- The program's double, triple, RotateLeft8, turned: their contracts. -/
import Derived.Test.YtnkjelamadpllaaPa
import Derived.Test.YtnkjelamadpllaaBo
namespace Go.Proofs.Ytnkjelamadpllaa
open Go.RowKit

theorem dbl_int0 : ∀ x : Fin 256, bits .xor .u8 ((x.val : Int) * 2 % 256) ((x.val : Int) / 128 * 27) = ((dblN x.val : Nat) : Int) := by decide +kernel
set_option maxHeartbeats 2000000 in
set_option maxRecDepth 100000 in
theorem double_any (b : Nat) (hb : b < 256) (w : World) : Calls Try.prog 18 #[.int .u8 (b : Int)] w fun e w' => e = .returned (.int .u8 ((dblN b : Nat) : Int)) ∧ Below w.heap.size w w' := by
  have h := dbl_int0 ⟨b, hb⟩
  have i0 : (0 : Int) ≤ (b : Int) := by omega
  simp only at h
  go_enter Try.func18, Try.ntmps18
  go_wp2
  go_ret
  exact ⟨rfl, Below.refl _ _⟩
theorem trip_int0 : ∀ x : Fin 256, bits .xor .u8 ((dblN x.val : Nat) : Int) (x.val : Int) = ((tripN x.val : Nat) : Int) := by decide +kernel
set_option maxHeartbeats 2000000 in
set_option maxRecDepth 100000 in
theorem triple_any (b : Nat) (hb : b < 256) (w : World) : Calls Try.prog 22 #[.int .u8 (b : Int)] w fun e w' => e = .returned (.int .u8 ((tripN b : Nat) : Int)) ∧ Below w.heap.size w w' := by
  have h := trip_int0 ⟨b, hb⟩
  have i0 : (0 : Int) ≤ (b : Int) := by omega
  simp only at h
  have C := Lib.hid (double_any b hb)
  generalize dblN b = D at *
  go_enter Try.func22, Try.ntmps22
  go_wp2_with fail
  refine (C.out _).mono ?_
  rintro _ w1 ⟨rfl, b1⟩
  go_wp2
  go_ret
  exact ⟨rfl, b1⟩
theorem rot_int0 : ∀ x : Fin 256, ∀ n : Fin 5, bits .or .u8 ((x.val : Int) * 2 ^ n.val % 256) ((x.val : Int) / 2 ^ (8 - n.val)) = ((rotN x.val n.val : Nat) : Int) := by decide +kernel
theorem rot_and0 : ∀ n : Fin 5, bits .and .u64 (n.val : Int) 7 = (n.val : Int) := by decide +kernel
set_option maxHeartbeats 2000000 in
set_option maxRecDepth 100000 in
theorem rotate_any (b n : Nat) (hb : b < 256) (hn : n < 5) (w : World) : Calls Try.prog 24 #[.int .u8 (b : Int), .int .i64 (n : Int)] w fun e w' => e = .returned (.int .u8 ((rotN b n : Nat) : Int)) ∧ Below w.heap.size w w' := by
  have h := rot_int0 ⟨b, hb⟩ ⟨n, hn⟩
  have h2 := rot_and0 ⟨n, hn⟩
  have i0 : (0 : Int) ≤ (b : Int) := by omega
  have i1 : (0 : Int) ≤ (n : Int) := by omega
  have i2 : (n : Int) % 18446744073709551616 = (n : Int) := by omega
  simp only at h h2
  go_enter Try.func24, Try.ntmps24
  go_wp2
  go_ret
  exact ⟨rfl, Below.refl _ _⟩
theorem u8_xor (a b : Nat) (ha : a < 256) (hb : b < 256) : bits .xor .u8 (a : Int) (b : Int) = ((a ^^^ b : Nat) : Int) := u8_xor_nat a b ha hb
set_option maxHeartbeats 2000000 in
set_option maxRecDepth 100000 in
theorem turned_any (b : Nat) (hb : b < 256) (w : World) : Calls Try.prog 23 #[.int .u8 (b : Int)] w fun e w' => e = .returned (.int .u8 ((turnedN b : Nat) : Int)) ∧ Below w.heap.size w w' := by
  have i0 : (0 : Int) ≤ (b : Int) := by omega
  have h0 := u8_xor b 99 hb (by decide)
  rw [show ((99 : Nat) : Int) = 99 from rfl] at h0
  have L := fun n hn => turnF_lt hb n hn
  have R := fun n hn => rotN_lt (n := n) hb hn
  have C := fun n hn W => rotate_any b n hb hn W
  unfold turnedN
  have e0 : b ^^^ 99 = turnF b 0 := rfl
  have es : ∀ n, turnF b (n + 1) = turnF b n ^^^ rotN b (n + 1) := fun _ => rfl
  rw [e0] at h0
  generalize turnF b = F at *
  generalize rotN b = G at *
  go_enter Try.func23, Try.ntmps23
  go_wp2
  go_loopw [3, 4] (fun o i wr => ∃ k : Nat, k ≤ 4 ∧ i = .int .i64 ((k : Int) + 1) ∧ o = .int .u8 ((F k : Nat) : Int) ∧ Below w.heap.size w wr) (fun _ i _ => (5 - intOf i).toNat)
  case atStart => exact ⟨0, by omega, rfl, rfl, Below.refl _ _⟩
  case round =>
    clear h0 e0
    obtain ⟨k, hk, rfl, rfl, hB⟩ := hrel
    by_cases h4 : k = 4
    · subst h4
      have i1 : ¬ ((4 : Nat) : Int) + 1 ≤ 4 := by omega
      go_wp2
      go_ret
      exact ⟨rfl, hB⟩
    · have i1 : (k : Int) + 1 ≤ 4 := by omega
      have C1 := Lib.hid (C (k + 1) (by omega))
      have X := u8_xor (F k) (G (k + 1)) (L k hk) (R (k + 1) (by omega))
      have E := Lib.hid (es k)
      rw [show (((k + 1 : Nat)) : Int) = (k : Int) + 1 by omega] at C1
      clear C L R es
      generalize G (k + 1) = g at *
      go_wp2_with fail
      refine (C1.out _).mono ?_
      rintro _ w1 ⟨rfl, b1⟩
      have hB1 := hB.trans (b1.mono hB.size)
      go_wp2
      exact ⟨⟨k + 1, by omega, by congr 1, by rw [E.out], hB1⟩, by simp only [intOf]; omega⟩
end Go.Proofs.Ytnkjelamadpllaa
