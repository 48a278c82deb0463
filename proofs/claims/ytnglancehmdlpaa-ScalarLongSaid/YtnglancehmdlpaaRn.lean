/- The contracts of the reference's twice; bits. -/
import Derived.Test.YtnglancehmdlpaaRh
import Derived.Deep.Cut
namespace Go.Proofs.Ytnglancehmdlpaa
open Go.RowKit

/-- What is carried into part i. -/
def twC (f : Nat → Nat) (b i : Nat) : Nat := (2 * lv f i + b) / 65536 ^ i
def twF (n : Nat) (f : Nat → Nat) (b i : Nat) : Nat := if i < n then (2 * f i + twC f b i) % 65536 else 0
theorem twC_zero (f : Nat → Nat) (b : Nat) : twC f b 0 = b := by unfold twC; simp [lv]
theorem twC_succ (f : Nat → Nat) (b i : Nat) : twC f b (i + 1) = (2 * f i + twC f b i) / 65536 := by
  unfold twC
  have e : 2 * lv f (i + 1) + b = 2 * lv f i + b + 2 * f i * 65536 ^ i := by
    simp only [lv]
    rw [Nat.mul_add, Nat.mul_assoc]
    omega
  rw [e, Nat.pow_succ, ← Nat.div_div_eq_div_mul, Nat.add_mul_div_right _ _ (Nat.pow_pos (by decide)), Nat.add_comm]
theorem twC_le (f : Nat → Nat) (hf : ∀ i, f i < 65536) (b : Nat) (hb : b ≤ 1) : ∀ i, twC f b i ≤ 1
  | 0 => by rw [twC_zero]; exact hb
  | i + 1 => by
    rw [twC_succ]
    have := twC_le f hf b hb i
    have := hf i
    omega
theorem twF_val (f : Nat → Nat) (b n : Nat) : ∀ k, k ≤ n → lv (twF n f b) k + twC f b k * 65536 ^ k = 2 * lv f k + b
  | 0, _ => by rw [twC_zero]; simp [lv]
  | k + 1, h => by
    have ih := twF_val f b n k (by omega)
    have e1 : lv (twF n f b) (k + 1) = lv (twF n f b) k + twF n f b k * 65536 ^ k := rfl
    have e2 : lv f (k + 1) = lv f k + f k * 65536 ^ k := rfl
    rw [e1, e2, twC_succ, Nat.pow_succ]
    have e3 : twF n f b k = (2 * f k + twC f b k) % 65536 := by unfold twF; rw [if_pos (by omega)]
    rw [e3]
    generalize 65536 ^ k = P at *
    generalize twC f b k = c at *
    have h4 : (2 * f k + c) % 65536 * P + (2 * f k + c) / 65536 * (P * 65536) = (2 * f k + c) * P := by
      have := Nat.mod_add_div (2 * f k + c) 65536
      have h5 : (2 * f k + c) / 65536 * (P * 65536) = 65536 * ((2 * f k + c) / 65536) * P := by
        simp only [Nat.mul_comm, Nat.mul_left_comm]
      rw [h5, ← Nat.add_mul, this]
    rw [Nat.add_mul] at h4
    have h6 : 2 * (lv f k + f k * P) = 2 * lv f k + 2 * f k * P := by rw [Nat.mul_add, Nat.mul_assoc]
    rw [h6]
    omega
theorem and16s (x : Int) (h0 : 0 ≤ x) (h1 : x < 4294967296) : bits .and .u32 x 65535 = x % 65536 := and16 x h0 h1
theorem tw_part (a c : Nat) (ha : a < 65536) (hc : c ≤ 1) : bits .and .u32 (bits .or .u32 ((a : Int) * 2) (c : Int)) 65535 = (((2 * a + c) % 65536 : Nat) : Int) := by
  rw [or32 1 _ _ (by omega) (by omega) (by omega) (by omega) (by omega) (by decide), and16 _ (by omega) (by omega)]
  omega

/-- The memory of twice behind k parts. -/
structure TwW (n g b : Nat) (f : Nat → Nat) (w wr : World) (k : Nat) : Prop where
  a : Sl wr g n f
  out : Blk wr w.heap.size 37 (Iv .u32 (fill n (fun i => ((twF n f b i : Nat) : Int)) k))
  k : Below w.heap.size w wr
  lo : g < w.heap.size
theorem TwW.step {n g b : Nat} {f : Nat → Nat} {w wr : World} {k : Nat} (h : TwW n g b f w wr k) : TwW n g b f w (wr.setCell ⟨w.heap.size, k, none⟩ (.int .u32 ((twF n f b k : Nat) : Int))) (k + 1) := by
  have hl := h.lo
  refine ⟨h.a.far (by simp; omega) _, ?_, h.k.setCell (by simp) _, h.lo⟩
  have := h.out.set k (.int .u32 ((twF n f b k : Nat) : Int))
  rw [Iv_set, fill_set n (fun i => ((twF n f b i : Nat) : Int)) k] at this
  exact this

set_option maxHeartbeats 1000000 in
set_option maxRecDepth 100000 in
theorem twice_any (g n c b : Nat) (f : Nat → Nat) (w : World) (ha : Sl w g n f) (hn : n ≤ 1048576) (hb : b ≤ 1) :
    Calls Try.prog 28 #[SlV g n c, .int .u32 (b : Int)] w (RetSl w n (twF n f b)) := by
  have hmk : ∀ (g : Nat → Int) w, (Instr.makeSlice 30 (.int .i64 n) (.int .i64 n)).run Try.prog w = .ok (.slice (some ⟨w.heap.size, 0, none⟩) n n) (w.alloc (.cells (Iv .u32 (fill n g 0)) 37)) := fun g w => make32 n (by omega) g w
  have hmk1 := hmk (fun i => ((twF n f b i : Nat) : Int)) w
  clear hmk
  unfold SlV
  go_enter Try.func28, Try.ntmps28
  go_wp2
  generalize hW : World.alloc w _ = W
  have F0 : TwW n g b f w W 0 := by
    subst hW
    exact ⟨ha.below ((Below.refl _ _).alloc (Nat.le_refl _) _), Blk.new _ _ _, (Below.refl _ _).alloc (Nat.le_refl _) _, ha.blk⟩
  clear hW hmk1
  go_loopw [6, 1] (fun i cb wr => ∃ k : Nat, k ≤ n ∧ i = .int .i64 k ∧ cb = .int .u32 ((twC f b k : Nat) : Int) ∧ TwW n g b f w wr k) (fun i _ _ => n - (intOf i).toNat)
  case atStart => exact ⟨0, by omega, rfl, by rw [twC_zero], F0⟩
  case round =>
    obtain ⟨k, hk, rfl, rfl, F⟩ := hrel
    clear F0
    by_cases hlt : k < n
    · have c1 := F.a.cell k hlt
      have lf := ha.lt k
      have lc := twC_le f ha.lt b hb k
      have ts := twC_succ f b k
      have hp := tw_part (f k) (twC f b k) lf lc
      have hF : twF n f b k = (2 * f k + twC f b k) % 65536 := by unfold twF; rw [if_pos hlt]
      have c2 : wr.cell? ⟨w.heap.size, k, none⟩ = some (.int .u32 0) := by
        rw [F.out.cell, Iv_get _ _ _ (by rw [fill_length]; exact hlt), fill_getD _ _ _ _ hlt, if_neg (by omega)]
      have z2 := F.out.frozen k
      have hst := F.step
      rw [← hF] at hp
      obtain ⟨cn, hcn⟩ : ∃ x, x = twC f b (k + 1) := ⟨_, rfl⟩
      have hsh : ((f k : Nat) : Int) / 32768 = (cn : Int) := by rw [hcn, ts]; omega
      obtain ⟨o, ho⟩ : ∃ x, x = twF n f b k := ⟨_, rfl⟩
      obtain ⟨cc, hcc⟩ : ∃ x, x = twC f b k := ⟨_, rfl⟩
      rw [← ho] at hp hst
      rw [← hcc] at hp lc ⊢
      have HC := Lib.hid hcn
      have i1 : (0 : Int) ≤ (k : Int) := by omega
      have i2 : (k : Int) < (n : Int) := by omega
      have hlo := F.lo
      have n1 : ¬ (g = w.heap.size) := by omega
      have n2 : ¬ (w.heap.size = g) := by omega
      clear hcn ts hF ho hcc F hlo
      go_wp2
      exact ⟨⟨k + 1, by omega, by go_num, by rw [HC.out], hst⟩, by simp [intOf]; omega⟩
    · obtain rfl : k = n := by omega
      have hB := F.out
      rw [fill_full] at hB
      have hb' := F.k
      clear F
      go_wp2
      go_ret
      exact ⟨w.heap.size, k, rfl, Sl.of_blk hB (fun i => by unfold twF; split <;> omega) (fun i hi => by unfold twF; rw [if_neg (by omega)]), Nat.le_refl _, hb'⟩

theorem lv_bit (f : Nat → Nat) (hf : ∀ i, f i < 65536) (n : Nat) (hh : ∀ i, n ≤ i → f i = 0) (j : Nat) : f (j / 16) / 2 ^ (j % 16) % 2 = lv f n / 2 ^ j % 2 := by
  rw [← lv_part_any f hf n hh (j / 16)]
  have e : (65536 : Nat) = 2 ^ (j % 16) * 2 ^ (16 - j % 16) := by
    rw [← Nat.pow_add, show j % 16 + (16 - j % 16) = 16 by omega]
  have d : (2 : Nat) ∣ 2 ^ (16 - j % 16) := by
    have := Nat.pow_dvd_pow 2 (show 1 ≤ 16 - j % 16 by omega)
    simpa using this
  have h8 : (65536 : Nat) ^ (j / 16) = 2 ^ (16 * (j / 16)) := by rw [Nat.pow_mul]
  rw [h8]
  conv => lhs; rw [e]
  rw [Nat.mod_mul_right_div_self, Nat.mod_mod_of_dvd _ d, Nat.div_div_eq_div_mul, ← Nat.pow_add]
  congr 3
  omega
theorem and1_32 (x : Int) (h0 : 0 ≤ x) (h1 : x < 4294967296) : bits .and .u32 x 1 = x % 2 := by
  obtain ⟨n, rfl⟩ := Int.eq_ofNat_of_zero_le h0
  have h := u32_and_nat n 1 (by omega) (by omega)
  have e : n &&& 1 = n % 2 := Nat.and_two_pow_sub_one_eq_mod n 1
  rw [e] at h
  exact h
theorem rbit (x s : Nat) (hx : x < 65536) : bits .and .u32 ((x : Int) / 2 ^ s) 1 = (((x / 2 ^ s % 2 : Nat)) : Int) := by
  have e : (x : Int) / 2 ^ s = ((x / 2 ^ s : Nat) : Int) := by simp
  have := Nat.div_le_self x (2 ^ s)
  rw [e]
  generalize x / 2 ^ s = y at *
  rw [and1_32 _ (by omega) (by omega)]
  omega


theorem bit_down (V j : Nat) : V / 2 ^ j = 2 * (V / 2 ^ (j + 1)) + V / 2 ^ j % 2 := by
  rw [Nat.pow_succ, ← Nat.div_div_eq_div_mul]
  omega
end Go.Proofs.Ytnglancehmdlpaa
