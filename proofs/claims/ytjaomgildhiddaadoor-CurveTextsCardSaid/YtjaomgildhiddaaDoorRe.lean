/- The contract of the reference's Key: 32 bytes of a long number. -/
import Derived.Test.YtjaomgildhiddaaDoorRd
namespace Go.Proofs.YtjaomgildhiddaaDoor
open Go.RowKit

theorem lv_part (f : Nat → Nat) (hf : ∀ i, f i < 65536) : ∀ n i, i < n → lv f n / 65536 ^ i % 65536 = f i
  | 0, i, h => by omega
  | n + 1, i, h => by
    by_cases hi : i < n
    · have ih := lv_part f hf n i hi
      have e : f n * 65536 ^ n = 65536 ^ i * (65536 * (f n * 65536 ^ (n - i - 1))) := by
        have : (65536 : Nat) ^ n = 65536 ^ i * (65536 * 65536 ^ (n - i - 1)) := by
          rw [← Nat.pow_succ', ← Nat.pow_add]
          congr 1
          omega
        rw [this, Nat.mul_left_comm (f n), Nat.mul_left_comm (f n)]
      simp only [lv]
      rw [e, Nat.add_mul_div_left _ _ (Nat.pow_pos (by decide)), Nat.add_mul_mod_self_left]
      exact ih
    · have hin : i = n := by omega
      subst hin
      have h1 := lv_lt f hf i
      simp only [lv]
      rw [Nat.add_mul_div_right _ _ (Nat.pow_pos (by decide)), Nat.div_eq_of_lt h1, Nat.zero_add, Nat.mod_eq_of_lt (hf i)]
theorem lv_part_any (f : Nat → Nat) (hf : ∀ i, f i < 65536) (n : Nat) (hh : ∀ i, n ≤ i → f i = 0) (i : Nat) : lv f n / 65536 ^ i % 65536 = f i := by
  by_cases h : i < n
  · exact lv_part f hf n i h
  · rw [hh i (by omega), Nat.div_eq_of_lt (Nat.lt_of_lt_of_le (lv_lt f hf n) (Nat.pow_le_pow_right (by decide) (by omega)))]
theorem byte_part (f : Nat → Nat) (hf : ∀ i, f i < 65536) (n : Nat) (hh : ∀ i, n ≤ i → f i = 0) (i : Nat) : f (i / 2) / 2 ^ (8 * (i % 2)) % 256 = byteAt (lv f n) i := by
  rw [← lv_part_any f hf n hh (i / 2)]
  unfold byteAt
  have h1 : (65536 : Nat) ^ (i / 2) = 256 ^ (2 * (i / 2)) := by rw [Nat.pow_mul]
  rw [h1]
  rcases Nat.mod_two_eq_zero_or_one i with h | h
  · rw [h, Nat.mul_zero, Nat.pow_zero, Nat.div_one, Nat.mod_mod_of_dvd _ (by decide : 256 ∣ 65536)]
    congr 3
    omega
  · rw [h, Nat.mul_one]
    have e : (65536 : Nat) = 2 ^ 8 * 256 := rfl
    conv => lhs; rw [e]
    rw [Nat.mod_mul_right_div_self, Nat.mod_mod, Nat.div_div_eq_div_mul]
    congr 2
    have : (2 : Nat) ^ 8 = 256 := rfl
    rw [this, ← Nat.pow_succ]
    congr 1
    omega

/-- The memory of Key behind k rounds. -/
structure KeyW (n g : Nat) (f : Nat → Nat) (w wr : World) (k : Nat) : Prop where
  a : Sl wr g n f
  res : Blk wr w.heap.size 23 (Iv .u8 (List.replicate 32 0))
  out : Blk wr (w.heap.size + 1) 23 (Iv .u8 (fill 32 (fun i => ((byteAt (lv f n) i : Nat) : Int)) k))
  k : Below w.heap.size w wr
  la : g < w.heap.size
theorem KeyW.step {n g : Nat} {f : Nat → Nat} {w wr : World} {k : Nat} (h : KeyW n g f w wr k) : KeyW n g f w (wr.setCell ⟨w.heap.size + 1, k, none⟩ (.int .u8 ((byteAt (lv f n) k : Nat) : Int))) (k + 1) := by
  have hla := h.la
  refine ⟨h.a.far (by simp; omega) _, h.res.far (by simp) _, ?_, h.k.setCell (by simp) _, h.la⟩
  have := h.out.set k (.int .u8 ((byteAt (lv f n) k : Nat) : Int))
  rw [Iv_set, fill_set 32 (fun i => ((byteAt (lv f n) i : Nat) : Int)) k] at this
  exact this

set_option maxHeartbeats 2000000 in
set_option maxRecDepth 100000 in
theorem key_any (g n c : Nat) (f : Nat → Nat) (w : World) (ha : Sl w g n f) :
    Calls Tryd.prog 14 #[SlV g n c] w fun e w' => e = .returned (Key (keyOf (lv f n))) ∧ Below w.heap.size w w' := by
  unfold SlV
  go_enter Tryd.func14, Tryd.ntmps14
  go_wp2
  generalize hW : World.alloc (World.alloc w _) _ = W
  have F0 : KeyW n g f w W 0 := by
    subst hW
    exact ⟨ha.below (((Below.refl _ _).alloc (Nat.le_refl _) _).alloc (by simp) _), (Blk.new _ _ _).alloc _, Blk.new' (by simp) _ _, ((Below.refl _ _).alloc (Nat.le_refl _) _).alloc (by simp) _, ha.blk⟩
  clear hW
  go_loopw [4] (fun i wr => ∃ k : Nat, k ≤ 32 ∧ i = .int .i64 k ∧ KeyW n g f w wr k) (fun i _ => 32 - (intOf i).toNat)
  case atStart => exact ⟨0, by omega, rfl, F0⟩
  case round =>
    obtain ⟨k, hk, rfl, F⟩ := hrel
    clear F0
    by_cases hlt : k < 32
    · have PA := fun W (h : Sl W g n f) => part_any g n c f (k / 2) W h
      rw [show ((k / 2 : Nat) : Int) = (k : Int) / 2 by omega] at PA
      have l1 := ha.lt (k / 2)
      have hbp := byte_part f ha.lt n ha.high k
      have HBP := Lib.hid hbp
      clear hbp
      have c1 : wr.cell? ⟨w.heap.size + 1, k, none⟩ = some (.int .u8 0) := by
        rw [F.out.cell, Iv_get _ _ _ (by rw [fill_length]; omega), fill_getD _ _ _ _ hlt, if_neg (by omega)]
      have f1 := F.out.frozen k
      go_wp2_with fail
      refine (PA _ F.a).mono ?_
      rintro e w' ⟨rfl, rfl⟩
      go_wp2
      have e : ((f (k / 2) : Nat) : Int) / 2 ^ (8 * (k % 2)) % 256 = ((byteAt (lv f n) k : Nat) : Int) := by
        rw [← HBP.out]
        simp only [Int.natCast_emod, Int.natCast_ediv, Int.natCast_pow]
        rfl
      rw [e]
      exact ⟨⟨k + 1, by omega, by go_num, F.step⟩, by simp [intOf]; omega⟩
    · obtain rfl : k = 32 := by omega
      obtain ⟨_, HR, HK, HB, _⟩ := F
      rw [fill_full] at HK
      obtain ⟨N, hN⟩ : ∃ N, N = lv f n := ⟨_, rfl⟩
      rw [← hN] at HK
      have HN := Lib.hid hN
      clear hN
      go_wp2_with (first | (refine wpList_load_row rfl 23 _ rfl (w.heap.size + 1) rfl 23 _ (0, 0) _ HK Tryd.underlying23 rfl (info_key _ (by simp)) ?_) | (refine wpList_store_row rfl 23 _ _ rfl w.heap.size _ rfl rfl 23 _ HR (info_key _ (by simp)) (by simp [Iv_size]) (Iv_one _ _) ?_))
      exact bodyPost_ret (results_cell_row rfl _ _ _ 23 _ (0, 0) _ rfl (HR.row _) Tryd.underlying23 rfl (info_key _ (by simp))) rfl ⟨by rw [← HN.out]; rfl, below_setRow HB (by omega) _⟩

end Go.Proofs.YtjaomgildhiddaaDoor
