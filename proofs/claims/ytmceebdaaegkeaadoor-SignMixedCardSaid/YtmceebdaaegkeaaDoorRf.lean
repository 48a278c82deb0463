/- The contract of the reference's Key: 32 bytes of a long number. -/
import Derived.Test.YtmceebdaaegkeaaDoorRd
namespace Go.Proofs.YtmceebdaaegkeaaDoor
open Go.RowKit

theorem lv_part (f : Nat → Nat) (hf : ∀ i, f i < 65536) : ∀ n i, i < n → lv f n / 65536 ^ i % 65536 = f i
  | 0, i, h => by omega
  | n + 1, i, h => by
    by_cases hi : i < n
    · have ih := lv_part f hf n i hi
      have e : f n * 65536 ^ n = 65536 ^ i * (65536 * (f n * 65536 ^ (n - i - 1))) := by
        have : (65536 : Nat) ^ n = 65536 ^ i * (65536 * 65536 ^ (n - i - 1)) := by
          rw [← Nat.pow_succ', ← Nat.pow_add]
          congr 1
          omega
        rw [this, Nat.mul_left_comm (f n), Nat.mul_left_comm (f n)]
      simp only [lv]
      rw [e, Nat.add_mul_div_left _ _ (Nat.pow_pos (by decide)), Nat.add_mul_mod_self_left]
      exact ih
    · have hin : i = n := by omega
      subst hin
      have h1 := lv_lt f hf i
      simp only [lv]
      rw [Nat.add_mul_div_right _ _ (Nat.pow_pos (by decide)), Nat.div_eq_of_lt h1, Nat.zero_add, Nat.mod_eq_of_lt (hf i)]
theorem lv_part_any (f : Nat → Nat) (hf : ∀ i, f i < 65536) (n : Nat) (hh : ∀ i, n ≤ i → f i = 0) (i : Nat) : lv f n / 65536 ^ i % 65536 = f i := by
  by_cases h : i < n
  · exact lv_part f hf n i h
  · rw [hh i (by omega), Nat.div_eq_of_lt (Nat.lt_of_lt_of_le (lv_lt f hf n) (Nat.pow_le_pow_right (by decide) (by omega)))]
theorem byte_part (f : Nat → Nat) (hf : ∀ i, f i < 65536) (n : Nat) (hh : ∀ i, n ≤ i → f i = 0) (i : Nat) : f (i / 2) / 2 ^ (8 * (i % 2)) % 256 = byteAt (lv f n) i := by
  rw [← lv_part_any f hf n hh (i / 2)]
  unfold byteAt
  have h1 : (65536 : Nat) ^ (i / 2) = 256 ^ (2 * (i / 2)) := by rw [Nat.pow_mul]
  rw [h1]
  rcases Nat.mod_two_eq_zero_or_one i with h | h
  · rw [h, Nat.mul_zero, Nat.pow_zero, Nat.div_one, Nat.mod_mod_of_dvd _ (by decide : 256 ∣ 65536)]
    congr 3
    omega
  · rw [h, Nat.mul_one]
    have e : (65536 : Nat) = 2 ^ 8 * 256 := rfl
    conv => lhs; rw [e]
    rw [Nat.mod_mul_right_div_self, Nat.mod_mod, Nat.div_div_eq_div_mul]
    congr 2
    have : (2 : Nat) ^ 8 = 256 := rfl
    rw [this, ← Nat.pow_succ]
    congr 1
    omega

/-- The memory of Key behind k rounds. -/
structure KeyW (n g : Nat) (f : Nat → Nat) (w wr : World) (k : Nat) : Prop where
  a : Sl wr g n f
  res : Blk wr w.heap.size 23 (Iv .u8 (List.replicate 32 0))
  out : Blk wr (w.heap.size + 1) 23 (Iv .u8 (fill 32 (fun i => ((byteAt (lv f n) i : Nat) : Int)) k))
  k : Below w.heap.size w wr
  la : g < w.heap.size
theorem KeyW.step {n g : Nat} {f : Nat → Nat} {w wr : World} {k : Nat} (h : KeyW n g f w wr k) : KeyW n g f w (wr.setCell ⟨w.heap.size + 1, k, none⟩ (.int .u8 ((byteAt (lv f n) k : Nat) : Int))) (k + 1) := by
  have hla := h.la
  refine ⟨h.a.far (by simp; omega) _, h.res.far (by simp) _, ?_, h.k.setCell (by simp) _, h.la⟩
  have := h.out.set k (.int .u8 ((byteAt (lv f n) k : Nat) : Int))
  rw [Iv_set, fill_set 32 (fun i => ((byteAt (lv f n) i : Nat) : Int)) k] at this
  exact this

set_option maxHeartbeats 2000000 in
set_option maxRecDepth 100000 in
theorem key_any (g n c : Nat) (f : Nat → Nat) (w : World) (ha : Sl w g n f) :
    Calls Tryd.prog 20 #[SlV g n c] w fun e w' => e = .returned (Key (keyOf (lv f n))) ∧ Below w.heap.size w w' := by
  unfold SlV
  go_enter Tryd.func20, Tryd.ntmps20
  go_wp2
  generalize hW : World.alloc (World.alloc w _) _ = W
  have F0 : KeyW n g f w W 0 := by
    subst hW
    exact ⟨ha.below (((Below.refl _ _).alloc (Nat.le_refl _) _).alloc (by simp) _), (Blk.new _ _ _).alloc _, Blk.new' (by simp) _ _, ((Below.refl _ _).alloc (Nat.le_refl _) _).alloc (by simp) _, ha.blk⟩
  clear hW
  go_loopw [4] (fun i wr => ∃ k : Nat, k ≤ 32 ∧ i = .int .i64 k ∧ KeyW n g f w wr k) (fun i _ => 32 - (intOf i).toNat)
  case atStart => exact ⟨0, by omega, rfl, F0⟩
  case round =>
    obtain ⟨k, hk, rfl, F⟩ := hrel
    clear F0
    by_cases hlt : k < 32
    · have PA := fun W (h : Sl W g n f) => part_any g n c f (k / 2) W h
      rw [show ((k / 2 : Nat) : Int) = (k : Int) / 2 by omega] at PA
      have l1 := ha.lt (k / 2)
      have hbp := byte_part f ha.lt n ha.high k
      have HBP := Lib.hid hbp
      clear hbp
      have c1 : wr.cell? ⟨w.heap.size + 1, k, none⟩ = some (.int .u8 0) := by
        rw [F.out.cell, Iv_get _ _ _ (by rw [fill_length]; omega), fill_getD _ _ _ _ hlt, if_neg (by omega)]
      have f1 := F.out.frozen k
      go_wp2_with fail
      refine (PA _ F.a).mono ?_
      rintro e w' ⟨rfl, rfl⟩
      go_wp2
      have e : ((f (k / 2) : Nat) : Int) / 2 ^ (8 * (k % 2)) % 256 = ((byteAt (lv f n) k : Nat) : Int) := by
        rw [← HBP.out]
        simp only [Int.natCast_emod, Int.natCast_ediv, Int.natCast_pow]
        rfl
      rw [e]
      exact ⟨⟨k + 1, by omega, by go_num, F.step⟩, by simp [intOf]; omega⟩
    · obtain rfl : k = 32 := by omega
      obtain ⟨_, HR, HK, HB, _⟩ := F
      rw [fill_full] at HK
      obtain ⟨N, hN⟩ : ∃ N, N = lv f n := ⟨_, rfl⟩
      rw [← hN] at HK
      have HN := Lib.hid hN
      clear hN
      go_wp2_with (first | (refine wpList_load_row rfl 23 _ rfl (w.heap.size + 1) rfl 23 _ (0, 0) _ HK Tryd.underlying23 rfl (info_key _ (by simp)) ?_) | (refine wpList_store_row rfl 23 _ _ rfl w.heap.size _ rfl rfl 23 _ HR (info_key _ (by simp)) (by simp [Iv_size]) (Iv_one _ _) ?_))
      exact bodyPost_ret (results_cell_row rfl _ _ _ 23 _ (0, 0) _ rfl (HR.row _) Tryd.underlying23 rfl (info_key _ (by simp))) rfl ⟨by rw [← HN.out]; rfl, below_setRow HB (by omega) _⟩


end Go.Proofs.YtmceebdaaegkeaaDoor
/- The contract of the reference's Of at the bytes of a key. -/
namespace Go.Proofs.YtmceebdaaegkeaaDoor
open Go.RowKit

/-- Part j of a number. -/
def dAt (v j : Nat) : Nat := v / 65536 ^ j % 65536
theorem dAt_lt (v j : Nat) : dAt v j < 65536 := Nat.mod_lt _ (by decide)
theorem pow_pair (k : Nat) : (256 : Nat) ^ k = 65536 ^ (k / 2) * 2 ^ (8 * (k % 2)) := by
  have h1 : (65536 : Nat) ^ (k / 2) = 2 ^ (16 * (k / 2)) := by rw [Nat.pow_mul]
  have h2 : (256 : Nat) ^ k = 2 ^ (8 * k) := by rw [Nat.pow_mul]
  rw [h1, h2, ← Nat.pow_add]
  congr 1
  omega
theorem d_same (v b k j : Nat) (hj : j < k / 2) : dAt (v + b * 256 ^ k) j = dAt v j := by
  unfold dAt
  have e2 : b * 256 ^ k = 65536 ^ j * (65536 * (b * (65536 ^ (k / 2 - j - 1) * 2 ^ (8 * (k % 2))))) := by
    rw [pow_pair]
    have : (65536 : Nat) ^ (k / 2) = 65536 ^ j * (65536 * 65536 ^ (k / 2 - j - 1)) := by
      rw [← Nat.pow_succ', ← Nat.pow_add]
      congr 1
      omega
    rw [this]
    simp only [Nat.mul_assoc, Nat.mul_left_comm b]
  rw [e2, Nat.add_mul_div_left _ _ (Nat.pow_pos (by decide)), Nat.add_mul_mod_self_left]
theorem d_high (v k j : Nat) (hv : v < 256 ^ k) (hj : k ≤ 2 * j) : dAt v j = 0 := by
  unfold dAt
  have : v < 65536 ^ j := Nat.lt_of_lt_of_le hv (by
    have : (65536 : Nat) ^ j = 256 ^ (2 * j) := by rw [Nat.pow_mul]
    rw [this]
    exact Nat.pow_le_pow_right (by decide) hj)
  rw [Nat.div_eq_of_lt this]
theorem d_add (v b k : Nat) (hv : v < 256 ^ k) (hb : b < 256) : dAt (v + b * 256 ^ k) (k / 2) = dAt v (k / 2) + b * 2 ^ (8 * (k % 2)) ∧ dAt v (k / 2) < 2 ^ (8 * (k % 2)) := by
  unfold dAt
  have e2 : b * 256 ^ k = 65536 ^ (k / 2) * (b * 2 ^ (8 * (k % 2))) := by rw [pow_pair, Nat.mul_left_comm]
  have hq : v / 65536 ^ (k / 2) < 2 ^ (8 * (k % 2)) := by
    rw [Nat.div_lt_iff_lt_mul (Nat.pow_pos (by decide)), Nat.mul_comm, ← pow_pair]
    exact hv
  have hp : 2 ^ (8 * (k % 2)) * 256 ≤ 65536 := by
    rcases Nat.mod_two_eq_zero_or_one k with h | h <;> rw [h] <;> decide
  have hbm : b * 2 ^ (8 * (k % 2)) ≤ 255 * 2 ^ (8 * (k % 2)) := Nat.mul_le_mul_right _ (by omega)
  rw [e2, Nat.add_mul_div_left _ _ (Nat.pow_pos (by decide)), Nat.mod_eq_of_lt (a := v / 65536 ^ (k / 2)) (by omega), Nat.mod_eq_of_lt (by omega)]
  exact ⟨rfl, hq⟩
theorem wraps_u32 (n : Int) (h₀ : 0 ≤ n) (h₁ : n < 2 ^ 32) : IntKind.u32.wrap n = n := by rw [IntKind.wrap_u32]; omega
theorem or32 (i : Nat) (x y : Int) (hx0 : 0 ≤ x) (hx : x % 2 ^ i = 0) (hx1 : x < 2 ^ 32) (h0 : 0 ≤ y) (h1 : y < 2 ^ i) (hi : (2 : Int) ^ i ≤ 2 ^ 32) : bits .or .u32 x y = x + y :=
  bits_join .u32 32 (by decide) wraps_u32 i x y hx0 hx hx1 h0 h1 (by omega)
theorem or_comm32 (x y : Int) : bits .or .u32 x y = bits .or .u32 y x := by simp only [bits, BitVec.or_comm]
theorem or_byte32 (v b k : Nat) (hv : v < 256 ^ k) (hb : b < 256) :
    bits .or .u32 ((dAt v (k / 2) : Nat) : Int) (IntKind.u32.wrap ((b : Int) * 2 ^ (8 * (k % 2)))) = ((dAt (v + b * 256 ^ k) (k / 2) : Nat) : Int) := by
  obtain ⟨h1, h2⟩ := d_add v b k hv hb
  have hbm : b * 2 ^ (8 * (k % 2)) ≤ 255 * 2 ^ (8 * (k % 2)) := Nat.mul_le_mul_right _ (by omega)
  have hp : 2 ^ (8 * (k % 2)) * 256 ≤ 65536 := by
    rcases Nat.mod_two_eq_zero_or_one k with h | h <;> rw [h] <;> decide
  have ec : (b : Int) * 2 ^ (8 * (k % 2)) = ((b * 2 ^ (8 * (k % 2)) : Nat) : Int) := by
    rw [Int.natCast_mul, Int.natCast_pow]
    rfl
  have ep : (2 : Int) ^ (8 * (k % 2)) = ((2 ^ (8 * (k % 2)) : Nat) : Int) := by
    rw [Int.natCast_pow]
    rfl
  rw [ec, wraps_u32 _ (by omega) (by omega), or_comm32, or32 (8 * (k % 2)) _ _ (by omega) (by
    rw [ep, ← Int.natCast_emod, Nat.mul_mod_left]; rfl) (by omega) (by omega) (by rw [ep]; omega) (by rw [ep]; omega), h1]
  omega

/-- The memory of Of behind k rounds. -/
structure ROfW (gb : Nat) (t : TypeId) (l : List Int) (f : Nat → Nat) (w wr : World) (k : Nat) : Prop where
  key : Blk wr gb t (Iv .u8 l)
  out : Blk wr w.heap.size 71 (Iv .u32 ((List.range 16).map fun j => ((dAt (leTo f k) j : Nat) : Int)))
  k : Below w.heap.size w wr
  la : gb < w.heap.size
theorem ROfW.drew {gb : Nat} {t : TypeId} {l : List Int} {f : Nat → Nat} {w wr : World} {k : Nat} (h : ROfW gb t l f w wr k) : ROfW gb t l f w wr.drew k := ⟨h.key, h.out, below_drew h.k, h.la⟩
theorem ROfW.step {gb : Nat} {t : TypeId} {l : List Int} {f : Nat → Nat} {w wr : World} {k : Nat} (h : ROfW gb t l f w wr k) (hf : ∀ i, f i < 256) :
    ROfW gb t l f w (wr.setCell ⟨w.heap.size, k / 2, none⟩ (.int .u32 (bits .or .u32 ((dAt (leTo f k) (k / 2) : Nat) : Int) (IntKind.u32.wrap (((f k : Nat) : Int) * 2 ^ (8 * (k % 2))))))) (k + 1) := by
  have hla := h.la
  rw [or_byte32 _ _ k (leTo_lt f hf k) (hf k)]
  refine ⟨h.key.far (by simp; omega) _, ?_, h.k.setCell (by simp) _, h.la⟩
  have hs := h.out.set (k / 2) (.int .u32 ((dAt (leTo f k + f k * 256 ^ k) (k / 2) : Nat) : Int))
  rw [Iv_set] at hs
  have e : ((List.range 16).map fun j => ((dAt (leTo f k) j : Nat) : Int)).set (k / 2) ((dAt (leTo f k + f k * 256 ^ k) (k / 2) : Nat) : Int) = (List.range 16).map fun j => ((dAt (leTo f (k + 1)) j : Nat) : Int) := by
    apply List.ext_getElem (by simp)
    intro j h1 h2
    simp only [List.length_set, List.length_map, List.length_range] at h1
    simp only [List.getElem_set, List.getElem_map, List.getElem_range, leTo]
    by_cases hj : k / 2 = j
    · rw [if_pos hj, hj]
    · rw [if_neg hj]
      by_cases hj2 : j < k / 2
      · rw [d_same _ _ _ _ hj2]
      · rw [d_high _ k j (leTo_lt f hf k) (by omega)]
        have := leTo_lt f hf (k + 1)
        rw [show leTo f k + f k * 256 ^ k = leTo f (k + 1) from rfl, d_high _ (k + 1) j this (by omega)]
  rw [e] at hs
  exact hs
theorem d_num (v : Nat) : ∀ n, lv (dAt v) n = v % 65536 ^ n
  | 0 => by simp [lv, Nat.mod_one]
  | n + 1 => by
    simp only [lv, dAt]
    rw [d_num v n, Nat.pow_succ, Nat.mod_mul, Nat.mul_comm (65536 ^ n)]

set_option maxHeartbeats 2000000 in
set_option maxRecDepth 100000 in
theorem rof_any (gb : Nat) (t : TypeId) (l : List Int) (f : Nat → Nat) (hl : Bytes32 l f) (w : World) (hk : Blk w gb t (Iv .u8 l)) :
    Calls Tryd.prog 18 #[.slice (some ⟨gb, 0, none⟩) 32 32] w (RetSl w 16 (dAt (leTo f 32))) := by
  have hmk : ∀ w, (Instr.makeSlice 48 (.int .i64 16) (.int .i64 16)).run Tryd.prog w = .ok (.slice (some ⟨w.heap.size, 0, none⟩) 16 16) (w.alloc (.cells (Iv .u32 ((List.range 16).map fun j => ((dAt (leTo f 0) j : Nat) : Int))) 71)) := by
    intro w
    have e : (List.range 16).map (fun j => ((dAt (leTo f 0) j : Nat) : Int)) = fill 16 (fun _ => 0) 0 := by simp [List.range, List.range.loop, dAt, leTo, fill]
    rw [e]
    exact make32 16 (by decide) (fun _ => 0) w
  go_enter Tryd.func18, Tryd.ntmps18
  go_wp2
  generalize hW : World.alloc w _ = W
  have F0 : ROfW gb t l f w W 0 := by
    subst hW
    exact ⟨hk.alloc _, Blk.new _ _ _, (Below.refl _ _).alloc (Nat.le_refl _) _, hk.lt⟩
  clear hW hmk
  go_loopw [4] (fun i wr => ∃ k : Nat, k ≤ 32 ∧ i = .int .i64 k ∧ ROfW gb t l f w wr k) (fun i _ => 32 - (intOf i).toNat)
  case atStart => exact ⟨0, by omega, rfl, F0⟩
  case round =>
    obtain ⟨k, hk, rfl, F⟩ := hrel
    clear F0
    by_cases hlt : k < 32
    · go_wp2
      refine wp_region_still_tail 19 (by kernel_rfl) (by kernel_rfl) ?_
      simp only [List.take_succ_cons, List.take_zero, List.drop_succ_cons, List.drop_zero]
      change wpStill _ _ (World.drew wr) (fun a' => wpList _ _ _ _ a' (World.drew wr)) _ _
      have G := F.drew
      clear F
      generalize World.drew wr = V at G ⊢
      have c4 : V.cell? ⟨w.heap.size, k / 2, none⟩ = some (.int .u32 ((dAt (leTo f k) (k / 2) : Nat) : Int)) := by
        rw [G.out.cell, Iv_get _ _ _ (by simp; omega)]
        simp [show k / 2 < 16 by omega]
      have c5 : V.cell? ⟨gb, k, none⟩ = some (.int .u8 ((f k : Nat) : Int)) := by
        rw [G.key.cell, Iv_get _ _ _ (by rw [hl.len]; omega), hl.get k hlt]
      have f4 := G.out.frozen (k / 2)
      have bk := hl.lt k
      have i1 : (0 : Int) ≤ (k : Int) := by omega
      have i2 : (k : Int) < 32 := by omega
      have i3 : (0 : Int) ≤ (k : Int) / 2 := by omega
      have i4 : (k : Int) / 2 < 16 := by omega
      have i5 : ((k : Int) / 2).toNat = k / 2 := by omega
      have i6 : IntKind.i64.wrap ((k : Int) / 2) = (k : Int) / 2 := by rw [IntKind.wrap_i64]; omega
      have i7 : IntKind.i64.wrap (8 * ((k : Int) % 2)) = 8 * ((k : Int) % 2) := by rw [IntKind.wrap_i64]; omega
      have i9 : ((k : Int)).tmod 2 = (k : Int) % 2 := Int.tmod_eq_emod_of_nonneg i1
      have j0 : IntKind.u32.wrap ((f k : Nat) : Int) = ((f k : Nat) : Int) := by rw [IntKind.wrap_u32]; omega
      have j1 : (8 * ((k : Int) % 2)).toNat = 8 * (k % 2) := by omega
      have j2 : min (8 * (k % 2)) 32 = 8 * (k % 2) := by omega
      have i8 : (0 : Int) ≤ 8 * ((k : Int) % 2) := by omega
      repeat still_step
      refine wpStill_nil ?_
      clear i3 i4 i5 i6 i7 i8 i9 j0 j1 j2
      go_wp2
      exact ⟨⟨k + 1, by omega, by go_num, G.step hl.lt⟩, by simp [intOf]; omega⟩
    · obtain rfl : k = 32 := by omega
      obtain ⟨_, HO, HB, _⟩ := F
      have hh : ∀ i, 16 ≤ i → dAt (leTo f 32) i = 0 := fun i hi => d_high _ 32 i (leTo_lt f hl.lt 32) (by omega)
      generalize leTo f 32 = v at *
      go_wp2
      go_ret
      exact ⟨w.heap.size, 16, rfl, Sl.of_blk HO (dAt_lt v) hh, Nat.le_refl _, HB⟩


end Go.Proofs.YtmceebdaaegkeaaDoor
