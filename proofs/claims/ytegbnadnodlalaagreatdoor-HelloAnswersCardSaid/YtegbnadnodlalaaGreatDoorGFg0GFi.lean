/- The contract of field's Bytes: the number's 32 bytes, the lowest first. The contract of field.Of: the number of 32 bytes' lowest 255 bits, modulo 2^255 - 19. Contracts of field.Swap and field.ones. -/
import Derived.Test.YtegbnadnodlalaaGreatDoorGFd0GFf
namespace Go.Proofs.YtegbnadnodlalaaGreatDoor
open Go.RowKit
/-- Byte i of a number. -/
def byteAt (n i : Nat) : Nat := n / 256 ^ i % 256
/-- The 32 bytes of a number, the lowest first, as a Key. -/
def keyOf (n : Nat) : List Int := (List.range 32).map fun i => ((byteAt n i : Nat) : Int)
def Key (l : List Int) : Value := .agg (Iv .u8 l)
theorem keyOf_length (n : Nat) : (keyOf n).length = 32 := by simp [keyOf]
theorem byte_word (n k : Nat) : n / 2 ^ (64 * (k / 8)) % 2 ^ 64 / 2 ^ (k % 8 * 8) % 256 = byteAt n k := by
 have e : (2 : Nat) ^ 64 = 2 ^ (k % 8 * 8) * 2 ^ (64 - k % 8 * 8) := by rw [← Nat.pow_add]; congr 1; omega
 have d : (256 : Nat) ∣ 2 ^ (64 - k % 8 * 8) := by
  have : (256 : Nat) = 2 ^ 8 := rfl
  rw [this]
  exact Nat.pow_dvd_pow 2 (by omega)
 rw [e, Nat.mod_mul_right_div_self, Nat.mod_mod_of_dvd _ d, Nat.div_div_eq_div_mul, ← Nat.pow_add]
 unfold byteAt
 have : (256 : Nat) ^ k = 2 ^ (8 * k) := by rw [Nat.pow_mul]
 rw [this]
 congr 3
 omega
theorem word0 (n : Nat) : bits .or .u64 ((n : Int) % 2251799813685248) (IntKind.u64.wrap ((n : Int) / 2251799813685248 % 2251799813685248 * 2251799813685248)) = (n : Int) % 18446744073709551616 := by
 rw [IntKind.wrap_u64, or_comm64, or64 51 _ _ (by omega) (by omega) (by omega) (by omega) (by omega) (by decide)]; omega
theorem word1 (n : Nat) : bits .or .u64 ((n : Int) / 2251799813685248 % 2251799813685248 / 8192) (IntKind.u64.wrap ((n : Int) / 5070602400912917605986812821504 % 2251799813685248 * 274877906944)) = (n : Int) / 18446744073709551616 % 18446744073709551616 := by
 rw [IntKind.wrap_u64, or_comm64, or64 38 _ _ (by omega) (by omega) (by omega) (by omega) (by omega) (by decide)]; omega
theorem word2 (n : Nat) : bits .or .u64 ((n : Int) / 5070602400912917605986812821504 % 2251799813685248 / 67108864) (IntKind.u64.wrap ((n : Int) / 11417981541647679048466287755595961091061972992 % 2251799813685248 * 33554432)) = (n : Int) / 340282366920938463463374607431768211456 % 18446744073709551616 := by
 rw [IntKind.wrap_u64, or_comm64, or64 25 _ _ (by omega) (by omega) (by omega) (by omega) (by omega) (by decide)]; omega
theorem word3 (n : Nat) (hn : n < 57896044618658097711785492504343953926634992332820282019728792003956564819949) : bits .or .u64 ((n : Int) / 11417981541647679048466287755595961091061972992 % 2251799813685248 / 549755813888) ((n : Int) / 25711008708143844408671393477458601640355247900524685364822016 * 4096) = (n : Int) / 6277101735386680763835789423207666416102355444464034512896 % 18446744073709551616 := by
 rw [or_comm64, or64 12 _ _ (by omega) (by omega) (by omega) (by omega) (by omega) (by decide)]; omega
/-- Word j of a number. -/
def wordAt (n j : Nat) : Nat := n / 2 ^ (64 * j) % 2 ^ 64
theorem words_eq (n : Nat) : [(n : Int) % 18446744073709551616, (n : Int) / 18446744073709551616 % 18446744073709551616, (n : Int) / 340282366920938463463374607431768211456 % 18446744073709551616, (n : Int) / 6277101735386680763835789423207666416102355444464034512896 % 18446744073709551616] =
  (List.range 4).map fun j => ((wordAt n j : Nat) : Int) := by
 simp only [List.range, List.range.loop, List.map_cons, List.map_nil, wordAt, Nat.reduceMul, Nat.reducePow, Nat.div_one]
 simp only [Int.natCast_emod, Int.natCast_ediv]
 rfl
theorem info_key (l : List Int) (h : l.length = 32) : (Tryz.prog.info? 23).map (·.size) = some (Iv .u8 l).size := by
 have i : (Tryz.prog.info? 23).map (·.size) = some 32 := by kernel_rfl
 rw [i, Iv_size, h]
/-- The memory of a call of Bytes behind k rounds. -/
structure BytesW (n : Nat) (w wr : World) (k : Nat) : Prop where
 words : Blk wr (w.heap.size + 1 + 1 + 1) 113 (Iv .u64 ((List.range 4).map fun j => ((wordAt n j : Nat) : Int)))
 bytes : Blk wr (w.heap.size + 1 + 1 + 1 + 1) 23 (Iv .u8 (fill 32 (fun i => ((byteAt n i : Nat) : Int)) k))
 res : Blk wr (w.heap.size + 1) 23 (Iv .u8 (List.replicate 32 0))
 b : Below w.heap.size w wr
theorem BytesW.step {n : Nat} {w wr : World} {k : Nat} (h : BytesW n w wr k) :
  BytesW n w (wr.setCell ⟨w.heap.size + 1 + 1 + 1 + 1, k, none⟩ (.int .u8 (((wordAt n (k / 8) : Nat) : Int) / 2 ^ (k % 8 * 8) % 256))) (k + 1) := by
 have e : ((wordAt n (k / 8) : Nat) : Int) / 2 ^ (k % 8 * 8) % 256 = ((byteAt n k : Nat) : Int) := by
  rw [← byte_word, wordAt]
  simp only [Int.natCast_emod, Int.natCast_ediv, Int.natCast_pow]
  rfl
 rw [e]
 refine ⟨h.words.far (by simp) _, ?_, h.res.far (by simp) _, h.b.setCell (by simp; omega) _⟩
 have := h.bytes.set k (.int .u8 ((byteAt n k : Nat) : Int))
 rw [Iv_set, fill_set 32 (fun i => ((byteAt n i : Nat) : Int)) k] at this
 exact this
set_option maxHeartbeats 1000000 in
set_option maxRecDepth 100000 in
theorem bytes_any (n : Nat) (w : World) (hn : n < pp) : Calls Tryz.prog 61 #[El n] w fun e w' => e = .returned (Key (keyOf n)) ∧ Below w.heap.size w w' := by
 rw [pp_eq] at hn
 unfold El El_cells
 go_enter Tryz.func61, Tryz.ntmps61
 go_wp2
 simp only [word0, word1, word2, word3 n hn]
 generalize hW : World.alloc (World.alloc (World.alloc (World.alloc (World.alloc w _) _) _) _) _ = W
 have F0 : BytesW n w W 0 := by
  subst hW
  exact ⟨words_eq n ▸ (Blk.new' (by simp) _ _).alloc _, Blk.new' (by simp) _ _, (((Blk.new' (by simp) _ _).alloc _).alloc _).alloc _,
   (((((Below.refl _ _).alloc (Nat.le_refl _) _).alloc (by simp) _).alloc (by simp; omega) _).alloc (by simp; omega) _).alloc (by simp; omega) _⟩
 clear hW
 go_loopw [37] (fun i wr => ∃ k : Nat, k ≤ 32 ∧ i = .int .i64 k ∧ BytesW n w wr k) (fun i _ => 32 - (intOf i).toNat)
 case atStart => exact ⟨0, by omega, rfl, F0⟩
 case round =>
  obtain ⟨k, hk, rfl, F⟩ := hrel
  by_cases hlt : k < 32
  ·
   have c4 : wr.cell? ⟨w.heap.size + 1 + 1 + 1, k / 8, none⟩ = some (.int .u64 ((wordAt n (k / 8) : Nat) : Int)) := by
    rw [F.words.cell, Iv_get _ _ _ (by simp; omega)]
    simp [show k / 8 < 4 by omega]
   have c5 : wr.cell? ⟨w.heap.size + 1 + 1 + 1 + 1, k, none⟩ = some (.int .u8 0) := by
    rw [F.bytes.cell, Iv_get _ _ _ (by rw [fill_length]; omega), fill_getD _ _ _ _ hlt, if_neg (by omega)]
   have f5 := F.bytes.frozen k
   go_wp2
   exact ⟨⟨k + 1, by omega, by go_num, F.step⟩, by simp [intOf]; omega⟩
  ·
   obtain rfl : k = 32 := by omega
   have B5 := F.bytes
   have B2 := F.res
   rw [fill_full] at B5
   have hb := F.b
   clear F F0
   go_wp2_with (first | (refine wpList_load_row rfl 23 _ rfl (w.heap.size + 1 + 1 + 1 + 1) rfl 23 _ (0, 0) _ B5 Tryz.underlying23 rfl (info_key _ (by simp)) ?_) | (refine wpList_store_row rfl 23 _ _ rfl (w.heap.size + 1) _ rfl rfl 23 _ B2 (info_key _ (by simp)) (by simp [Iv_size]) (Iv_one _ _) ?_))
   exact bodyPost_ret (results_cell_row rfl _ _ _ 23 _ (0, 0) _ rfl (B2.row _) Tryz.underlying23 rfl (info_key _ (by simp))) rfl ⟨rfl, below_setRow hb (by omega) _⟩
end Go.Proofs.YtegbnadnodlalaaGreatDoor
namespace Go.Proofs.YtegbnadnodlalaaGreatDoor
open Go.RowKit
/-- The number of the first k bytes, the lowest first. -/
def leTo (f : Nat → Nat) : Nat → Nat
 | 0 => 0
 | k + 1 => leTo f k + f k * 256 ^ k
theorem leTo_lt (f : Nat → Nat) (hf : ∀ i, f i < 256) : ∀ k, leTo f k < 256 ^ k
 | 0 => by simp [leTo]
 | k + 1 => by
  have ih := leTo_lt f hf k
  have h := hf k
  have h2 : f k * 256 ^ k ≤ 255 * 256 ^ k := Nat.mul_le_mul_right _ (by omega)
  have h3 : (256 : Nat) ^ (k + 1) = 256 * 256 ^ k := by rw [Nat.pow_succ, Nat.mul_comm]
  simp only [leTo]
  omega
/-- The bytes of an argument. -/
structure Bytes32 (l : List Int) (f : Nat → Nat) : Prop where
 len : l.length = 32
 get : ∀ i, i < 32 → l.getD i 0 = ((f i : Nat) : Int)
 lt : ∀ i, f i < 256
theorem word_same (v b k j : Nat) (hj : j < k / 8) : wordAt (v + b * 256 ^ k) j = wordAt v j := by
 unfold wordAt
 have e : (256 : Nat) ^ k = 2 ^ (64 * j) * (2 ^ 64 * 2 ^ (8 * k - 64 * j - 64)) := by
  rw [← Nat.pow_add, ← Nat.pow_add]
  have : (256 : Nat) = 2 ^ 8 := rfl
  rw [this, ← Nat.pow_mul]
  congr 1
  omega
 have e2 : b * 256 ^ k = 2 ^ (64 * j) * (2 ^ 64 * (b * 2 ^ (8 * k - 64 * j - 64))) := by
  rw [e, ← Nat.mul_assoc, ← Nat.mul_assoc, Nat.mul_comm b, Nat.mul_assoc, Nat.mul_assoc, Nat.mul_left_comm b]
 rw [e2, Nat.add_mul_div_left _ _ (Nat.two_pow_pos _), Nat.add_mul_mod_self_left]
theorem word_high (v k j : Nat) (hv : v < 256 ^ k) (hj : k ≤ 8 * j) : wordAt v j = 0 := by
 unfold wordAt
 have : v < 2 ^ (64 * j) := Nat.lt_of_lt_of_le hv (by
  have : (256 : Nat) = 2 ^ 8 := rfl
  rw [this, ← Nat.pow_mul]
  exact Nat.pow_le_pow_right (by decide) (by omega))
 rw [Nat.div_eq_of_lt this]
theorem word_add (v b k : Nat) (hv : v < 256 ^ k) (hb : b < 256) : wordAt (v + b * 256 ^ k) (k / 8) = wordAt v (k / 8) + b * 2 ^ (k % 8 * 8) ∧ wordAt v (k / 8) < 2 ^ (k % 8 * 8) := by
 unfold wordAt
 have e : (256 : Nat) ^ k = 2 ^ (64 * (k / 8)) * 2 ^ (k % 8 * 8) := by
  rw [← Nat.pow_add]
  have : (256 : Nat) = 2 ^ 8 := rfl
  rw [this, ← Nat.pow_mul]
  congr 1
  omega
 have e2 : b * 256 ^ k = 2 ^ (64 * (k / 8)) * (b * 2 ^ (k % 8 * 8)) := by rw [e, Nat.mul_left_comm]
 have hq : v / 2 ^ (64 * (k / 8)) < 2 ^ (k % 8 * 8) := by
  rw [Nat.div_lt_iff_lt_mul (Nat.two_pow_pos _), Nat.mul_comm, ← e]
  exact hv
 have hp : 2 ^ (k % 8 * 8) * 256 ≤ 2 ^ 64 := by
  have : (256 : Nat) = 2 ^ 8 := rfl
  rw [this, ← Nat.pow_add]
  exact Nat.pow_le_pow_right (by decide) (by omega)
 have hbm : b * 2 ^ (k % 8 * 8) ≤ 255 * 2 ^ (k % 8 * 8) := Nat.mul_le_mul_right _ (by omega)
 rw [e2, Nat.add_mul_div_left _ _ (Nat.two_pow_pos _), Nat.mod_eq_of_lt (a := v / 2 ^ (64 * (k / 8))) (by omega), Nat.mod_eq_of_lt (by omega)]
 exact ⟨rfl, hq⟩
/-- What '|=' does to the word at hand. -/
theorem or_byte (v b k : Nat) (hv : v < 256 ^ k) (hb : b < 256) :
  bits .or .u64 ((wordAt v (k / 8) : Nat) : Int) (IntKind.u64.wrap ((b : Int) * 2 ^ (k % 8 * 8))) = ((wordAt (v + b * 256 ^ k) (k / 8) : Nat) : Int) := by
 obtain ⟨h1, h2⟩ := word_add v b k hv hb
 have hbm : b * 2 ^ (k % 8 * 8) ≤ 255 * 2 ^ (k % 8 * 8) := Nat.mul_le_mul_right _ (by omega)
 have hp : 2 ^ (k % 8 * 8) * 256 ≤ 2 ^ 64 := by
  have : (256 : Nat) = 2 ^ 8 := rfl
  rw [this, ← Nat.pow_add]
  exact Nat.pow_le_pow_right (by decide) (by omega)
 have ec : (b : Int) * 2 ^ (k % 8 * 8) = ((b * 2 ^ (k % 8 * 8) : Nat) : Int) := by
  rw [Int.natCast_mul, Int.natCast_pow]
  rfl
 have ep : (2 : Int) ^ (k % 8 * 8) = ((2 ^ (k % 8 * 8) : Nat) : Int) := by
  rw [Int.natCast_pow]
  rfl
 rw [ec, wraps_u64 _ (by omega) (by omega), or_comm64, or64 (k % 8 * 8) _ _ (by omega) (by
  rw [ep, ← Int.natCast_emod, Nat.mul_mod_left]; rfl) (by omega) (by omega) (by rw [ep]; omega) (by rw [ep]; omega), h1]
 omega
theorem word_int (v j : Nat) : ((wordAt v j : Nat) : Int) = (v : Int) / ((2 ^ (64 * j) : Nat) : Int) % 18446744073709551616 := by
 unfold wordAt
 rw [Int.natCast_emod, Int.natCast_ediv]
 rfl
theorem part0 (v : Nat) : bits .and .u64 ((wordAt v 0 : Nat) : Int) 2251799813685247 = (v : Int) % 2251799813685248 := by
 have := word_int v 0
 simp only [Nat.reduceMul, Nat.reducePow] at this
 rw [and51 _ (by omega) (by omega)]; omega
theorem part1 (v : Nat) : bits .and .u64 (bits .or .u64 (((wordAt v 0 : Nat) : Int) / 2251799813685248) (IntKind.u64.wrap (((wordAt v 1 : Nat) : Int) * 8192))) 2251799813685247 = (v : Int) / 2251799813685248 % 2251799813685248 := by
 have h0 := word_int v 0
 have h1 := word_int v 1
 simp only [Nat.reduceMul, Nat.reducePow] at h0 h1
 rw [IntKind.wrap_u64, or_comm64, or64 13 _ _ (by omega) (by omega) (by omega) (by omega) (by omega) (by decide), and51 _ (by omega) (by omega)]; omega
theorem part2 (v : Nat) : bits .and .u64 (bits .or .u64 (((wordAt v 1 : Nat) : Int) / 274877906944) (IntKind.u64.wrap (((wordAt v 2 : Nat) : Int) * 67108864))) 2251799813685247 = (v : Int) / 5070602400912917605986812821504 % 2251799813685248 := by
 have h0 := word_int v 1
 have h1 := word_int v 2
 simp only [Nat.reduceMul, Nat.reducePow] at h0 h1
 rw [IntKind.wrap_u64, or_comm64, or64 26 _ _ (by omega) (by omega) (by omega) (by omega) (by omega) (by decide), and51 _ (by omega) (by omega)]; omega
theorem part3 (v : Nat) : bits .and .u64 (bits .or .u64 (((wordAt v 2 : Nat) : Int) / 33554432) (IntKind.u64.wrap (((wordAt v 3 : Nat) : Int) * 549755813888))) 2251799813685247 = (v : Int) / 11417981541647679048466287755595961091061972992 % 2251799813685248 := by
 have h0 := word_int v 2
 have h1 := word_int v 3
 simp only [Nat.reduceMul, Nat.reducePow] at h0 h1
 rw [IntKind.wrap_u64, or_comm64, or64 39 _ _ (by omega) (by omega) (by omega) (by omega) (by omega) (by decide), and51 _ (by omega) (by omega)]; omega
theorem part4 (v : Nat) (hv : v < 115792089237316195423570985008687907853269984665640564039457584007913129639936) : bits .and .u64 (((wordAt v 3 : Nat) : Int) / 4096) 2251799813685247 = (v : Int) / 25711008708143844408671393477458601640355247900524685364822016 % 2251799813685248 := by
 have h0 := word_int v 3
 simp only [Nat.reduceMul, Nat.reducePow] at h0
 rw [and51 _ (by omega) (by omega)]; omega
/-- The memory of a call of Of behind k rounds. -/
structure OfW (l : List Int) (f : Nat → Nat) (w wr : World) (k : Nat) : Prop where
 key : Blk wr w.heap.size 23 (Iv .u8 l)
 res : Blk wr (w.heap.size + 1) 83 #[.int .u64 0, .int .u64 0, .int .u64 0, .int .u64 0, .int .u64 0]
 words : Blk wr (w.heap.size + 1 + 1) 113 (Iv .u64 ((List.range 4).map fun j => ((wordAt (leTo f k) j : Nat) : Int)))
 b : Below w.heap.size w wr
theorem OfW.drewN {l : List Int} {f : Nat → Nat} {w wr : World} {k : Nat} (h : OfW l f w wr k) (n : Nat) : OfW l f w (wr.drewN n) k := ⟨h.key, h.res, h.words, below_drewN h.b n⟩
theorem OfW.drew {l : List Int} {f : Nat → Nat} {w wr : World} {k : Nat} (h : OfW l f w wr k) : OfW l f w wr.drew k := ⟨h.key, h.res, h.words, below_drew h.b⟩
theorem OfW.step {l : List Int} {f : Nat → Nat} {w wr : World} {k : Nat} (h : OfW l f w wr k) (hf : ∀ i, f i < 256) (_hk : k < 32) :
  OfW l f w (wr.setCell ⟨w.heap.size + 1 + 1, k / 8, none⟩ (.int .u64 (bits .or .u64 ((wordAt (leTo f k) (k / 8) : Nat) : Int) (IntKind.u64.wrap (((f k : Nat) : Int) * 2 ^ (k % 8 * 8)))))) (k + 1) := by
 rw [or_byte _ _ k (leTo_lt f hf k) (hf k)]
 refine ⟨h.key.far (by simp; omega) _, h.res.far (by simp) _, ?_, h.b.setCell (by simp; omega) _⟩
 have hs := h.words.set (k / 8) (.int .u64 ((wordAt (leTo f k + f k * 256 ^ k) (k / 8) : Nat) : Int))
 rw [Iv_set] at hs
 have e : ((List.range 4).map fun j => ((wordAt (leTo f k) j : Nat) : Int)).set (k / 8) ((wordAt (leTo f k + f k * 256 ^ k) (k / 8) : Nat) : Int) = (List.range 4).map fun j => ((wordAt (leTo f (k + 1)) j : Nat) : Int) := by
  apply List.ext_getElem (by simp)
  intro j h1 h2
  simp only [List.length_set, List.length_map, List.length_range] at h1
  simp only [List.getElem_set, List.getElem_map, List.getElem_range, leTo]
  by_cases hj : k / 8 = j
  · rw [if_pos hj, hj]
  ·
   rw [if_neg hj]
   by_cases hj2 : j < k / 8
   · rw [word_same _ _ _ _ hj2]
   ·
    rw [word_high _ k j (leTo_lt f hf k) (by omega)]
    have := leTo_lt f hf (k + 1)
    rw [show leTo f k + f k * 256 ^ k = leTo f (k + 1) from rfl, word_high _ (k + 1) j this (by omega)]
 rw [e] at hs
 exact hs
set_option maxHeartbeats 4000000 in
set_option maxRecDepth 100000 in
theorem of_any (l : List Int) (f : Nat → Nat) (hl : Bytes32 l f) (w : World) :
  Calls Tryz.prog 73 #[Key l] w fun e w' => e = .returned (El (leTo f 32 % 57896044618658097711785492504343953926634992332820282019728792003956564819968 % pp)) ∧ Below w.heap.size w w' := by
 unfold Key
 go_enter Tryz.func73, Tryz.ntmps73
 go_wp2
 generalize hW : World.alloc (World.alloc (World.alloc w _) _) _ = W
 have F0 : OfW l f w W 0 := by
  subst hW
  refine ⟨((Blk.new _ _ _).alloc _).alloc _, (Blk.new' (by simp) _ _).alloc _, ?_, (((Below.refl _ _).alloc (Nat.le_refl _) _).alloc (by simp) _).alloc (by simp; omega) _⟩
  have e : (List.range 4).map (fun j => ((wordAt (leTo f 0) j : Nat) : Int)) = [0, 0, 0, 0] := by
   simp [List.range, List.range.loop, wordAt, leTo]
  rw [e]
  exact Blk.new' (by simp) _ _
 clear hW
 go_loopw [5] (fun i wr => ∃ k : Nat, k ≤ 32 ∧ i = .int .i64 k ∧ OfW l f w wr k) (fun i _ => 32 - (intOf i).toNat)
 case atStart => exact ⟨0, by omega, rfl, F0⟩
 case round =>
  obtain ⟨k, hk, rfl, F⟩ := hrel
  clear F0
  by_cases hlt : k < 32
  ·
   go_wp2
   refine wp_region_still_tail 14 (by kernel_rfl) (by kernel_rfl) ?_
   simp only [List.take_succ_cons, List.take_zero, List.drop_succ_cons, List.drop_zero]
   change wpStill _ _ (World.drew wr) (fun a' => wpList _ _ _ _ a' (World.drew wr)) _ _
   have G := F.drew
   clear F
   generalize World.drew wr = V at G ⊢
   have c4 : V.cell? ⟨w.heap.size + 1 + 1, k / 8, none⟩ = some (.int .u64 ((wordAt (leTo f k) (k / 8) : Nat) : Int)) := by
    rw [G.words.cell, Iv_get _ _ _ (by simp; omega)]
    simp [show k / 8 < 4 by omega]
   have c5 : V.cell? ⟨w.heap.size, k, none⟩ = some (.int .u8 ((f k : Nat) : Int)) := by
    rw [G.key.cell, Iv_get _ _ _ (by rw [hl.len]; omega), hl.get k hlt]
   have f4 := G.words.frozen (k / 8)
   have bk := hl.lt k
   have i1 : (0 : Int) ≤ (k : Int) := by omega
   have i2 : (k : Int) < 32 := by omega
   have i3 : (0 : Int) ≤ (k : Int) / 8 := by omega
   have i4 : (k : Int) / 8 < 4 := by omega
   have i5 : ((k : Int) / 8).toNat = k / 8 := by omega
   have i6 : IntKind.i64.wrap ((k : Int) / 8) = (k : Int) / 8 := by rw [IntKind.wrap_i64]; omega
   have i7 : IntKind.i64.wrap ((k : Int) % 8 * 8) = (k : Int) % 8 * 8 := by rw [IntKind.wrap_i64]; omega
   have i9 : ((k : Int)).tmod 8 = (k : Int) % 8 := Int.tmod_eq_emod_of_nonneg i1
   have j0 : IntKind.u64.wrap ((f k : Nat) : Int) = ((f k : Nat) : Int) := by rw [IntKind.wrap_u64]; omega
   have j1 : ((k : Int) % 8 * 8).toNat = k % 8 * 8 := by omega
   have j2 : min (k % 8 * 8) 64 = k % 8 * 8 := by omega
   have i8 : (0 : Int) ≤ (k : Int) % 8 * 8 := by omega
   repeat still_step
   refine wpStill_nil ?_
   clear i3 i4 i5 i6 i7 i8 i9 j0 j1 j2
   go_wp2
   exact ⟨⟨k + 1, by omega, by go_num, G.step hl.lt hlt⟩, by simp [intOf]; omega⟩
  ·
   obtain rfl : k = 32 := by omega
   have B5 := F.words
   have B2 := F.res
   have hb := F.b
   clear F
   have hv : leTo f 32 < 115792089237316195423570985008687907853269984665640564039457584007913129639936 := leTo_lt f hl.lt 32
   generalize hV : leTo f 32 = v at *
   have e0 := B5.cell 0
   have e1 := B5.cell 1
   have e2 := B5.cell 2
   have e3 := B5.cell 3
   change _ = some (Value.int .u64 ((wordAt v 0 : Nat) : Int)) at e0
   change _ = some (Value.int .u64 ((wordAt v 1 : Nat) : Int)) at e1
   change _ = some (Value.int .u64 ((wordAt v 2 : Nat) : Int)) at e2
   change _ = some (Value.int .u64 ((wordAt v 3 : Nat) : Int)) at e3
   have HV := Lib.hid hV
   clear hV B5
   obtain ⟨m, hm⟩ : ∃ m, m = v % 57896044618658097711785492504343953926634992332820282019728792003956564819968 := ⟨_, rfl⟩
   have hm2 : val5 ((v : Int) % 2251799813685248) ((v : Int) / 2251799813685248 % 2251799813685248) ((v : Int) / 5070602400912917605986812821504 % 2251799813685248) ((v : Int) / 11417981541647679048466287755595961091061972992 % 2251799813685248) ((v : Int) / 25711008708143844408671393477458601640355247900524685364822016 % 2251799813685248) = (m : Int) := by unfold val5; omega
   have HM := Lib.hid hm
   have HM2 := Lib.hid hm2
   clear hm hm2
   go_wp2_with fail
   simp only [part0, part1, part2, part3, part4 v hv]
   refine (reduce_any _ _ _ _ _ m _ (by omega) (by omega) (by omega) (by omega) (by omega) (by omega) (by omega) (by omega) (by omega) (by omega) HM2.out).mono ?_
   rintro e w1 ⟨rfl, hb1⟩
   have B3 := B2.below hb1 B2.lt
   have hB := hb.trans (hb1.mono hb.size)
   clear hb hb1 B2 e0 e1 e2 e3
   go_wp2_with (refine wpList_store_row rfl 83 _ _ rfl (w.heap.size + 1) (El_cells _) rfl rfl 83 _ B3 (info_El _) rfl (El_one _) ?_)
   exact bodyPost_ret (results_cell_row rfl _ _ _ 83 _ (0, 0) _ rfl (B3.row _) Tryz.underlying83 rfl (info_El _)) rfl ⟨by rw [HV.out, ← HM.out]; rfl, below_setRow hB (by omega) _⟩
end Go.Proofs.YtegbnadnodlalaaGreatDoor
namespace Go.Proofs.YtegbnadnodlalaaGreatDoor
open Go.RowKit
theorem and_all (x : Nat) (hx : x < 18446744073709551616) : bits .and .u64 18446744073709551615 ((x : Nat) : Int) = ((x : Nat) : Int) := by
 have h := u64_and_nat 18446744073709551615 x (by omega) hx
 have e : 18446744073709551615 &&& x = x := by
  rw [Nat.and_comm]
  have := Nat.and_two_pow_sub_one_eq_mod x 64
  simp only [Nat.reducePow, Nat.reduceSub] at this
  rw [this]
  omega
 rw [e] at h
 exact h
theorem and_none (x : Nat) (hx : x < 18446744073709551616) : bits .and .u64 0 ((x : Nat) : Int) = 0 := by
 have h := u64_and_nat 0 x (by omega) hx
 rw [Nat.zero_and] at h
 exact h
/-- The mask of a swap. -/
def maskOf (s : Nat) : Int := IntKind.u64.wrap (-(bits .and .u64 (s : Int) 1))
theorem maskOf_odd (s : Nat) (hs : s < 18446744073709551616) (h : s % 2 = 1) : maskOf s = 18446744073709551615 := by
 unfold maskOf
 rw [and1 _ (by omega) (by omega), IntKind.wrap_u64]; omega
theorem maskOf_even (s : Nat) (hs : s < 18446744073709551616) (h : s % 2 = 0) : maskOf s = 0 := by
 unfold maskOf
 rw [and1 _ (by omega) (by omega), IntKind.wrap_u64]; omega
theorem swap_one (s x y : Nat) (hs : s < 18446744073709551616) (hx : x < 18446744073709551616) (hy : y < 18446744073709551616) :
  bits .xor .u64 (x : Int) (bits .and .u64 (maskOf s) (bits .xor .u64 (x : Int) (y : Int))) = ((if s % 2 = 1 then y else x : Nat) : Int) ∧
  bits .xor .u64 (y : Int) (bits .and .u64 (maskOf s) (bits .xor .u64 (x : Int) (y : Int))) = ((if s % 2 = 1 then x else y : Nat) : Int) := by
 have hxy : x ^^^ y < 18446744073709551616 := Nat.xor_lt_two_pow (n := 64) hx hy
 rw [u64_xor_nat x y hx hy]
 by_cases h : s % 2 = 1
 ·
  rw [maskOf_odd s hs h, and_all _ hxy, u64_xor_nat _ _ hx hxy, u64_xor_nat _ _ hy hxy, if_pos h, if_pos h, ← Nat.xor_assoc, Nat.xor_self, Nat.zero_xor, Nat.xor_comm x y, ← Nat.xor_assoc, Nat.xor_self, Nat.zero_xor]
  exact ⟨rfl, rfl⟩
 ·
  rw [maskOf_even s hs (by omega), and_none _ hxy, if_neg h, if_neg h]
  have h1 := u64_xor_nat x 0 hx (by omega)
  have h2 := u64_xor_nat y 0 hy (by omega)
  rw [Nat.xor_zero] at h1 h2
  exact ⟨h1, h2⟩
/-- The first k of n numbers are f's, the others g's. -/
def mix (n : Nat) (f g : Nat → Nat) (k : Nat) : List Int := (List.range n).map fun i => ((if i < k then f i else g i : Nat) : Int)
theorem mix_set (n : Nat) (f g : Nat → Nat) (k : Nat) : (mix n f g k).set k ((f k : Nat) : Int) = mix n f g (k + 1) := by
 apply List.ext_getElem (by simp [mix])
 intro i h1 h2
 simp only [mix, List.length_map, List.length_range] at h2
 simp only [mix, List.getElem_set, List.getElem_map, List.getElem_range]
 by_cases h : k = i
 · subst h; simp
 ·
  rw [if_neg h]
  by_cases h3 : i < k
  · rw [if_pos h3, if_pos (by omega)]
  · rw [if_neg h3, if_neg (by omega)]
theorem mix_length (n : Nat) (f g : Nat → Nat) (k : Nat) : (mix n f g k).length = n := by simp [mix]
theorem mix_getD (n : Nat) (f g : Nat → Nat) (k i : Nat) (h : i < n) : (mix n f g k).getD i 0 = ((if i < k then f i else g i : Nat) : Int) := by simp [mix, h]
/-- Part i of a number. -/
def partAt (n i : Nat) : Nat := if i < 4 then n / 2 ^ (51 * i) % 2 ^ 51 else n / 2 ^ 204
theorem El_mix (n : Nat) (g : Nat → Nat) : El_cells n = Iv .u64 (mix 5 (partAt n) g 5) := by
 rw [El_Iv]
 simp only [mix, List.range, List.range.loop, List.map_cons, List.map_nil, partAt]
 simp only [Nat.reduceMul, Nat.reducePow, Nat.reduceLT, if_true, if_false, Int.natCast_emod, Int.natCast_ediv, Nat.div_one]
 rfl
theorem El_mix0 (n : Nat) (f : Nat → Nat) : El_cells n = Iv .u64 (mix 5 f (partAt n) 0) := by
 rw [El_Iv]
 simp only [mix, List.range, List.range.loop, List.map_cons, List.map_nil, partAt]
 simp only [Nat.reduceMul, Nat.reducePow, Nat.reduceLT, if_true, if_false, Int.natCast_emod, Int.natCast_ediv, Nat.div_one, Nat.not_lt_zero]
 rfl
theorem partAt_lt (n i : Nat) (hn : n < pp) : partAt n i < 18446744073709551616 := by
 rw [pp_eq] at hn
 unfold partAt
 split <;> omega
/-- The first of two, or the second, if s is odd. -/
def swapped (s a b : Nat) : Nat := if s % 2 = 1 then b else a
/-- The memory of a call of Swap behind k rounds. -/
structure SwapW (s a b : Nat) (w wr : World) (k : Nat) : Prop where
 x : Blk wr w.heap.size 83 (Iv .u64 (mix 5 (partAt (swapped s a b)) (partAt a) k))
 y : Blk wr (w.heap.size + 1) 83 (Iv .u64 (mix 5 (partAt (swapped s b a)) (partAt b) k))
 r : Blk wr (w.heap.size + 1 + 1) 83 #[.int .u64 0, .int .u64 0, .int .u64 0, .int .u64 0, .int .u64 0]
 q : Blk wr (w.heap.size + 1 + 1 + 1) 83 #[.int .u64 0, .int .u64 0, .int .u64 0, .int .u64 0, .int .u64 0]
 b : Below w.heap.size w wr
theorem SwapW.drewN {s a b : Nat} {w wr : World} {k : Nat} (h : SwapW s a b w wr k) (n : Nat) : SwapW s a b w (wr.drewN n) k := ⟨h.x, h.y, h.r, h.q, below_drewN h.b n⟩
theorem SwapW.drew {s a b : Nat} {w wr : World} {k : Nat} (h : SwapW s a b w wr k) : SwapW s a b w wr.drew k := ⟨h.x, h.y, h.r, h.q, below_drew h.b⟩
theorem SwapW.step {s a b : Nat} {w wr : World} {k : Nat} (h : SwapW s a b w wr k) (hs : s < 18446744073709551616) (ha : a < pp) (hb : b < pp) :
  SwapW s a b w ((wr.setCell ⟨w.heap.size, k, none⟩ (.int .u64 (bits .xor .u64 ((partAt a k : Nat) : Int) (bits .and .u64 (maskOf s) (bits .xor .u64 ((partAt a k : Nat) : Int) ((partAt b k : Nat) : Int)))))).setCell ⟨w.heap.size + 1, k, none⟩
   (.int .u64 (bits .xor .u64 ((partAt b k : Nat) : Int) (bits .and .u64 (maskOf s) (bits .xor .u64 ((partAt a k : Nat) : Int) ((partAt b k : Nat) : Int)))))) (k + 1) := by
 obtain ⟨e1, e2⟩ := swap_one s (partAt a k) (partAt b k) hs (partAt_lt a k ha) (partAt_lt b k hb)
 rw [e1, e2]
 have d1 : (if s % 2 = 1 then partAt b k else partAt a k) = partAt (swapped s a b) k := by unfold swapped; split <;> rfl
 have d2 : (if s % 2 = 1 then partAt a k else partAt b k) = partAt (swapped s b a) k := by unfold swapped; split <;> rfl
 rw [d1, d2]
 refine ⟨?_, ?_, (h.r.far (by simp; omega) _).far (by simp) _, (h.q.far (by simp; omega) _).far (by simp; omega) _, (h.b.setCell (by simp) _).setCell (by simp) _⟩
 ·
  have := (h.x.set k (.int .u64 ((partAt (swapped s a b) k : Nat) : Int))).far (p := ⟨w.heap.size + 1, k, none⟩) (by simp) (.int .u64 ((partAt (swapped s b a) k : Nat) : Int))
  rw [Iv_set, mix_set] at this
  exact this
 ·
  have := (h.y.far (p := ⟨w.heap.size, k, none⟩) (by simp) (.int .u64 ((partAt (swapped s a b) k : Nat) : Int))).set k (.int .u64 ((partAt (swapped s b a) k : Nat) : Int))
  rw [Iv_set, mix_set] at this
  exact this
set_option maxHeartbeats 4000000 in
set_option maxRecDepth 100000 in
theorem swap_any (s a b : Nat) (w : World) (hs : s < 18446744073709551616) (ha : a < pp) (hb : b < pp) :
  Calls Tryz.prog 97 #[.int .u64 s, El a, El b] w fun e w' => e = .returned (.tuple #[El (swapped s a b), El (swapped s b a)]) ∧ Below w.heap.size w w' := by
 unfold El
 go_enter Tryz.func97, Tryz.ntmps97
 go_wp2
 generalize hW : World.alloc (World.alloc (World.alloc (World.alloc w _) _) _) _ = W
 have F0 : SwapW s a b w W 0 := by
  subst hW
  exact ⟨El_mix0 a _ ▸ (((Blk.new _ _ _).alloc _).alloc _).alloc _, El_mix0 b _ ▸ ((Blk.new' (by simp) _ _).alloc _).alloc _, (Blk.new' (by simp) _ _).alloc _, Blk.new' (by simp) _ _,
   ((((Below.refl _ _).alloc (Nat.le_refl _) _).alloc (by simp) _).alloc (by simp; omega) _).alloc (by simp; omega) _⟩
 clear hW
 go_loopw [14] (fun i wr => ∃ k : Nat, k ≤ 5 ∧ i = .int .i64 k ∧ SwapW s a b w wr k) (fun i _ => 5 - (intOf i).toNat)
 case atStart => exact ⟨0, by omega, rfl, F0⟩
 case round =>
  obtain ⟨k, hk, rfl, F⟩ := hrel
  clear F0
  by_cases hlt : k < 5
  ·
   have cx : wr.cell? ⟨w.heap.size, k, none⟩ = some (.int .u64 ((partAt a k : Nat) : Int)) := by
    rw [F.x.cell, Iv_get _ _ _ (by rw [mix_length]; omega), mix_getD _ _ _ _ _ hlt, if_neg (by omega)]
   have cy : wr.cell? ⟨w.heap.size + 1, k, none⟩ = some (.int .u64 ((partAt b k : Nat) : Int)) := by
    rw [F.y.cell, Iv_get _ _ _ (by rw [mix_length]; omega), mix_getD _ _ _ _ _ hlt, if_neg (by omega)]
   have i1 : (0 : Int) ≤ (k : Int) := by omega
   have i2 : (k : Int) < 5 := by omega
   go_wp2
   go_quiet (fail)
   have G := F.drewN nq
   clear F cx cy
   generalize World.drewN wr nq = V at G ⊢
   have cx : V.cell? ⟨w.heap.size, k, none⟩ = some (.int .u64 ((partAt a k : Nat) : Int)) := by
    rw [G.x.cell, Iv_get _ _ _ (by rw [mix_length]; omega), mix_getD _ _ _ _ _ hlt, if_neg (by omega)]
   have cy : V.cell? ⟨w.heap.size + 1, k, none⟩ = some (.int .u64 ((partAt b k : Nat) : Int)) := by
    rw [G.y.cell, Iv_get _ _ _ (by rw [mix_length]; omega), mix_getD _ _ _ _ _ hlt, if_neg (by omega)]
   have fx := G.x.frozen k
   have fy := G.y.frozen k
   go_wp2
   exact ⟨⟨k + 1, by omega, by go_num, G.step hs ha hb⟩, by simp [intOf]; omega⟩
  ·
   obtain rfl : k = 5 := by omega
   obtain ⟨HX, HY, HR, HQ, HB⟩ := F
   rw [← El_mix] at HX HY
   obtain ⟨x0, x1, x2, x3, x4, ex⟩ : ∃ x0 x1 x2 x3 x4 : Int, El_cells (swapped s a b) = #[.int .u64 x0, .int .u64 x1, .int .u64 x2, .int .u64 x3, .int .u64 x4] := ⟨_, _, _, _, _, rfl⟩
   obtain ⟨y0, y1, y2, y3, y4, ey⟩ : ∃ x0 x1 x2 x3 x4 : Int, El_cells (swapped s b a) = #[.int .u64 x0, .int .u64 x1, .int .u64 x2, .int .u64 x3, .int .u64 x4] := ⟨_, _, _, _, _, rfl⟩
   rw [ex] at HX
   rw [ey] at HY
   have EX := Lib.hid ex
   have EY := Lib.hid ey
   clear ex ey
   obtain ⟨p0, p1, p2, p3, p4⟩ := HX.five
   obtain ⟨q0, q1, q2, q3, q4⟩ := HY.five
   obtain ⟨r0, r1, r2, r3, r4⟩ := HR.five
   obtain ⟨s0, s1, s2, s3, s4⟩ := HQ.five
   have fr := HR.frozen
   have fq := HQ.frozen
   have fr0 := fr 0; have fr1 := fr 1; have fr2 := fr 2; have fr3 := fr 3; have fr4 := fr 4
   have fq0 := fq 0; have fq1 := fq 1; have fq2 := fq 2; have fq3 := fq 3; have fq4 := fq 4
   clear fr fq HX HY
   go_wp2
   go_region
   go_wp2
   refine bodyPost_ret (results_two rfl _ _ (w.heap.size + 1 + 1) (w.heap.size + 1 + 1 + 1) 83 83 _ _ _ rfl rfl ((HR.set5 _ _ _ _ _).far5 (by omega) _ _ _ _ _).drew ((HQ.far5 (by omega) _ _ _ _ _).set5 _ _ _ _ _).drew Tryz.underlying83 rfl (info_El 0) (info_El 0)) rfl ⟨by rw [EX.out, EY.out], below_drew (below_set5 (below_set5 HB (by omega) _ _ _ _ _) (by omega) _ _ _ _ _)⟩
end Go.Proofs.YtegbnadnodlalaaGreatDoor
