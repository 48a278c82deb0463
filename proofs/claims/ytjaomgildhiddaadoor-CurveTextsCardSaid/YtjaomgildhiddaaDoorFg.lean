/- The contract of field's Bytes: the number's 32 bytes, the lowest first. -/
import Derived.Test.YtjaomgildhiddaaDoorFf
namespace Go.Proofs.YtjaomgildhiddaaDoor
open Go.RowKit

/-- Byte i of a number. -/
def byteAt (n i : Nat) : Nat := n / 256 ^ i % 256
/-- The 32 bytes of a number, the lowest first, as a Key. -/
def keyOf (n : Nat) : List Int := (List.range 32).map fun i => ((byteAt n i : Nat) : Int)
def Key (l : List Int) : Value := .agg (Iv .u8 l)
theorem keyOf_length (n : Nat) : (keyOf n).length = 32 := by simp [keyOf]
theorem byte_word (n k : Nat) : n / 2 ^ (64 * (k / 8)) % 2 ^ 64 / 2 ^ (k % 8 * 8) % 256 = byteAt n k := by
  have e : (2 : Nat) ^ 64 = 2 ^ (k % 8 * 8) * 2 ^ (64 - k % 8 * 8) := by rw [← Nat.pow_add]; congr 1; omega
  have d : (256 : Nat) ∣ 2 ^ (64 - k % 8 * 8) := by
    have : (256 : Nat) = 2 ^ 8 := rfl
    rw [this]
    exact Nat.pow_dvd_pow 2 (by omega)
  rw [e, Nat.mod_mul_right_div_self, Nat.mod_mod_of_dvd _ d, Nat.div_div_eq_div_mul, ← Nat.pow_add]
  unfold byteAt
  have : (256 : Nat) ^ k = 2 ^ (8 * k) := by rw [Nat.pow_mul]
  rw [this]
  congr 3
  omega

theorem word0 (n : Nat) : bits .or .u64 ((n : Int) % 2251799813685248) (IntKind.u64.wrap ((n : Int) / 2251799813685248 % 2251799813685248 * 2251799813685248)) = (n : Int) % 18446744073709551616 := by
  rw [IntKind.wrap_u64, or_comm64, or64 51 _ _ (by omega) (by omega) (by omega) (by omega) (by omega) (by decide)]; omega
theorem word1 (n : Nat) : bits .or .u64 ((n : Int) / 2251799813685248 % 2251799813685248 / 8192) (IntKind.u64.wrap ((n : Int) / 5070602400912917605986812821504 % 2251799813685248 * 274877906944)) = (n : Int) / 18446744073709551616 % 18446744073709551616 := by
  rw [IntKind.wrap_u64, or_comm64, or64 38 _ _ (by omega) (by omega) (by omega) (by omega) (by omega) (by decide)]; omega
theorem word2 (n : Nat) : bits .or .u64 ((n : Int) / 5070602400912917605986812821504 % 2251799813685248 / 67108864) (IntKind.u64.wrap ((n : Int) / 11417981541647679048466287755595961091061972992 % 2251799813685248 * 33554432)) = (n : Int) / 340282366920938463463374607431768211456 % 18446744073709551616 := by
  rw [IntKind.wrap_u64, or_comm64, or64 25 _ _ (by omega) (by omega) (by omega) (by omega) (by omega) (by decide)]; omega
theorem word3 (n : Nat) (hn : n < 57896044618658097711785492504343953926634992332820282019728792003956564819949) : bits .or .u64 ((n : Int) / 11417981541647679048466287755595961091061972992 % 2251799813685248 / 549755813888) ((n : Int) / 25711008708143844408671393477458601640355247900524685364822016 * 4096) = (n : Int) / 6277101735386680763835789423207666416102355444464034512896 % 18446744073709551616 := by
  rw [or_comm64, or64 12 _ _ (by omega) (by omega) (by omega) (by omega) (by omega) (by decide)]; omega
/-- Word j of a number. -/
def wordAt (n j : Nat) : Nat := n / 2 ^ (64 * j) % 2 ^ 64
theorem words_eq (n : Nat) : [(n : Int) % 18446744073709551616, (n : Int) / 18446744073709551616 % 18446744073709551616, (n : Int) / 340282366920938463463374607431768211456 % 18446744073709551616, (n : Int) / 6277101735386680763835789423207666416102355444464034512896 % 18446744073709551616] =
    (List.range 4).map fun j => ((wordAt n j : Nat) : Int) := by
  simp only [List.range, List.range.loop, List.map_cons, List.map_nil, wordAt, Nat.reduceMul, Nat.reducePow, Nat.div_one]
  simp only [Int.natCast_emod, Int.natCast_ediv]
  rfl

theorem info_key (l : List Int) (h : l.length = 32) : (Tryd.prog.info? 23).map (·.size) = some (Iv .u8 l).size := by
  have i : (Tryd.prog.info? 23).map (·.size) = some 32 := by kernel_rfl
  rw [i, Iv_size, h]
/-- The memory of a call of Bytes behind k rounds. -/
structure BytesW (n : Nat) (w wr : World) (k : Nat) : Prop where
  words : Blk wr (w.heap.size + 1 + 1 + 1) 78 (Iv .u64 ((List.range 4).map fun j => ((wordAt n j : Nat) : Int)))
  bytes : Blk wr (w.heap.size + 1 + 1 + 1 + 1) 23 (Iv .u8 (fill 32 (fun i => ((byteAt n i : Nat) : Int)) k))
  res : Blk wr (w.heap.size + 1) 23 (Iv .u8 (List.replicate 32 0))
  b : Below w.heap.size w wr

theorem BytesW.step {n : Nat} {w wr : World} {k : Nat} (h : BytesW n w wr k) :
    BytesW n w (wr.setCell ⟨w.heap.size + 1 + 1 + 1 + 1, k, none⟩ (.int .u8 (((wordAt n (k / 8) : Nat) : Int) / 2 ^ (k % 8 * 8) % 256))) (k + 1) := by
  have e : ((wordAt n (k / 8) : Nat) : Int) / 2 ^ (k % 8 * 8) % 256 = ((byteAt n k : Nat) : Int) := by
    rw [← byte_word, wordAt]
    simp only [Int.natCast_emod, Int.natCast_ediv, Int.natCast_pow]
    rfl
  rw [e]
  refine ⟨h.words.far (by simp) _, ?_, h.res.far (by simp) _, h.b.setCell (by simp; omega) _⟩
  have := h.bytes.set k (.int .u8 ((byteAt n k : Nat) : Int))
  rw [Iv_set, fill_set 32 (fun i => ((byteAt n i : Nat) : Int)) k] at this
  exact this

set_option maxHeartbeats 1000000 in
set_option maxRecDepth 100000 in
theorem bytes_any (n : Nat) (w : World) (hn : n < pp) : Calls Tryd.prog 32 #[El n] w fun e w' => e = .returned (Key (keyOf n)) ∧ Below w.heap.size w w' := by
  rw [pp_eq] at hn
  unfold El El_cells
  go_enter Tryd.func32, Tryd.ntmps32
  go_wp2
  simp only [word0, word1, word2, word3 n hn]
  generalize hW : World.alloc (World.alloc (World.alloc (World.alloc (World.alloc w _) _) _) _) _ = W
  have F0 : BytesW n w W 0 := by
    subst hW
    exact ⟨words_eq n ▸ (Blk.new' (by simp) _ _).alloc _, Blk.new' (by simp) _ _, (((Blk.new' (by simp) _ _).alloc _).alloc _).alloc _,
      (((((Below.refl _ _).alloc (Nat.le_refl _) _).alloc (by simp) _).alloc (by simp; omega) _).alloc (by simp; omega) _).alloc (by simp; omega) _⟩
  clear hW
  go_loopw [37] (fun i wr => ∃ k : Nat, k ≤ 32 ∧ i = .int .i64 k ∧ BytesW n w wr k) (fun i _ => 32 - (intOf i).toNat)
  case atStart => exact ⟨0, by omega, rfl, F0⟩
  case round =>
    obtain ⟨k, hk, rfl, F⟩ := hrel
    by_cases hlt : k < 32
    · have c4 : wr.cell? ⟨w.heap.size + 1 + 1 + 1, k / 8, none⟩ = some (.int .u64 ((wordAt n (k / 8) : Nat) : Int)) := by
        rw [F.words.cell, Iv_get _ _ _ (by simp; omega)]
        simp [show k / 8 < 4 by omega]
      have c5 : wr.cell? ⟨w.heap.size + 1 + 1 + 1 + 1, k, none⟩ = some (.int .u8 0) := by
        rw [F.bytes.cell, Iv_get _ _ _ (by rw [fill_length]; omega), fill_getD _ _ _ _ hlt, if_neg (by omega)]
      have f5 := F.bytes.frozen k
      go_wp2
      exact ⟨⟨k + 1, by omega, by go_num, F.step⟩, by simp [intOf]; omega⟩
    · obtain rfl : k = 32 := by omega
      have B5 := F.bytes
      have B2 := F.res
      rw [fill_full] at B5
      have hb := F.b
      clear F F0
      go_wp2_with (first | (refine wpList_load_row rfl 23 _ rfl (w.heap.size + 1 + 1 + 1 + 1) rfl 23 _ (0, 0) _ B5 Tryd.underlying23 rfl (info_key _ (by simp)) ?_) | (refine wpList_store_row rfl 23 _ _ rfl (w.heap.size + 1) _ rfl rfl 23 _ B2 (info_key _ (by simp)) (by simp [Iv_size]) (Iv_one _ _) ?_))
      exact bodyPost_ret (results_cell_row rfl _ _ _ 23 _ (0, 0) _ rfl (B2.row _) Tryd.underlying23 rfl (info_key _ (by simp))) rfl ⟨rfl, below_setRow hb (by omega) _⟩

end Go.Proofs.YtjaomgildhiddaaDoor
