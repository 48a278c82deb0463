/- Contracts of scalar's words, bytes: 32 bytes as four words of 64 bits, and back. -/
import Derived.Test.YtegbnadnodlalaaDoorGRa0Lf
import Derived.Test.YtegbnadnodlalaaDoorLk
namespace Go.Proofs.YtegbnadnodlalaaDoor.Sc
open Go.RowKit
/-- Four words of a number. -/
def Nm_cells (n : Nat) : Array Value := Iv .u64 ((List.range 4).map fun j => ((wordAt n j : Nat) : Int))
def Nm (n : Nat) : Value := .agg (Nm_cells n)
theorem info_nm (n : Nat) : (Tryd.prog.info? 102).map (·.size) = some (Nm_cells n).size := by
  have i : (Tryd.prog.info? 102).map (·.size) = some 4 := by kernel_rfl
  rw [i, Nm_cells, Iv_size]
  rfl
theorem info_w4 (n : Nat) : (Tryd.prog.info? 101).map (·.size) = some (Nm_cells n).size := by
  have i : (Tryd.prog.info? 101).map (·.size) = some 4 := by kernel_rfl
  rw [i, Nm_cells, Iv_size]
  rfl
theorem Nm_one (n : Nat) : (Nm_cells n).all (·.oneCell') = true := Iv_one _ _
theorem Nm_size (n : Nat) : (Nm_cells n).size = 4 := by rw [Nm_cells, Iv_size]; rfl
theorem Nm_at (n j : Nat) (h : j < 4) : (Nm_cells n)[j]? = some (.int .u64 ((wordAt n j : Nat) : Int)) := by
  rw [Nm_cells, Iv_get _ _ _ (by simpa using h)]
  simp [h]
theorem Nm_zero : Nm_cells 0 = #[.int .u64 0, .int .u64 0, .int .u64 0, .int .u64 0] := by
  simp [Nm_cells, Iv, wordAt, List.range, List.range.loop]
/-- The memory of bytes behind k rounds. -/
structure SbyW (n : Nat) (w wr : World) (k : Nat) : Prop where
  words : Blk wr w.heap.size 102 (Nm_cells n)
  res : Blk wr (w.heap.size + 1) 34 (Iv .u8 (List.replicate 32 0))
  bytes : Blk wr (w.heap.size + 1 + 1) 34 (Iv .u8 (fill 32 (fun i => ((byteAt n i : Nat) : Int)) k))
  b : Below w.heap.size w wr
theorem SbyW.step {n : Nat} {w wr : World} {k : Nat} (h : SbyW n w wr k) :
    SbyW n w (wr.setCell ⟨w.heap.size + 1 + 1, k, none⟩ (.int .u8 (((wordAt n (k / 8) : Nat) : Int) / 2 ^ (k % 8 * 8) % 256))) (k + 1) := by
  have e : ((wordAt n (k / 8) : Nat) : Int) / 2 ^ (k % 8 * 8) % 256 = ((byteAt n k : Nat) : Int) := by
    rw [← byte_word, wordAt]
    simp only [Int.natCast_emod, Int.natCast_ediv, Int.natCast_pow]
    rfl
  rw [e]
  refine ⟨h.words.far (by simp; omega) _, h.res.far (by simp) _, ?_, h.b.setCell (by simp; omega) _⟩
  have := h.bytes.set k (.int .u8 ((byteAt n k : Nat) : Int))
  rw [Iv_set, fill_set 32 (fun i => ((byteAt n i : Nat) : Int)) k] at this
  exact this
set_option maxHeartbeats 1000000 in
set_option maxRecDepth 100000 in
theorem sbytes_any (n : Nat) (w : World) : Calls Tryd.prog 65 #[Nm n] w fun e w' => e = .returned (Key (keyOf n)) ∧ Below w.heap.size w w' := by
  unfold Nm
  go_enter Tryd.func65, Tryd.ntmps65
  go_wp2
  generalize hW : World.alloc (World.alloc (World.alloc w _) _) _ = W
  have F0 : SbyW n w W 0 := by
    subst hW
    exact ⟨((Blk.new _ _ _).alloc _).alloc _, (Blk.new' (by simp) _ _).alloc _, Blk.new' (by simp) _ _,
      (((Below.refl _ _).alloc (Nat.le_refl _) _).alloc (by simp) _).alloc (by simp; omega) _⟩
  clear hW
  go_loopw [5] (fun i wr => ∃ k : Nat, k ≤ 32 ∧ i = .int .i64 k ∧ SbyW n w wr k) (fun i _ => 32 - (intOf i).toNat)
  case atStart => exact ⟨0, by omega, rfl, F0⟩
  case round =>
    obtain ⟨k, hk, rfl, F⟩ := hrel
    by_cases hlt : k < 32
    · have c4 : wr.cell? ⟨w.heap.size, k / 8, none⟩ = some (.int .u64 ((wordAt n (k / 8) : Nat) : Int)) := by
        rw [F.words.cell, Nm_at _ _ (by omega)]
      have c5 : wr.cell? ⟨w.heap.size + 1 + 1, k, none⟩ = some (.int .u8 0) := by
        rw [F.bytes.cell, Iv_get _ _ _ (by rw [fill_length]; omega), fill_getD _ _ _ _ hlt, if_neg (by omega)]
      have f5 := F.bytes.frozen k
      go_wp2
      exact ⟨⟨k + 1, by omega, by go_num, F.step⟩, by simp [intOf]; omega⟩
    · obtain rfl : k = 32 := by omega
      have B5 := F.bytes
      have B2 := F.res
      rw [fill_full] at B5
      have hb := F.b
      clear F F0
      go_wp2_with (first | (refine wpList_load_row rfl 34 _ rfl (w.heap.size + 1 + 1) rfl 34 _ (0, 0) _ B5 Tryd.underlying34 rfl (info_key _ (by simp)) ?_) | (refine wpList_store_row rfl 34 _ _ rfl (w.heap.size + 1) _ rfl rfl 34 _ B2 (info_key _ (by simp)) (by simp [Iv_size]) (Iv_one _ _) ?_))
      exact bodyPost_ret (results_cell_row rfl _ _ _ 34 _ (0, 0) _ rfl (B2.row _) Tryd.underlying34 rfl (info_key _ (by simp))) rfl ⟨rfl, below_setRow hb (by omega) _⟩
/-- The memory of words behind k rounds. -/
structure SwoW (l : List Int) (f : Nat → Nat) (w wr : World) (k : Nat) : Prop where
  key : Blk wr w.heap.size 34 (Iv .u8 l)
  res : Blk wr (w.heap.size + 1) 101 (Nm_cells 0)
  words : Blk wr (w.heap.size + 1 + 1) 101 (Nm_cells (leTo f k))
  b : Below w.heap.size w wr
theorem SwoW.drew {l : List Int} {f : Nat → Nat} {w wr : World} {k : Nat} (h : SwoW l f w wr k) : SwoW l f w wr.drew k := ⟨h.key, h.res, h.words, below_drew h.b⟩
theorem SwoW.step {l : List Int} {f : Nat → Nat} {w wr : World} {k : Nat} (h : SwoW l f w wr k) (hf : ∀ i, f i < 256) (_hk : k < 32) :
    SwoW l f w (wr.setCell ⟨w.heap.size + 1 + 1, k / 8, none⟩ (.int .u64 (bits .or .u64 ((wordAt (leTo f k) (k / 8) : Nat) : Int) (IntKind.u64.wrap (((f k : Nat) : Int) * 2 ^ (k % 8 * 8)))))) (k + 1) := by
  rw [or_byte _ _ k (leTo_lt f hf k) (hf k)]
  refine ⟨h.key.far (by simp; omega) _, h.res.far (by simp) _, ?_, h.b.setCell (by simp; omega) _⟩
  have hs := h.words.set (k / 8) (.int .u64 ((wordAt (leTo f k + f k * 256 ^ k) (k / 8) : Nat) : Int))
  unfold Nm_cells at hs
  rw [Iv_set] at hs
  have e : ((List.range 4).map fun j => ((wordAt (leTo f k) j : Nat) : Int)).set (k / 8) ((wordAt (leTo f k + f k * 256 ^ k) (k / 8) : Nat) : Int) = (List.range 4).map fun j => ((wordAt (leTo f (k + 1)) j : Nat) : Int) := by
    apply List.ext_getElem (by simp)
    intro j h1 h2
    simp only [List.length_set, List.length_map, List.length_range] at h1
    simp only [List.getElem_set, List.getElem_map, List.getElem_range, leTo]
    by_cases hj : k / 8 = j
    · rw [if_pos hj, hj]
    · rw [if_neg hj]
      by_cases hj2 : j < k / 8
      · rw [word_same _ _ _ _ hj2]
      · rw [word_high _ k j (leTo_lt f hf k) (by omega)]
        have := leTo_lt f hf (k + 1)
        rw [show leTo f k + f k * 256 ^ k = leTo f (k + 1) from rfl, word_high _ (k + 1) j this (by omega)]
  rw [e] at hs
  exact hs
set_option maxHeartbeats 4000000 in
set_option maxRecDepth 100000 in
theorem swords_any (l : List Int) (f : Nat → Nat) (hl : Bytes32 l f) (w : World) :
    Calls Tryd.prog 63 #[Key l] w fun e w' => e = .returned (Nm (leTo f 32)) ∧ Below w.heap.size w w' := by
  unfold Key
  go_enter Tryd.func63, Tryd.ntmps63
  go_wp2
  generalize hW : World.alloc (World.alloc (World.alloc w _) _) _ = W
  have F0 : SwoW l f w W 0 := by
    subst hW
    refine ⟨((Blk.new _ _ _).alloc _).alloc _, ?_, ?_, (((Below.refl _ _).alloc (Nat.le_refl _) _).alloc (by simp) _).alloc (by simp; omega) _⟩
    · rw [Nm_zero]
      exact (Blk.new' (by simp) _ _).alloc _
    · show Blk _ _ _ (Nm_cells 0)
      rw [Nm_zero]
      exact Blk.new' (by simp) _ _
  clear hW
  go_loopw [5] (fun i wr => ∃ k : Nat, k ≤ 32 ∧ i = .int .i64 k ∧ SwoW l f w wr k) (fun i _ => 32 - (intOf i).toNat)
  case atStart => exact ⟨0, by omega, rfl, F0⟩
  case round =>
    obtain ⟨k, hk, rfl, F⟩ := hrel
    clear F0
    by_cases hlt : k < 32
    · go_wp2
      refine wp_region_still_tail 14 (by kernel_rfl) (by kernel_rfl) ?_
      simp only [List.take_succ_cons, List.take_zero, List.drop_succ_cons, List.drop_zero]
      change wpStill _ _ (World.drew wr) (fun a' => wpList _ _ _ _ a' (World.drew wr)) _ _
      have G := F.drew
      clear F
      generalize World.drew wr = V at G ⊢
      have c4 : V.cell? ⟨w.heap.size + 1 + 1, k / 8, none⟩ = some (.int .u64 ((wordAt (leTo f k) (k / 8) : Nat) : Int)) := by
        rw [G.words.cell, Nm_at _ _ (by omega)]
      have c5 : V.cell? ⟨w.heap.size, k, none⟩ = some (.int .u8 ((f k : Nat) : Int)) := by
        rw [G.key.cell, Iv_get _ _ _ (by rw [hl.len]; omega), hl.get k hlt]
      have f4 := G.words.frozen (k / 8)
      have bk := hl.lt k
      have i1 : (0 : Int) ≤ (k : Int) := by omega
      have i2 : (k : Int) < 32 := by omega
      have i3 : (0 : Int) ≤ (k : Int) / 8 := by omega
      have i4 : (k : Int) / 8 < 4 := by omega
      have i5 : ((k : Int) / 8).toNat = k / 8 := by omega
      have i6 : IntKind.i64.wrap ((k : Int) / 8) = (k : Int) / 8 := by rw [IntKind.wrap_i64]; omega
      have i7 : IntKind.i64.wrap ((k : Int) % 8 * 8) = (k : Int) % 8 * 8 := by rw [IntKind.wrap_i64]; omega
      have i9 : ((k : Int)).tmod 8 = (k : Int) % 8 := Int.tmod_eq_emod_of_nonneg i1
      have j0 : IntKind.u64.wrap ((f k : Nat) : Int) = ((f k : Nat) : Int) := by rw [IntKind.wrap_u64]; omega
      have j1 : ((k : Int) % 8 * 8).toNat = k % 8 * 8 := by omega
      have j2 : min (k % 8 * 8) 64 = k % 8 * 8 := by omega
      have i8 : (0 : Int) ≤ (k : Int) % 8 * 8 := by omega
      repeat still_step
      refine wpStill_nil ?_
      clear i3 i4 i5 i6 i7 i8 i9 j0 j1 j2
      go_wp2
      exact ⟨⟨k + 1, by omega, by go_num, G.step hl.lt hlt⟩, by simp [intOf]; omega⟩
    · obtain rfl : k = 32 := by omega
      have B5 := F.words
      have B2 := F.res
      have hb := F.b
      clear F
      go_wp2_with (first | (refine wpList_load_row rfl 101 _ rfl (w.heap.size + 1 + 1) rfl 101 _ (0, 0) _ B5 Tryd.underlying101 rfl (info_w4 _) ?_) | (refine wpList_store_row rfl 101 _ _ rfl (w.heap.size + 1) _ rfl rfl 101 _ B2 (info_w4 _) (by rw [Nm_size, Nm_size]) (Nm_one _) ?_))
      exact bodyPost_ret (results_cell_row rfl _ _ _ 101 _ (0, 0) _ rfl (B2.row _) Tryd.underlying101 rfl (info_w4 _)) rfl ⟨rfl, below_setRow hb (by omega) _⟩
end Go.Proofs.YtegbnadnodlalaaDoor.Sc
