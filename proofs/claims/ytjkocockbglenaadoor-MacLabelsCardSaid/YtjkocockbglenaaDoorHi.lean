/- sha2: the contract of Sum256. -/
import Derived.Test.YtjkocockbglenaaDoorHh
namespace Go.Proofs.YtjkocockbglenaaDoor
open Go.RowKit

/-- The table of square roots. -/
structure Sq (w : World) (sq : Nat → Nat) : Prop where
  cell : ∀ i, i < 8 → w.cell? ⟨0, i, none⟩ = some (.int .u64 ((sq i : Nat) : Int))
  lt : ∀ i, sq i < 18446744073709551616
  blk : 0 < w.heap.size
/-- The words ahead of all blocks. -/
def sq32 (sq : Nat → Nat) (i : Nat) : Nat := sq i / 4294967296
def sqK (sq : Nat → Nat) (k i : Nat) : Nat := if i < k then sq32 sq i else 0
/-- The sum's bytes, out of the words. -/
def sumB (wd : Nat → Nat) (i : Nat) : Nat := wd (i / 4) / 2 ^ (24 - i % 4 * 8) % 256
def sumK (wd : Nat → Nat) (k i : Nat) : Nat := if i < k then sumB wd i else 0
/-- The world with the result's cell. -/
def W1 (w : World) : World := w.alloc (.cells (Iv .u8 (List.replicate 32 0)) 25)
theorem W1_size (w : World) : (W1 w).heap.size = w.heap.size + 1 := size_alloc _ _
theorem W1_below (w : World) : Below w.heap.size w (W1 w) := (Below.refl _ _).alloc (Nat.le_refl _) _
theorem Sq.below {w w1 : World} {sq : Nat → Nat} (h : Sq w sq) (hb : Below w.heap.size w w1) : Sq w1 sq :=
  ⟨fun i hi => (hb.cell (p := ⟨0, i, none⟩) h.blk).trans (h.cell i hi), h.lt, Nat.lt_of_lt_of_le h.blk hb.size⟩
theorem Parts.below {w w1 : World} {pp : Option Addr} {gp op np : Nat} {len off m : Nat → Nat} (h : Parts w pp gp op np len off m) (hb : Below w.heap.size w w1) : Parts w1 pp gp op np len off m := by
  refine ⟨h.at_, fun i hi => ?_, fun h0 => Nat.lt_of_lt_of_le (h.blk h0) hb.size, h.zero, h.next, h.big⟩
  obtain ⟨p, c, g, o, c1, cl, gl, gp1, bs⟩ := h.cell i hi
  exact ⟨p, c, g, o, (hb.cell (p := ⟨gp, op + i, none⟩) (h.blk (by omega))).trans c1, cl, Nat.lt_of_lt_of_le gl hb.size, gp1, fun j hj => (hb.cell (p := ⟨g, o + j, none⟩) gl).trans (bs j hj)⟩
structure SuW (sq : Nat → Nat) (w wr : World) (k : Nat) : Prop where
  wd : Blk wr (w.heap.size + 1) 50 (Iv .u32 (W8 (sqK sq k)))
  k : Below (W1 w).heap.size (W1 w) wr
theorem SuW.step {sq : Nat → Nat} {w wr : World} {k : Nat} (h : SuW sq w wr k) : SuW sq w (wr.setCell ⟨w.heap.size + 1, k, none⟩ (.int .u32 ((sq32 sq k : Nat) : Int))) (k + 1) := by
  refine ⟨?_, h.k.setCell (by rw [W1_size]; exact Nat.le_refl _) _⟩
  have hs := h.wd.set k (.int .u32 ((sq32 sq k : Nat) : Int))
  rw [Iv_set] at hs
  have e := W8_set (sqK sq k) (sqK sq (k + 1)) k rfl (fun i hi => by unfold sqK; by_cases h : i < k <;> simp [h] <;> omega)
  rw [show sqK sq (k + 1) k = sq32 sq k from if_pos (by omega)] at e
  rw [e] at hs
  exact hs

theorem BL_length (n : Nat) (f : Nat → Nat) : (BL n f).length = n := by simp [BL]
theorem info_B32 (f : Nat → Nat) : (Tryd.prog.info? 25).map (·.size) = some (Iv .u8 (BL 32 f)).size := by
  rw [Iv_size, BL_length]
  kernel_rfl
structure SuV (HK : Nat → Nat) (w1 wr : World) (k : Nat) : Prop where
  o : Blk wr w1.heap.size 25 (Iv .u8 (BL 32 (sumK HK k)))
  k : Below w1.heap.size w1 wr
theorem SuV.step {HK : Nat → Nat} {w1 wr : World} {k : Nat} (h : SuV HK w1 wr k) : SuV HK w1 (wr.setCell ⟨w1.heap.size, k, none⟩ (.int .u8 ((sumB HK k : Nat) : Int))) (k + 1) := by
  refine ⟨?_, h.k.setCell (by simp) _⟩
  have hs := h.o.set k (.int .u8 ((sumB HK k : Nat) : Int))
  rw [Iv_set] at hs
  have e := BL_set 32 (sumK HK k) (sumK HK (k + 1)) k (fun i hi => by unfold sumK; by_cases h : i < k <;> simp [h] <;> omega)
  rw [show sumK HK (k + 1) k = sumB HK k from if_pos (by omega)] at e
  rw [e] at hs
  exact hs

set_option maxHeartbeats 2000000 in
set_option maxRecDepth 100000 in
theorem sum256_any (cu sq m len off : Nat → Nat) (w : World) (pp : Option Addr) (gp op np cp : Nat) (T : Tab w cu) (S : Sq w sq)
    (ml : ∀ i, m i < 256) (hP : Parts w pp gp op np len off m) (hnp : np < 4611686018427387904) (hm : ∀ i, i < roomOf (off np) → m (off np + i) = endK (off np) 8 i) :
    Calls Tryd.prog 19 #[.slice pp np cp] w fun e w' => e = .returned (.agg (Iv .u8 (BL 32 (sumB (hashK cu (sq32 sq) m ((off np + roomOf (off np)) / 64)))))) ∧ Below w.heap.size w w' := by
  have S' := S.below (W1_below w)
  have T' := T.below (W1_below w)
  have P' := hP.below (W1_below w)
  have ws := W1_size w
  clear S T hP
  go_enter Tryd.func19, Tryd.ntmps19
  go_wp2_with fail
  generalize hW : World.alloc (World.alloc w _) _ = W
  have F0 : SuW sq w W 0 := by
    subst hW
    exact ⟨Blk.new' (by simp) _ _, (Below.refl _ (W1 w)).alloc (Nat.le_refl _) _⟩
  clear hW
  go_loopw [4, 7] (fun _ i wr => ∃ k : Nat, k ≤ 8 ∧ i = .int .i64 k ∧ SuW sq w wr k) (fun _ i _ => 8 - (intOf i).toNat)
  case atStart => exact ⟨0, by omega, rfl, F0⟩
  case round =>
    obtain ⟨k, hk, rfl, F⟩ := hrel
    clear F0
    by_cases hlt : k < 8
    · have c1 : wr.cell? ⟨0, k, none⟩ = some (.int .u64 ((sq k : Nat) : Int)) := (F.k.cell (p := ⟨0, k, none⟩) S'.blk).trans (S'.cell k hlt)
      have c2 : wr.cell? ⟨w.heap.size + 1, k, none⟩ = some (.int .u32 ((0 : Nat) : Int)) := by
        rw [F.wd.cell, W8_get _ _ hlt, show sqK sq k k = 0 from if_neg (by omega)]
      have f2 := F.wd.frozen k
      have l1 := S'.lt k
      have S1 := F.step
      rw [show ((sq32 sq k : Nat) : Int) = ((sq k : Nat) : Int) / 4294967296 from by unfold sq32; omega] at S1
      have HS := Lib.hid S1
      clear F S1
      go_wp2
      exact ⟨⟨k + 1, by omega, by go_num, HS.out⟩, by simp [intOf]; omega⟩
    · obtain rfl : k = 8 := by omega
      rw [show ((8 : Nat) : Int) = 8 from rfl]
      have F1 := F.wd
      rw [show W8 (sqK sq 8) = W8 (sq32 sq) from List.map_congr_left fun j hj => by rw [show sqK sq 8 j = sq32 sq j from if_pos (List.mem_range.1 hj)]] at F1
      have BC := Lib.hid (blocks_any cu (sq32 sq) m len off (w.heap.size + 1) (W1 w) wr pp gp op np cp T' F.k (by omega) F1 ml (fun i _ => by have := S'.lt i; unfold sq32; omega) P' hnp hm)
      clear F F1 hk hlt
      go_wp2_with fail
      refine BC.out.mono ?_
      rintro _ w1 ⟨⟨v, rfl⟩, hw1, k1⟩
      clear BC
      have HKl : ∀ i, i < 8 → hashK cu (sq32 sq) m ((off np + roomOf (off np)) / 64) i < 4294967296 := hashK_lt cu (sq32 sq) m (fun i _ => by have := S'.lt i; unfold sq32; omega) _
      obtain ⟨HK, hHK⟩ : ∃ HK, HK = hashK cu (sq32 sq) m ((off np + roomOf (off np)) / 64) := ⟨_, rfl⟩
      rw [← hHK] at hw1 HKl
      have HH := Lib.hid hHK
      clear hHK
      go_wp2_with fail
      have R1 : Blk w1 w.heap.size 25 (Iv .u8 (List.replicate 32 0)) := (Blk.new w 25 (Iv .u8 (List.replicate 32 0))).below k1 (by omega)
      have wl1 := R1.lt
      have wl2 := hw1.lt
      generalize hV : World.alloc w1 _ = V
      have G0 : SuV HK w1 V 0 := by
        subst hV
        refine ⟨?_, (Below.refl _ _).alloc (Nat.le_refl _) _⟩
        rw [show BL 32 (sumK HK 0) = List.replicate 32 0 from by unfold sumK; simp only [Nat.not_lt_zero, if_neg, not_false_eq_true]; rfl]
        exact Blk.new _ _ _
      clear hV
      go_loopw [6, 21] (fun _ i wr => ∃ k : Nat, k ≤ 32 ∧ i = .int .i64 k ∧ SuV HK w1 wr k) (fun _ i _ => 32 - (intOf i).toNat)
      case atStart => exact ⟨0, by omega, rfl, G0⟩
      case round =>
        obtain ⟨k, hk, rfl, F⟩ := hrel
        clear G0
        by_cases hlt : k < 32
        · have c1 : wr.cell? ⟨w.heap.size + 1, k / 4, none⟩ = some (.int .u32 ((HK (k / 4) : Nat) : Int)) := by
            rw [(hw1.below F.k wl2).cell, W8_get _ _ (by omega)]
          have c2 : wr.cell? ⟨w1.heap.size, k, none⟩ = some (.int .u8 ((sumK HK k k : Nat) : Int)) := by
            rw [F.o.cell, BL_get _ _ _ hlt]
          have f2 := F.o.frozen k
          have l1 := HKl (k / 4) (by omega)
          have i1 : ((k : Int) / 4).toNat = k / 4 := by omega
          have i2 : (0 : Int) ≤ (k : Int) / 4 := by omega
          have i3 : (k : Int) / 4 < 8 := by omega
          have i4 : IntKind.i64.wrap ((k : Int) / 4) = (k : Int) / 4 := by rw [IntKind.wrap_i64]; omega
          have i5 : IntKind.i64.wrap ((k : Int) % 4 * 8) = (k : Int) % 4 * 8 := by rw [IntKind.wrap_i64]; omega
          have i6 : IntKind.i64.wrap (24 - (k : Int) % 4 * 8) = 24 - (k : Int) % 4 * 8 := by rw [IntKind.wrap_i64]; omega
          have i7 : (0 : Int) ≤ 24 - (k : Int) % 4 * 8 := by omega
          have i8 : (24 - (k : Int) % 4 * 8).toNat = 24 - k % 4 * 8 := by omega
          have S1 := F.step
          rw [show ((sumB HK k : Nat) : Int) = ((HK (k / 4) : Nat) : Int) / 2 ^ (24 - k % 4 * 8) % 256 from by unfold sumB; push_cast; rfl] at S1
          have HS := Lib.hid S1
          clear F S1
          go_wp2
          exact ⟨⟨k + 1, by omega, by go_num, HS.out⟩, by simp [intOf]; omega⟩
        · obtain rfl : k = 32 := by omega
          rw [show ((32 : Nat) : Int) = 32 from rfl]
          have HO := F.o
          rw [show BL 32 (sumK HK 32) = BL 32 (sumB HK) from List.map_congr_left fun j hj => by rw [show sumK HK 32 j = sumB HK j from if_pos (List.mem_range.1 hj)]] at HO
          have HR := R1.below F.k wl1
          have HB : Below w.heap.size w wr := (W1_below w).trans ((k1.trans (F.k.mono (by omega))).mono (by omega))
          clear F
          go_wp2_with (first | (refine wpList_load_row rfl 25 _ rfl (w1.heap.size) rfl 25 _ (0, 0) _ HO Tryd.underlying25 rfl (info_B32 _) ?_) | (refine wpList_store_row rfl 25 _ _ rfl (w.heap.size) (Iv .u8 (BL 32 (sumB HK))) rfl rfl 25 _ HR (info_B32 _) (by rw [Iv_size, Iv_size, BL_length]; rfl) (Iv_one _ _) ?_))
          exact bodyPost_ret (results_cell_row rfl _ _ _ 25 _ (0, 0) _ rfl (HR.row _) Tryd.underlying25 rfl (info_B32 _)) rfl ⟨by rw [HH.out], below_setRow HB (by omega) _⟩
end Go.Proofs.YtjkocockbglenaaDoor
