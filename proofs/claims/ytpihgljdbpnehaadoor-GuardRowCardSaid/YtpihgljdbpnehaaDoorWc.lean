/- The program's read: a block as a polynomial; its contract. -/
import Derived.Test.YtpihgljdbpnehaaDoorQc0Wb
namespace Go.Proofs.YtpihgljdbpnehaaDoor
open Go.RowKit
theorem pow256 (k : Nat) (hk : k < 8) : 256 ^ k ≤ 72057594037927936 := by
  have : 256 ^ k ≤ 256 ^ 7 := Nat.pow_le_pow_right (by decide) (by omega)
  exact this
theorem wB_lt7 {f : Nat → Nat} (h : ∀ i, f i < 256) (o k : Nat) (hk : k < 8) : wB f o k < 72057594037927936 := Nat.lt_of_lt_of_le (wB_lt h o k) (pow256 k hk)
theorem or_byte (x y : Nat) (hx : x < 72057594037927936) (hy : y < 256) : bits .or .u64 (IntKind.u64.wrap ((x : Int) * 256)) (y : Int) = ((x * 256 + y : Nat) : Int) := by
  have e : IntKind.u64.wrap ((x : Int) * 256) = ((x * 256 : Nat) : Int) := by rw [IntKind.wrap_u64]; omega
  rw [e, or64y 8 _ _ (by omega) (by omega) (by omega) (by omega) (by omega) (by decide)]
  omega
set_option maxHeartbeats 4000000 in
set_option maxRecDepth 100000 in
theorem read_w (f : Nat → Nat) (fa : ∀ i, f i < 256) (w : World) :
    Calls Tryd.prog 67 #[.agg (Iv .u8 (NI (LB f)))] w fun e w' => e = .returned (.agg (pc (wB f 0 8) (wB f 8 8))) ∧ Below w.heap.size w w' := by
  go_enter Tryd.func67, Tryd.ntmps67
  go_upto_region 3 with fail
  generalize hW : World.alloc (World.alloc (World.alloc w _) _) _ = W
  have B0 : Below w.heap.size w W := hW ▸ (((Below.refl w.heap.size w).alloc (Nat.le_refl _) _).alloc (by simp) _).alloc (by simp; omega) _
  have K0 : BB W w.heap.size f := hW ▸ ((Blk.new w 27 (Iv .u8 (NI (LB f)))).alloc _).alloc _
  have K1 : PB W (w.heap.size + 1) 0 0 := hW ▸ (Blk.new' (by simp) _ (pc 0 0)).alloc _
  have K2 : PB W (w.heap.size + 1 + 1) (wB f 0 0) (wB f 8 0) := hW ▸ Blk.new' (by simp) _ (pc 0 0)
  clear hW
  go_loopw [5] (fun i wr => ∃ k : Nat, k ≤ 8 ∧ i = .int .i64 (k : Int) ∧ BB wr w.heap.size f ∧ PB wr (w.heap.size + 1) 0 0 ∧ PB wr (w.heap.size + 1 + 1) (wB f 0 k) (wB f 8 k) ∧ Below w.heap.size w wr) (fun i _ => (8 - intOf i).toNat)
  case atStart => exact ⟨0, by omega, rfl, K0, K1, K2, B0⟩
  case round =>
    clear K0 K1 K2 B0
    obtain ⟨k, hk, rfl, K0, K1, K2, hB⟩ := hrel
    by_cases h8 : k = 8
    · subst h8
      go_wp2_with (first | (refine wpList_load_row rfl 119 _ rfl (w.heap.size + 1 + 1) rfl 119 _ (0, 0) _ K2 Tryd.underlying119 rfl (info_pc _ _) ?_) | (refine wpList_store_row rfl 119 _ _ rfl (w.heap.size + 1) (pc (wB f 0 8) (wB f 8 8)) rfl rfl 119 _ K1 (info_pc _ _) rfl (pc_one _ _) ?_))
      exact bodyPost_ret (results_cell_row rfl _ _ _ 119 _ (0, 0) _ rfl (Blk.row K1 (pc (wB f 0 8) (wB f 8 8))) Tryd.underlying119 rfl (info_pc _ _)) rfl ⟨rfl, below_setRow hB (by omega) _⟩
    · have i1 : (k : Int) < 8 := by omega
      have i0 : (0 : Int) ≤ (k : Int) := by omega
      have i2 : (k : Int) < 16 := by omega
      obtain ⟨x, hx⟩ : ∃ x, x = wB f 0 k := ⟨_, rfl⟩
      obtain ⟨y, hy⟩ : ∃ y, y = wB f 8 k := ⟨_, rfl⟩
      have lx : x < 72057594037927936 := hx ▸ wB_lt7 fa 0 k (by omega)
      have ly : y < 72057594037927936 := hy ▸ wB_lt7 fa 8 k (by omega)
      have nx : wB f 0 (k + 1) = x * 256 + f k := by
        show wB f 0 k * 256 + f (0 + k) = _
        rw [Nat.zero_add, hx]
      have ny : wB f 8 (k + 1) = y * 256 + f (8 + k) := by
        show wB f 8 k * 256 + f (8 + k) = _
        rw [hy]
      rw [← hx, ← hy] at K2
      have la := fa k
      have lb := fa (8 + k)
      have ca := K0.cell k (by omega)
      have cb := K0.cell (8 + k) (by omega)
      generalize f k = a at *
      generalize f (8 + k) = b at *
      have o1 := or_byte x a lx la
      have o2 := or_byte y b ly lb
      generalize x * 256 + a = s1 at *
      generalize y * 256 + b = s2 at *
      have d1 : (a : Int) % 256 = (a : Int) := by omega
      have g1 : IntKind.u64.wrap (a : Int) = (a : Int) := by rw [IntKind.wrap_u64]; omega
      have g2 : IntKind.u64.wrap (b : Int) = (b : Int) := by rw [IntKind.wrap_u64]; omega
      have j1 : IntKind.i64.wrap (8 + (k : Int)) = ((8 + k : Nat) : Int) := by rw [IntKind.wrap_i64]; omega
      have j2 : ((8 + k : Nat) : Int) < 16 := by omega
      have j3 : (0 : Int) ≤ ((8 + k : Nat) : Int) := by omega
      generalize 8 + k = q at *
      clear hx hy
      go_upto_region 5 with fail
      rename_i aK
      refine wp_region_still_tail 9 (by kernel_rfl) (by kernel_rfl) ?_
      simp only [List.take_succ_cons, List.take_zero, List.drop_succ_cons, List.drop_zero]
      change wpStill _ _ (World.drew wr) (fun a' => wpList _ _ _ _ a' (World.drew wr)) _ _
      replace K0 : BB wr.drew _ _ := K0.of_block rfl
      replace K1 : PB wr.drew _ _ _ := K1.drew
      replace K2 : PB wr.drew _ _ _ := K2.drew
      replace hB := below_drew hB
      replace ca : wr.drew.cell? ⟨w.heap.size, k, none⟩ = _ := ca
      replace cb : wr.drew.cell? ⟨w.heap.size, q, none⟩ = _ := cb
      generalize World.drew wr = V at *
      have c0 := K2.c0
      have f2 := Blk.frozen K2 0
      have K0' : BB (V.setCell ⟨w.heap.size + 1 + 1, 0, none⟩ (.int .u64 (s1 : Int))) _ _ := Blk.far (p := ⟨w.heap.size + 1 + 1, 0, none⟩) K0 (by dsimp only; omega) _
      have K1' : PB (V.setCell ⟨w.heap.size + 1 + 1, 0, none⟩ (.int .u64 (s1 : Int))) _ _ _ := Blk.far (p := ⟨w.heap.size + 1 + 1, 0, none⟩) K1 (by dsimp only; omega) _
      have K2' := K2.set0 s1
      have hB' := hB.setCell (p := ⟨w.heap.size + 1 + 1, 0, none⟩) (by dsimp only; omega) (.int .u64 (s1 : Int))
      have cb' : (V.setCell ⟨w.heap.size + 1 + 1, 0, none⟩ (.int .u64 (s1 : Int))).cell? ⟨w.heap.size, q, none⟩ = _ := (cell_congr (heap_setCell_other V _ _ _ (by dsimp only; omega))).trans cb
      clear K0 K1 K2 hB cb
      repeat still_step
      refine wpStill_nil ?_
      go_wp2_with fail
      clear c0 f2 ca
      generalize World.setCell V _ _ = V1 at *
      have K0 := K0'
      have K1 := K1'
      have K2 := K2'
      have hB := hB'
      have cb := cb'
      clear K0' K1' K2' hB' cb'
      go_upto_region 6 with fail
      rename_i aK
      refine wp_region_still_tail 10 (by kernel_rfl) (by kernel_rfl) ?_
      simp only [List.take_succ_cons, List.take_zero, List.drop_succ_cons, List.drop_zero]
      change wpStill _ _ (World.drew V1) (fun a' => wpList _ _ _ _ a' (World.drew V1)) _ _
      replace K0 : BB V1.drew _ _ := K0.of_block rfl
      replace K1 : PB V1.drew _ _ _ := K1.drew
      replace K2 : PB V1.drew _ _ _ := K2.drew
      replace hB := below_drew hB
      replace cb : V1.drew.cell? ⟨w.heap.size, q, none⟩ = _ := cb
      generalize World.drew V1 = V2 at *
      have c1 := K2.c1
      have f2 := Blk.frozen K2 1
      have K0' : BB (V2.setCell ⟨w.heap.size + 1 + 1, 1, none⟩ (.int .u64 (s2 : Int))) _ _ := Blk.far (p := ⟨w.heap.size + 1 + 1, 1, none⟩) K0 (by dsimp only; omega) _
      have K1' : PB (V2.setCell ⟨w.heap.size + 1 + 1, 1, none⟩ (.int .u64 (s2 : Int))) _ _ _ := Blk.far (p := ⟨w.heap.size + 1 + 1, 1, none⟩) K1 (by dsimp only; omega) _
      have K2' := K2.set1 s2
      have hB' := hB.setCell (p := ⟨w.heap.size + 1 + 1, 1, none⟩) (by dsimp only; omega) (.int .u64 (s2 : Int))
      clear K0 K1 K2 hB
      repeat still_step
      refine wpStill_nil ?_
      go_wp2
      exact ⟨⟨k + 1, by omega, rfl, K0', K1', by rw [nx, ny]; exact K2', hB'⟩, by simp only [intOf]; omega⟩
end Go.Proofs.YtpihgljdbpnehaaDoor
