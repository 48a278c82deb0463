/- The program's read: a block as a polynomial; its contract. -/
import Derived.Test.YteaddadmdjjfaaaWb
namespace Go.Proofs.Yteaddadmdjjfaaa
open Go.RowKit

theorem pow256 (k : Nat) (hk : k < 8) : 256 ^ k ≤ 72057594037927936 := by
  have : 256 ^ k ≤ 256 ^ 7 := Nat.pow_le_pow_right (by decide) (by omega)
  exact this
theorem wB_lt7 {f : Nat → Nat} (h : ∀ i, f i < 256) (o k : Nat) (hk : k < 8) : wB f o k < 72057594037927936 := Nat.lt_of_lt_of_le (wB_lt h o k) (pow256 k hk)
theorem or_byte (x y : Nat) (hx : x < 72057594037927936) (hy : y < 256) : bits .or .u64 (IntKind.u64.wrap ((x : Int) * 256)) (y : Int) = ((x * 256 + y : Nat) : Int) := by
  have e : IntKind.u64.wrap ((x : Int) * 256) = ((x * 256 : Nat) : Int) := by rw [IntKind.wrap_u64]; omega
  rw [e, or64y 8 _ _ (by omega) (by omega) (by omega) (by omega) (by omega) (by decide)]
  omega
set_option maxHeartbeats 4000000 in
set_option maxRecDepth 100000 in
theorem read_w (f : Nat → Nat) (fa : ∀ i, f i < 256) (w : World) :
    Calls Try.prog 25 #[.agg (Iv .u8 (NI (LB f)))] w fun e w' => e = .returned (.agg (pc (wB f 0 8) (wB f 8 8))) ∧ Below w.heap.size w w' := by
  go_enter Try.func25, Try.ntmps25
  go_upto_region 3 with fail
  generalize hW : World.alloc (World.alloc (World.alloc w _) _) _ = W
  have B0 : Below w.heap.size w W := hW ▸ (((Below.refl w.heap.size w).alloc (Nat.le_refl _) _).alloc (by simp) _).alloc (by simp; omega) _
  have K0 : BB W w.heap.size f := hW ▸ ((Blk.new w 35 (Iv .u8 (NI (LB f)))).alloc _).alloc _
  have K1 : PB W (w.heap.size + 1) 0 0 := hW ▸ (Blk.new' (by simp) _ (pc 0 0)).alloc _
  have K2 : PB W (w.heap.size + 1 + 1) (wB f 0 0) (wB f 8 0) := hW ▸ Blk.new' (by simp) _ (pc 0 0)
  clear hW
  go_loopw [5] (fun i wr => ∃ k : Nat, k ≤ 8 ∧ i = .int .i64 (k : Int) ∧ BB wr w.heap.size f ∧ PB wr (w.heap.size + 1) 0 0 ∧ PB wr (w.heap.size + 1 + 1) (wB f 0 k) (wB f 8 k) ∧ Below w.heap.size w wr) (fun i _ => (8 - intOf i).toNat)
  case atStart => exact ⟨0, by omega, rfl, K0, K1, K2, B0⟩
  case round =>
    clear K0 K1 K2 B0
    obtain ⟨k, hk, rfl, K0, K1, K2, hB⟩ := hrel
    by_cases h8 : k = 8
    · subst h8
      go_wp2_with (first | (refine wpList_load_row rfl 58 _ rfl (w.heap.size + 1 + 1) rfl 58 _ (0, 0) _ K2 Try.underlying58 rfl (info_pc _ _) ?_) | (refine wpList_store_row rfl 58 _ _ rfl (w.heap.size + 1) (pc (wB f 0 8) (wB f 8 8)) rfl rfl 58 _ K1 (info_pc _ _) rfl (pc_one _ _) ?_))
      exact bodyPost_ret (results_cell_row rfl _ _ _ 58 _ (0, 0) _ rfl (Blk.row K1 (pc (wB f 0 8) (wB f 8 8))) Try.underlying58 rfl (info_pc _ _)) rfl ⟨rfl, below_setRow hB (by omega) _⟩
    · have i1 : (k : Int) < 8 := by omega
      have i0 : (0 : Int) ≤ (k : Int) := by omega
      have i2 : (k : Int) < 16 := by omega
      obtain ⟨x, hx⟩ : ∃ x, x = wB f 0 k := ⟨_, rfl⟩
      obtain ⟨y, hy⟩ : ∃ y, y = wB f 8 k := ⟨_, rfl⟩
      have lx : x < 72057594037927936 := hx ▸ wB_lt7 fa 0 k (by omega)
      have ly : y < 72057594037927936 := hy ▸ wB_lt7 fa 8 k (by omega)
      have nx : wB f 0 (k + 1) = x * 256 + f k := by
        show wB f 0 k * 256 + f (0 + k) = _
        rw [Nat.zero_add, hx]
      have ny : wB f 8 (k + 1) = y * 256 + f (8 + k) := by
        show wB f 8 k * 256 + f (8 + k) = _
        rw [hy]
      rw [← hx, ← hy] at K2
      have la := fa k
      have lb := fa (8 + k)
      have ca := K0.cell k (by omega)
      have cb := K0.cell (8 + k) (by omega)
      generalize f k = a at *
      generalize f (8 + k) = b at *
      have o1 := or_byte x a lx la
      have o2 := or_byte y b ly lb
      generalize x * 256 + a = s1 at *
      generalize y * 256 + b = s2 at *
      have d1 : (a : Int) % 256 = (a : Int) := by omega
      have g1 : IntKind.u64.wrap (a : Int) = (a : Int) := by rw [IntKind.wrap_u64]; omega
      have g2 : IntKind.u64.wrap (b : Int) = (b : Int) := by rw [IntKind.wrap_u64]; omega
      have j1 : IntKind.i64.wrap (8 + (k : Int)) = ((8 + k : Nat) : Int) := by rw [IntKind.wrap_i64]; omega
      have j2 : ((8 + k : Nat) : Int) < 16 := by omega
      have j3 : (0 : Int) ≤ ((8 + k : Nat) : Int) := by omega
      generalize 8 + k = q at *
      clear hx hy
      go_upto_region 5 with fail
      rename_i aK
      refine wp_region_still_tail 9 (by kernel_rfl) (by kernel_rfl) ?_
      simp only [List.take_succ_cons, List.take_zero, List.drop_succ_cons, List.drop_zero]
      change wpStill _ _ (World.drew wr) (fun a' => wpList _ _ _ _ a' (World.drew wr)) _ _
      replace K0 : BB wr.drew _ _ := K0.of_block rfl
      replace K1 : PB wr.drew _ _ _ := K1.drew
      replace K2 : PB wr.drew _ _ _ := K2.drew
      replace hB := below_drew hB
      replace ca : wr.drew.cell? ⟨w.heap.size, k, none⟩ = _ := ca
      replace cb : wr.drew.cell? ⟨w.heap.size, q, none⟩ = _ := cb
      generalize World.drew wr = V at *
      have c0 := K2.c0
      have f2 := Blk.frozen K2 0
      have K0' : BB (V.setCell ⟨w.heap.size + 1 + 1, 0, none⟩ (.int .u64 (s1 : Int))) _ _ := Blk.far (p := ⟨w.heap.size + 1 + 1, 0, none⟩) K0 (by dsimp only; omega) _
      have K1' : PB (V.setCell ⟨w.heap.size + 1 + 1, 0, none⟩ (.int .u64 (s1 : Int))) _ _ _ := Blk.far (p := ⟨w.heap.size + 1 + 1, 0, none⟩) K1 (by dsimp only; omega) _
      have K2' := K2.set0 s1
      have hB' := hB.setCell (p := ⟨w.heap.size + 1 + 1, 0, none⟩) (by dsimp only; omega) (.int .u64 (s1 : Int))
      have cb' : (V.setCell ⟨w.heap.size + 1 + 1, 0, none⟩ (.int .u64 (s1 : Int))).cell? ⟨w.heap.size, q, none⟩ = _ := (cell_congr (heap_setCell_other V _ _ _ (by dsimp only; omega))).trans cb
      clear K0 K1 K2 hB cb
      repeat still_step
      refine wpStill_nil ?_
      go_wp2_with fail
      clear c0 f2 ca
      generalize World.setCell V _ _ = V1 at *
      have K0 := K0'
      have K1 := K1'
      have K2 := K2'
      have hB := hB'
      have cb := cb'
      clear K0' K1' K2' hB' cb'
      go_upto_region 6 with fail
      rename_i aK
      refine wp_region_still_tail 10 (by kernel_rfl) (by kernel_rfl) ?_
      simp only [List.take_succ_cons, List.take_zero, List.drop_succ_cons, List.drop_zero]
      change wpStill _ _ (World.drew V1) (fun a' => wpList _ _ _ _ a' (World.drew V1)) _ _
      replace K0 : BB V1.drew _ _ := K0.of_block rfl
      replace K1 : PB V1.drew _ _ _ := K1.drew
      replace K2 : PB V1.drew _ _ _ := K2.drew
      replace hB := below_drew hB
      replace cb : V1.drew.cell? ⟨w.heap.size, q, none⟩ = _ := cb
      generalize World.drew V1 = V2 at *
      have c1 := K2.c1
      have f2 := Blk.frozen K2 1
      have K0' : BB (V2.setCell ⟨w.heap.size + 1 + 1, 1, none⟩ (.int .u64 (s2 : Int))) _ _ := Blk.far (p := ⟨w.heap.size + 1 + 1, 1, none⟩) K0 (by dsimp only; omega) _
      have K1' : PB (V2.setCell ⟨w.heap.size + 1 + 1, 1, none⟩ (.int .u64 (s2 : Int))) _ _ _ := Blk.far (p := ⟨w.heap.size + 1 + 1, 1, none⟩) K1 (by dsimp only; omega) _
      have K2' := K2.set1 s2
      have hB' := hB.setCell (p := ⟨w.heap.size + 1 + 1, 1, none⟩) (by dsimp only; omega) (.int .u64 (s2 : Int))
      clear K0 K1 K2 hB
      repeat still_step
      refine wpStill_nil ?_
      go_wp2
      exact ⟨⟨k + 1, by omega, rfl, K0', K1', by rw [nx, ny]; exact K2', hB'⟩, by simp only [intOf]; omega⟩
end Go.Proofs.Yteaddadmdjjfaaa
/- The program's block: a polynomial as a block; its contract. -/
namespace Go.Proofs.Yteaddadmdjjfaaa
open Go.RowKit

/-- Bytes put in from the front of both halves. -/
def M2 (f : Nat → Nat) (k i : Nat) : Nat := if i < k ∨ 8 ≤ i ∧ i < 8 + k then f i else 0
def M3 (f : Nat → Nat) (k i : Nat) : Nat := if i < k + 1 ∨ 8 ≤ i ∧ i < 8 + k then f i else 0
theorem word_byte {f : Nat → Nat} (fa : ∀ i, f i < 256) (o k : Nat) (hk : k < 8) : ((wB f o 8 : Nat) : Int) / 2 ^ (8 * (7 - k)) % 256 = ((f (o + k) : Nat) : Int) := by
  have h := wB_byte fa o 8 k hk
  rw [← h, show (256 : Nat) ^ (8 - 1 - k) = 2 ^ (8 * (7 - k)) by rw [Nat.pow_mul]]
  simp
set_option maxHeartbeats 4000000 in
set_option maxRecDepth 100000 in
theorem block_w (f : Nat → Nat) (fa : ∀ i, f i < 256) (w : World) :
    Calls Try.prog 30 #[.agg (pc (wB f 0 8) (wB f 8 8))] w fun e w' => e = .returned (.agg (Iv .u8 (NI (LB f)))) ∧ Below w.heap.size w w' := by
  have wx := wB_lt8 fa 0
  have wy := wB_lt8 fa 8
  have bx := fun k hk => word_byte fa 0 k hk
  have byy := fun k hk => word_byte fa 8 k hk
  generalize wB f 0 8 = x at *
  generalize wB f 8 8 = y at *
  go_enter Try.func30, Try.ntmps30
  go_upto_region 3 with fail
  generalize hW : World.alloc (World.alloc (World.alloc w _) _) _ = W
  have B0 : Below w.heap.size w W := hW ▸ (((Below.refl w.heap.size w).alloc (Nat.le_refl _) _).alloc (by simp) _).alloc (by simp; omega) _
  have K0 : PB W w.heap.size x y := hW ▸ ((Blk.new w 58 (pc x y)).alloc _).alloc _
  have K1 : BB W (w.heap.size + 1) (fun _ => 0) := hW ▸ (Blk.new' (by simp) _ (Iv .u8 (NI (LB fun _ => 0)))).alloc _
  have K2 : BB W (w.heap.size + 1 + 1) (M2 f 0) := by
    have h : BB W (w.heap.size + 1 + 1) (fun _ => 0) := hW ▸ Blk.new' (by simp) _ (Iv .u8 (NI (LB fun _ => 0)))
    exact h.congr fun i hi => (if_neg (by omega)).symm
  clear hW
  go_loopw [6] (fun i wr => ∃ k : Nat, k ≤ 8 ∧ i = .int .i64 (k : Int) ∧ PB wr w.heap.size x y ∧ BB wr (w.heap.size + 1) (fun _ => 0) ∧ BB wr (w.heap.size + 1 + 1) (M2 f k) ∧ Below w.heap.size w wr) (fun i _ => (8 - intOf i).toNat)
  case atStart => exact ⟨0, by omega, rfl, K0, K1, K2, B0⟩
  case round =>
    clear K0 K1 K2 B0
    obtain ⟨k, hk, rfl, K0, K1, K2, hB⟩ := hrel
    by_cases h8 : k = 8
    · subst h8
      replace K2 := K2.congr (f' := f) fun i hi => if_pos (by omega)
      go_wp2_with (first | (refine wpList_load_row rfl 35 _ rfl (w.heap.size + 1 + 1) rfl 35 _ (0, 0) _ K2 Try.underlying35 rfl (info_bl _) ?_) | (refine wpList_store_row rfl 35 _ _ rfl (w.heap.size + 1) (Iv .u8 (NI (LB f))) rfl rfl 35 _ K1 (info_bl _) (by rw [Iv_size, Iv_size, NI_length, NI_length, LB_length, LB_length]) (Iv_one _ _) ?_))
      exact bodyPost_ret (results_cell_row rfl _ _ _ 35 _ (0, 0) _ rfl (Blk.row K1 (Iv .u8 (NI (LB f)))) Try.underlying35 rfl (info_bl _)) rfl ⟨rfl, below_setRow hB (by omega) _⟩
    · have i1 : (k : Int) < 8 := by omega
      have i0 : (0 : Int) ≤ (k : Int) := by omega
      have i2 : (k : Int) < 16 := by omega
      have q1 := bx k (by omega)
      have q2 := byy k (by omega)
      rw [Nat.zero_add] at q1
      clear bx byy
      obtain ⟨r, hr⟩ : ∃ r, r = 7 - k := ⟨_, rfl⟩
      obtain ⟨s, hs⟩ : ∃ s, s = 8 * r := ⟨_, rfl⟩
      rw [← hr, ← hs] at q1 q2
      have r1 : IntKind.i64.wrap (7 - (k : Int)) = (r : Int) := by rw [IntKind.wrap_i64]; omega
      have r2 : IntKind.i64.wrap (8 * (r : Int)) = (s : Int) := by rw [IntKind.wrap_i64]; omega
      have s0 : (0 : Int) ≤ (s : Int) := by omega
      have s1 : min s 64 = s := by omega
      have j1 : IntKind.i64.wrap (8 + (k : Int)) = ((8 + k : Nat) : Int) := by rw [IntKind.wrap_i64]; omega
      have j2 : ((8 + k : Nat) : Int) < 16 := by omega
      have j3 : (0 : Int) ≤ ((8 + k : Nat) : Int) := by omega
      have cx := K0.c0
      have cy := K0.c1
      have c1 := K2.cell k (by omega)
      have f1 := Blk.frozen K2 k
      have K2' := K2.set k (M3 f k) (fun i hi => by
        unfold M2 M3
        by_cases h : i < k
        · rw [if_pos (by omega), if_pos (by omega)]
        · by_cases h2 : 8 ≤ i ∧ i < 8 + k
          · rw [if_pos (by omega), if_pos (by omega)]
          · rw [if_neg (by omega), if_neg (by omega)])
      rw [show M3 f k k = f k from if_pos (by omega)] at K2'
      have K0' : PB (wr.setCell ⟨w.heap.size + 1 + 1, k, none⟩ (.int .u8 ((f k : Nat) : Int))) _ _ _ := Blk.far (p := ⟨w.heap.size + 1 + 1, k, none⟩) K0 (by dsimp only; omega) _
      have cy' := K0'.c1
      have c2 := K2'.cell (8 + k) (by omega)
      have f2 := Blk.frozen K2' (8 + k)
      have K0'' : PB ((wr.setCell ⟨w.heap.size + 1 + 1, k, none⟩ (.int .u8 ((f k : Nat) : Int))).setCell ⟨w.heap.size + 1 + 1, 8 + k, none⟩ (.int .u8 ((f (8 + k) : Nat) : Int))) _ _ _ := Blk.far (p := ⟨w.heap.size + 1 + 1, 8 + k, none⟩) K0' (by dsimp only; omega) _
      have K1'' : BB ((wr.setCell ⟨w.heap.size + 1 + 1, k, none⟩ (.int .u8 ((f k : Nat) : Int))).setCell ⟨w.heap.size + 1 + 1, 8 + k, none⟩ (.int .u8 ((f (8 + k) : Nat) : Int))) _ _ := Blk.far (p := ⟨w.heap.size + 1 + 1, 8 + k, none⟩) (Blk.far (p := ⟨w.heap.size + 1 + 1, k, none⟩) K1 (by dsimp only; omega) _) (by dsimp only; omega) _
      have hB'' : Below w.heap.size w ((wr.setCell ⟨w.heap.size + 1 + 1, k, none⟩ (.int .u8 ((f k : Nat) : Int))).setCell ⟨w.heap.size + 1 + 1, 8 + k, none⟩ (.int .u8 ((f (8 + k) : Nat) : Int))) := (hB.setCell (p := ⟨w.heap.size + 1 + 1, k, none⟩) (by dsimp only; omega) _).setCell (p := ⟨w.heap.size + 1 + 1, 8 + k, none⟩) (by dsimp only; omega) _
      have K2'' := K2'.set (8 + k) (M2 f (k + 1)) (fun i hi => by
        unfold M2 M3
        by_cases h : i < k + 1
        · rw [if_pos (by omega), if_pos (by omega)]
        · by_cases h2 : 8 ≤ i ∧ i < 8 + k
          · rw [if_pos (by omega), if_pos (by omega)]
          · rw [if_neg (by omega), if_neg (by omega)])
      rw [show M2 f (k + 1) (8 + k) = f (8 + k) from if_pos (by omega)] at K2''
      clear hr hs K0 K1 K2 K0' K2' hB
      go_wp2
      exact ⟨⟨k + 1, by omega, rfl, K0'', K1'', K2'', hB''⟩, by simp only [intOf]; omega⟩
end Go.Proofs.Yteaddadmdjjfaaa
