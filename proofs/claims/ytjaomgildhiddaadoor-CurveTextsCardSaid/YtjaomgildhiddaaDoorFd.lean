/- Contracts of field's sums: Add, Sub, Neg, Small. -/
import Derived.Test.YtjaomgildhiddaaDoorFc
import Derived.StillTailTactics
import Derived.Deep.QuietTactic
import Derived.BigQuiet
import Derived.Deep.RegionHeld3
import Derived.Deep.DrawnRows
namespace Go.Proofs.YtjaomgildhiddaaDoor
open Go.RowKit

theorem info_El (n : Nat) : (Tryd.prog.info? 36).map (·.size) = some (El_cells n).size := by kernel_rfl
theorem El_one (n : Nat) : (El_cells n).all (·.oneCell') = true := by simp [El_cells, Value.oneCell']

set_option maxHeartbeats 1000000 in
set_option maxRecDepth 100000 in
theorem add_parts (x0 x1 x2 x3 x4 y0 y1 y2 y3 y4 : Int) (n : Nat) (w : World)
    (p0 : 0 ≤ x0) (p1 : 0 ≤ x1) (p2 : 0 ≤ x2) (p3 : 0 ≤ x3) (p4 : 0 ≤ x4) (q0 : x0 < 2251799813685248) (q1 : x1 < 2251799813685248) (q2 : x2 < 2251799813685248) (q3 : x3 < 2251799813685248) (q4 : x4 < 2251799813685248)
    (r0 : 0 ≤ y0) (r1 : 0 ≤ y1) (r2 : 0 ≤ y2) (r3 : 0 ≤ y3) (r4 : 0 ≤ y4) (s0 : y0 < 2251799813685248) (s1 : y1 < 2251799813685248) (s2 : y2 < 2251799813685248) (s3 : y3 < 2251799813685248) (s4 : y4 < 2251799813685248)
    (hn : Hid (val5 (x0 + y0) (x1 + y1) (x2 + y2) (x3 + y3) (x4 + y4) = n)) :
    Calls Tryd.prog 63 #[.agg #[.int .u64 x0, .int .u64 x1, .int .u64 x2, .int .u64 x3, .int .u64 x4], .agg #[.int .u64 y0, .int .u64 y1, .int .u64 y2, .int .u64 y3, .int .u64 y4]] w fun e w' => e = .returned (El (n % pp)) ∧ Below w.heap.size w w' := by
  go_enter Tryd.func63, Tryd.ntmps63
  go_wp2
  generalize hW : World.alloc (World.alloc (World.alloc w _) _) _ = W
  have B0 : Blk W w.heap.size 36 #[.int .u64 x0, .int .u64 x1, .int .u64 x2, .int .u64 x3, .int .u64 x4] := hW ▸ ((Blk.new w _ _).alloc _).alloc _
  have B1 : Blk W (w.heap.size + 1) 36 #[.int .u64 y0, .int .u64 y1, .int .u64 y2, .int .u64 y3, .int .u64 y4] := hW ▸ (size_alloc w _ ▸ Blk.new (w.alloc _) _ _).alloc _
  have B2 : Blk W (w.heap.size + 1 + 1) 36 #[.int .u64 0, .int .u64 0, .int .u64 0, .int .u64 0, .int .u64 0] := hW ▸ (by simpa [size_alloc] using Blk.new ((w.alloc _).alloc _) _ _)
  have BW : Below w.heap.size w W := hW ▸ (((Below.refl _ _).alloc (Nat.le_refl _) _).alloc (by simp) _).alloc (by simp; omega) _
  clear hW
  refine wp_region_still_tail 45 (by kernel_rfl) (by kernel_rfl) ?_
  simp only [List.take_succ_cons, List.take_zero, List.drop_succ_cons, List.drop_zero]
  change wpStill _ _ (World.drew W) (fun a' => wpList _ _ _ _ a' (World.drew W)) _ _
  generalize hV : World.drew W = V
  obtain ⟨d0, d1, d2, d3, d4⟩  := hV ▸ B0.drew.five
  obtain ⟨e0, e1, e2, e3, e4⟩  := hV ▸ B1.drew.five
  have BV : Blk V _ _ _ := hV ▸ B2.drew
  have BB := hV ▸ below_drew BW
  clear B0 B1 B2 BW hV W
  repeat still_step
  refine wpStill_nil ?_
  go_wp2_with fail
  refine (reduce_any _ _ _ _ _ n _ (by omega) (by omega) (by omega) (by omega) (by omega) (by omega) (by omega) (by omega) (by omega) (by omega) hn.out).mono ?_
  rintro e w1 ⟨rfl, hb⟩
  have B3 := BV.below hb BV.lt
  have hB := BB.trans (hb.mono BB.size)
  clear hb BB BV d0 d1 d2 d3 d4 e0 e1 e2 e3 e4
  go_wp2_with (refine wpList_store_row rfl 36 _ _ rfl (w.heap.size + 1 + 1) (El_cells _) rfl rfl 36 _ B3 (info_El _) rfl (El_one _) ?_)
  exact bodyPost_ret (results_cell_row rfl _ _ _ 36 _ (0, 0) _ rfl (B3.row _) Tryd.underlying36 rfl (info_El _)) rfl ⟨rfl, below_setRow hB (by omega) _⟩
theorem add_any (a b : Nat) (w : World) (ha : a < pp) (hb : b < pp) : Calls Tryd.prog 63 #[El a, El b] w fun e w' => e = .returned (El ((a + b) % pp)) ∧ Below w.heap.size w w' := by
  rw [pp_eq] at ha hb
  exact add_parts _ _ _ _ _ _ _ _ _ _ (a + b) w (by omega) (by omega) (by omega) (by omega) (by omega) (by omega) (by omega) (by omega) (by omega) (by omega)
    (by omega) (by omega) (by omega) (by omega) (by omega) (by omega) (by omega) (by omega) (by omega) (by omega) (Lib.hid (by unfold val5; omega))
set_option maxHeartbeats 1000000 in
set_option maxRecDepth 100000 in
theorem sub_parts (x0 x1 x2 x3 x4 y0 y1 y2 y3 y4 : Int) (n : Nat) (w : World)
    (p0 : 0 ≤ x0) (p1 : 0 ≤ x1) (p2 : 0 ≤ x2) (p3 : 0 ≤ x3) (p4 : 0 ≤ x4) (q0 : x0 < 2251799813685248) (q1 : x1 < 2251799813685248) (q2 : x2 < 2251799813685248) (q3 : x3 < 2251799813685248) (q4 : x4 < 2251799813685248)
    (r0 : 0 ≤ y0) (r1 : 0 ≤ y1) (r2 : 0 ≤ y2) (r3 : 0 ≤ y3) (r4 : 0 ≤ y4) (s0 : y0 < 2251799813685248) (s1 : y1 < 2251799813685248) (s2 : y2 < 2251799813685248) (s3 : y3 < 2251799813685248) (s4 : y4 < 2251799813685248)
    (hn : Hid (val5 (4503599627370458 + x0 - y0) (4503599627370494 + x1 - y1) (4503599627370494 + x2 - y2) (4503599627370494 + x3 - y3) (4503599627370494 + x4 - y4) = n)) :
    Calls Tryd.prog 56 #[.agg #[.int .u64 x0, .int .u64 x1, .int .u64 x2, .int .u64 x3, .int .u64 x4], .agg #[.int .u64 y0, .int .u64 y1, .int .u64 y2, .int .u64 y3, .int .u64 y4]] w fun e w' => e = .returned (El (n % pp)) ∧ Below w.heap.size w w' := by
  go_enter Tryd.func56, Tryd.ntmps56
  go_wp2
  generalize hW : World.alloc (World.alloc (World.alloc w _) _) _ = W
  have B0 : Blk W w.heap.size 36 #[.int .u64 x0, .int .u64 x1, .int .u64 x2, .int .u64 x3, .int .u64 x4] := hW ▸ ((Blk.new w _ _).alloc _).alloc _
  have B1 : Blk W (w.heap.size + 1) 36 #[.int .u64 y0, .int .u64 y1, .int .u64 y2, .int .u64 y3, .int .u64 y4] := hW ▸ (size_alloc w _ ▸ Blk.new (w.alloc _) _ _).alloc _
  have B2 : Blk W (w.heap.size + 1 + 1) 36 #[.int .u64 0, .int .u64 0, .int .u64 0, .int .u64 0, .int .u64 0] := hW ▸ (by simpa [size_alloc] using Blk.new ((w.alloc _).alloc _) _ _)
  have BW : Below w.heap.size w W := hW ▸ (((Below.refl _ _).alloc (Nat.le_refl _) _).alloc (by simp) _).alloc (by simp; omega) _
  clear hW
  refine wp_region_still_tail 50 (by kernel_rfl) (by kernel_rfl) ?_
  simp only [List.take_succ_cons, List.take_zero, List.drop_succ_cons, List.drop_zero]
  change wpStill _ _ (World.drew W) (fun a' => wpList _ _ _ _ a' (World.drew W)) _ _
  generalize hV : World.drew W = V
  obtain ⟨d0, d1, d2, d3, d4⟩  := hV ▸ B0.drew.five
  obtain ⟨e0, e1, e2, e3, e4⟩  := hV ▸ B1.drew.five
  have BV : Blk V _ _ _ := hV ▸ B2.drew
  have BB := hV ▸ below_drew BW
  clear B0 B1 B2 BW hV W
  repeat still_step
  refine wpStill_nil ?_
  go_wp2_with fail
  refine (reduce_any _ _ _ _ _ n _ (by omega) (by omega) (by omega) (by omega) (by omega) (by omega) (by omega) (by omega) (by omega) (by omega) hn.out).mono ?_
  rintro e w1 ⟨rfl, hb⟩
  have B3 := BV.below hb BV.lt
  have hB := BB.trans (hb.mono BB.size)
  clear hb BB BV d0 d1 d2 d3 d4 e0 e1 e2 e3 e4
  go_wp2_with (refine wpList_store_row rfl 36 _ _ rfl (w.heap.size + 1 + 1) (El_cells _) rfl rfl 36 _ B3 (info_El _) rfl (El_one _) ?_)
  exact bodyPost_ret (results_cell_row rfl _ _ _ 36 _ (0, 0) _ rfl (B3.row _) Tryd.underlying36 rfl (info_El _)) rfl ⟨rfl, below_setRow hB (by omega) _⟩
theorem sub_any (a b : Nat) (w : World) (ha : a < pp) (hb : b < pp) : Calls Tryd.prog 56 #[El a, El b] w fun e w' => e = .returned (El ((a + (pp - b)) % pp)) ∧ Below w.heap.size w w' := by
  have hh : (a + pp + (pp - b)) % pp = (a + (pp - b)) % pp := by rw [Nat.add_right_comm, Nat.add_mod_right]
  rw [← hh]
  rw [pp_eq] at ha hb
  exact sub_parts _ _ _ _ _ _ _ _ _ _ (a + pp + (pp - b)) w (by omega) (by omega) (by omega) (by omega) (by omega) (by omega) (by omega) (by omega) (by omega) (by omega)
    (by omega) (by omega) (by omega) (by omega) (by omega) (by omega) (by omega) (by omega) (by omega) (by omega) (Lib.hid (by unfold val5; rw [pp_eq]; omega))

set_option maxHeartbeats 1000000 in
theorem small_any (n : Nat) (w : World) (hn : n < 4294967296) : Calls Tryd.prog 52 #[.int .u32 n] w fun e w' => e = .returned (El n) ∧ Below w.heap.size w w' := by
  go_enter Tryd.func52, Tryd.ntmps52
  go_wp2
  have hE : El n = .agg #[.int .u64 n, .int .u64 0, .int .u64 0, .int .u64 0, .int .u64 0] := (El_of n n 0 0 0 0 (by unfold val5; omega) (by omega) (by omega) (by decide) (by decide) (by decide) (by decide) (by decide) (by decide)).symm
  refine bodyPost_ret (v := El n) ?_ rfl ⟨rfl, ?_⟩
  · rw [hE]; simp [results, Tryd.results52, go_sem]
  · exact (Below.refl _ _).alloc (Nat.le_refl _) _

set_option maxHeartbeats 1000000 in
theorem neg_any (b : Nat) (w : World) (hb : b < pp) : Calls Tryd.prog 36 #[El b] w fun e w' => e = .returned (El ((pp - b) % pp)) ∧ Below w.heap.size w w' := by
  have hs := fun W => sub_any 0 b W pp_pos hb
  simp only [Nat.zero_add] at hs
  unfold El El_cells at hs ⊢
  have H := Lib.hid hs
  clear hs
  go_enter Tryd.func36, Tryd.ntmps36
  go_wp2_with fail
  refine (H.out _).mono ?_
  rintro e w1 ⟨rfl, hb⟩
  have B3 : Blk w1 (w.heap.size + 1) 36 #[.int .u64 0, .int .u64 0, .int .u64 0, .int .u64 0, .int .u64 0] := Blk.below (Blk.new' (size_alloc _ _).symm _ _) hb (by simp)
  have hB : Below w.heap.size w w1 := (((Below.refl w.heap.size w).alloc (Nat.le_refl _) _).alloc (by simp) _).trans (hb.mono (by simp; omega))
  clear hb
  go_wp2_with (refine wpList_store_row rfl 36 _ _ rfl (w.heap.size + 1) (El_cells _) rfl rfl 36 _ B3 (info_El _) rfl (El_one _) ?_)
  exact bodyPost_ret (results_cell_row rfl _ _ _ 36 _ (0, 0) _ rfl (B3.row _) Tryd.underlying36 rfl (info_El _)) rfl ⟨rfl, below_setRow hB (by omega) _⟩

end Go.Proofs.YtjaomgildhiddaaDoor
